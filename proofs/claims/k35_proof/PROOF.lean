import PyProof.Rows.All
import Wide.All
import OpenK.AllK
import Wide.FinOn
import PyProof.EqAt
import PyProof.EqKinds
import PyProof.TupleCall
import KE.BitLaws
import PySem.Challenge.RW_sumnets_k35_rules_told
section
-- CHANGE: your row's module here, as the last of these rows
set_option Elab.async false
set_option linter.all false
set_option maxRecDepth 100000
namespace L2
open PySem PySem.Spec PyProof.Rows

abbrev Key := Sum Int Str
def keyIs : Key → Value → Bool
  | .inl k, v => Value.isInt k v
  | .inr x, v => Value.isStrOf x v
def keyH (w : World) : Key → Int
  | .inl k => hashInt k
  | .inr x => hashStr w x
theorem keyIs_shape : ∀ {k : Key} {v : Value}, keyIs k v = true → (∃ i t, k = Sum.inl i ∧ v = Value.int i t) ∨ (∃ x t, k = Sum.inr x ∧ v = Value.str x t)
  | .inl i, v, h => by
    obtain ⟨t, e⟩ := Value.isInt_shape (k := i) (v := v) h
    exact .inl ⟨i, t, rfl, e⟩
  | .inr x, v, h => by
    obtain ⟨t, e⟩ := Value.isStrOf_shape (x := x) (v := v) h
    exact .inr ⟨x, t, rfl, e⟩
theorem keyIs_int (i : Int) (t : Tok) : keyIs (.inl i) (.int i t) = true := by simp [keyIs, Value.isInt]
theorem keyIs_str (x : Str) (t : Tok) : keyIs (.inr x) (.str x t) = true := by simp [keyIs, Value.isStrOf]
theorem key_ll (a b : Int) : decide ((Sum.inl a : Key) = Sum.inl b) = (a == b) := by
  by_cases e : a = b
  · subst e; simp
  · have h : ¬ (Sum.inl a : Key) = Sum.inl b := fun q => e (Sum.inl.inj q)
    rw [decide_eq_false h]
    exact (beq_eq_false_iff_ne.mpr e).symm
theorem key_rr (a b : Str) : decide ((Sum.inr a : Key) = Sum.inr b) = decide (a = b) := by
  by_cases e : a = b
  · subst e; simp
  · have h : ¬ (Sum.inr a : Key) = Sum.inr b := fun q => e (Sum.inr.inj q)
    rw [decide_eq_false h, decide_eq_false e]
theorem key_lr (a : Int) (b : Str) : decide ((Sum.inl a : Key) = Sum.inr b) = false := decide_eq_false (fun q => nomatch q)
theorem key_rl (a : Str) (b : Int) : decide ((Sum.inr a : Key) = Sum.inl b) = false := decide_eq_false (fun q => nomatch q)

def mixKind (prog : Program) (w : World) : PySem.KeyKind prog w Key where
  is := keyIs
  hash := keyH w
  inj := fun v a b ha hb => by
    rcases keyIs_shape ha with ⟨i, t, rfl, rfl⟩ | ⟨x, t, rfl, rfl⟩
    · rcases keyIs_shape hb with ⟨j, u, rfl, e⟩ | ⟨y, u, rfl, e⟩
      · injection e with e1 _; rw [e1]
      · exact nomatch e
    · rcases keyIs_shape hb with ⟨j, u, rfl, e⟩ | ⟨y, u, rfl, e⟩
      · exact nomatch e
      · injection e with e1 _; rw [e1]
  byValue := fun k v h => by
    rcases keyIs_shape h with ⟨i, t, rfl, rfl⟩ | ⟨x, t, rfl, rfl⟩ <;> rfl
  pyHash := fun hv h => by
    rcases keyIs_shape hv with ⟨i, t, rfl, rfl⟩ | ⟨x, t, rfl, rfl⟩
    · exact wpAny_pyHash_int h
    · exact wpAny_pyHash_str h
  eqBool := fun hu hv h => by
    rcases keyIs_shape hu with ⟨i, t, rfl, rfl⟩ | ⟨x, t, rfl, rfl⟩
    · rcases keyIs_shape hv with ⟨j, u, rfl, rfl⟩ | ⟨y, u, rfl, rfl⟩
      · rw [key_ll] at h; exact wpAny_eqBool_int h
      · rw [key_lr] at h; exact SeqAt.EqAt.int_str i t y u _ _ _ _ h
    · rcases keyIs_shape hv with ⟨j, u, rfl, rfl⟩ | ⟨y, u, rfl, rfl⟩
      · rw [key_rl] at h; exact SeqAt.EqAt.str_int x t j u _ _ _ _ h
      · rw [key_rr] at h; exact wpAny_eqBool_str h
  «strs» := fun k x t v h => by
    rcases keyIs_shape h with ⟨i, u, rfl, e⟩ | ⟨y, u, rfl, e⟩
    · exact nomatch e
    · injection e with e1 _
      subst e1
      cases v <;> rfl

theorem mixKind_int (prog : Program) (w : World) (i : Int) (t : Tok) : (mixKind prog w).is (.inl i) (.int i t) = true := keyIs_int i t
theorem mixKind_str (prog : Program) (w : World) (x : Str) (t : Tok) : (mixKind prog w).is (.inr x) (.str x t) = true := keyIs_str x t
end L2

namespace L2
open PySem PySem.Spec PyProof.Rows

inductive V where
  | non | bl (b : Bool) | int (i : Int) | str (x : Str) | byt (b : Array UInt8) | flt (b : UInt64) | ref (a : Addr) | ty (n : String)
  deriving DecidableEq

def RelV : V → Value → Prop
  | .non, u => u = Value.none
  | .bl b, u => u = Value.bool b
  | .int i, u => ∃ t, u = Value.int i t
  | .str x, u => ∃ t, u = Value.str x t
  | .byt b, u => ∃ t, u = Value.bytes b t
  | .flt b, u => ∃ t, u = Value.float b t
  | .ref a, u => u = Value.ref a
  | .ty n, u => u = Value.type n

abbrev Vals : List V → List Value → Prop := Paired RelV
theorem Vals.length {xs : List V} {us : List Value} (r : Vals xs us) : xs.length = us.length := Paired.length r
theorem Vals.get : ∀ {xs : List V} {us : List Value} {i : Nat} {x : V}, Vals xs us → xs[i]? = some x → ∃ u, us[i]? = some u ∧ RelV x u
  | _, _, _, _, .nil, e => by simp at e
  | _, _, 0, _, .cons r _, e => by simp at e; subst e; exact ⟨_, rfl, r⟩
  | _, _, i + 1, x, .cons _ t, e => by
    obtain ⟨u, h1, h2⟩ := Vals.get (i := i) (x := x) t (by simpa using e)
    exact ⟨u, by simpa using h1, h2⟩
theorem Vals.set {x : V} {u : Value} (r : RelV x u) : ∀ {xs : List V} {us : List Value} (i : Nat), Vals xs us → Vals (xs.set i x) (us.set i u)
  | _, _, _, .nil => .nil
  | _, _, 0, .cons _ t => .cons r t
  | _, _, i + 1, .cons q t => .cons q (Vals.set r i t)
theorem Vals.append : ∀ {xs ys : List V} {us ws : List Value}, Vals xs us → Vals ys ws → Vals (xs ++ ys) (us ++ ws)
  | _, _, _, _, .nil, s => s
  | _, _, _, _, .cons r t, s => .cons r (Vals.append t s)
theorem Vals.take : ∀ {xs : List V} {us : List Value} (n : Nat), Vals xs us → Vals (xs.take n) (us.take n)
  | _, _, 0, _ => .nil
  | _, _, _ + 1, .nil => .nil
  | _, _, n + 1, .cons r t => .cons r (Vals.take n t)
theorem Vals.drop : ∀ {xs : List V} {us : List Value} (n : Nat), Vals xs us → Vals (xs.drop n) (us.drop n)
  | _, _, 0, r => r
  | _, _, _ + 1, .nil => .nil
  | _, _, n + 1, .cons _ t => Vals.drop n t
def RelO : Option V → Option Value → Prop
  | some v, some u => RelV v u
  | none, none => True
  | _, _ => False
def KV {κ : Type} : List (κ × V) → List (κ × Value) → Prop := Paired fun (p : κ × V) (q : κ × Value) => p.1 = q.1 ∧ RelV p.2 q.2

def kV : Key → V
  | .inl i => .int i
  | .inr x => .str x

inductive HO where
  /-- a list -/
  | lst (xs : List V)
  /-- a tuple (never changes) -/
  | tup (xs : List V)
  /-- a dict whose keys are ints and texts; one whose keys are tuples of ints and texts (the empty one is both) -/
  | dK (kvs : List (Key × V)) | dT (kvs : List (List Key × V))
  /-- a set of ints: its members, its size -/
  | set (S : Int → Bool) (n : Nat)
  /-- an instance of the class at C, its dict at dx, its attributes -/
  | ins (C dx : Addr) (fs : List (Str × V))
  /-- the dict of the instance at x -/
  | own (x : Addr)
  /-- the dict of an exception -/
  | xd (fs : List (Str × V))
  /-- a bound method, f of x -/
  | met (f x : Addr)
  /-- a range object lo, lo + 1, .. below hi -/
  | rng (lo hi : Int)
  /-- a thing that is known to the object (the script; a dict while a loop walks it): read, never written while it is so -/
  | frz (o : Obj) (u : HO)
  /-- a code object's table -/
  | tbl (ps : Array Value)
  /-- any other thing, by what is true of its one object (a def of one's own: SetO a S n := HO.ext fun h => ..) -/
  | ext (φ : Heap → Prop)

abbrev Hp := Addr → Option HO
def upd (H : Hp) (a : Addr) (o : HO) : Hp := fun b => if b = a then some o else H b
theorem upd_same {H : Hp} {a : Addr} {o : HO} : upd H a o a = some o := by unfold upd; rw [if_pos rfl]
theorem upd_ne {H : Hp} {a b : Addr} {o : HO} (h : b ≠ a) : upd H a o b = H b := by unfold upd; rw [if_neg h]
theorem ne_of_none {H : Hp} {a b : Addr} {o : HO} (h : H a = some o) (h' : H b = none) : a ≠ b := by
  intro e; subst e; rw [h] at h'; cases h'

section
variable (P : Program) (w : World)
def ObjOk (H : Hp) (h : Heap) (a : Addr) : HO → Prop
  | .lst xs => xs.length ≤ sizeLine ∧ ∃ (its : List Value) (n : Nat), Vals xs its ∧ h.get? a = some { cls := .type "list", data := .seq its.toArray n }
  | .tup xs => xs.length ≤ sizeLine ∧ ∃ its : List Value, Vals xs its ∧ IsTup h a its.toArray
  | .dK kvs => kvs.length ≤ sizeLine ∧ (a == sysModules) = false ∧ ∃ vs, KV kvs vs ∧ h.DictOf (mixKind P w) a vs
  | .dT kvs => kvs.length ≤ sizeLine ∧ (a == sysModules) = false ∧ ∃ xs : List (List Key × Addr × Value),
      Paired (fun (p : List Key × V) (q : List Key × Addr × Value) => p.1 = q.1 ∧ H q.2.1 = some (.tup (p.1.map kV)) ∧ RelV p.2 q.2.2) kvs xs ∧
      ∃ o es ep, h.get? a = some o ∧ o.ExactDict ∧ o.data = .dict es ep ∧ es.toList = xs.map (entryOfKey (tupleKind (mixKind P w))) ∧ (xs.map (·.1)).Nodup
  | .set S n => h.SetOf (intKind P w) a S n
  | .ins C dx fs => H dx = some (.own a) ∧ fs.length ≤ 1000 ∧ dx ≠ a ∧ h.get? a = some (PySem.W.instObj C dx) ∧
      ∃ mA, h.Ns1 dx mA ∧ (∀ f, RelO (fs.lookup f) (mA f)) ∧ PySem.Within mA (fs.map (·.1))
  | .own _ => ∃ o, h.get? a = some o
  | .xd fs => ∃ mA, h.Ns1 a mA ∧ ∀ f, RelO (fs.lookup f) (mA f)
  | .rng lo hi => ∃ t u v, h.get? a = some { cls := .type "range", data := .fields #[.int lo t, .int hi u, .int 1 v] }
  | .frz o u => h.get? a = some o ∧ ObjOk H h a u
  | .tbl ps => h.get? a = some { cls := .none, data := .fields ps }
  | .met f x => h.get? a = some (PySem.W.methodObj (.ref f) (.ref x))
  | .ext φ => φ h ∧ (∃ o, h.get? a = some o) ∧ ∀ h1 h2 : Heap, φ h1 → (∀ o, h1.get? a = some o → h2.get? a = some o) → φ h2
def HOk (H : Hp) (h : Heap) : Prop := ∀ a o, H a = some o → ObjOk P w H h a o
end

section
variable {P : Program} {w : World} {H H' : Hp} {h h' : Heap} {a : Addr} {o : HO}
theorem ObjOk.lt (x : ObjOk P w H h a o) : a < h.objs.size := by
  cases o with
  | lst xs => obtain ⟨_, _, _, _, e⟩ := x; exact Heap.lt_size e
  | tup xs => obtain ⟨_, _, _, p⟩ := x; exact p.lt
  | dK kvs => obtain ⟨_, _, _, _, o, _, _, e, _⟩ := x; exact Heap.lt_size e
  | dT kvs => obtain ⟨_, _, _, _, o, _, _, e, _⟩ := x; exact Heap.lt_size e
  | set S n => obtain ⟨o, _, _, _, e, _⟩ := x; exact Heap.lt_size e
  | ins C dx fs => obtain ⟨_, _, _, e, _⟩ := x; exact Heap.lt_size e
  | own y => obtain ⟨_, e⟩ := x; exact Heap.lt_size e
  | xd fs => obtain ⟨_, ⟨_, _, _, e, _⟩, _⟩ := x; exact Heap.lt_size e
  | rng lo hi => obtain ⟨_, _, _, e⟩ := x; exact Heap.lt_size e
  | frz ob u => obtain ⟨e, _⟩ := x; exact Heap.lt_size e
  | tbl ps => exact Heap.lt_size (show h.get? a = some _ from x)
  | met f y => exact Heap.lt_size (show h.get? a = some _ from x)
  | ext φ => obtain ⟨_, ⟨_, e⟩, _⟩ := x; exact Heap.lt_size e
theorem Paired.mapP {α β : Type} {F G : α → β → Prop} : ∀ {l₁ : List α} {l₂ : List β}, Paired F l₁ l₂ → (∀ a b, F a b → G a b) → Paired G l₁ l₂
  | _, _, .nil, _ => .nil
  | _, _, .cons r t, f => .cons (f _ _ r) (Paired.mapP t f)
theorem ObjOk.stay (x : ObjOk P w H h a o) (k : ∀ b u, (b = a ∨ H b = some (.own a)) → h.get? b = some u → h'.get? b = some u)
    (ho : ∀ b, H b = some (.own a) → H' b = some (.own a)) (ht : ∀ b xs, H b = some (.tup xs) → H' b = some (.tup xs)) : ObjOk P w H' h' a o := by
  induction o with
  | lst xs => obtain ⟨z, its, n, r, e⟩ := x; exact ⟨z, its, n, r, k _ _ (.inl rfl) e⟩
  | tup xs => obtain ⟨z, its, r, ob, e, c⟩ := x; exact ⟨z, its, r, ob, k _ _ (.inl rfl) e, c⟩
  | dK kvs => obtain ⟨z, y, vs, r, ob, es, ep, e, c⟩ := x; exact ⟨z, y, vs, r, ob, es, ep, k _ _ (.inl rfl) e, c⟩
  | dT kvs =>
    obtain ⟨z, y, xs, r, ob, es, ep, e, c⟩ := x
    exact ⟨z, y, xs, Paired.mapP r fun p q z => ⟨z.1, ht _ _ z.2.1, z.2.2⟩, ob, es, ep, k _ _ (.inl rfl) e, c⟩
  | set S n => obtain ⟨ob, es, ep, t, e, c⟩ := x; exact ⟨ob, es, ep, t, k _ _ (.inl rfl) e, c⟩
  | ins C dx fs =>
    obtain ⟨d, z, ne, e, mA, ⟨od, es, ep, e2, c⟩, r⟩ := x
    exact ⟨ho _ d, z, ne, k _ _ (.inl rfl) e, mA, ⟨od, es, ep, k _ _ (.inr d) e2, c⟩, r⟩
  | own y => obtain ⟨ob, e⟩ := x; exact ⟨ob, k _ _ (.inl rfl) e⟩
  | xd fs => obtain ⟨mA, ⟨od, es, ep, e, c⟩, r⟩ := x; exact ⟨mA, ⟨od, es, ep, k _ _ (.inl rfl) e, c⟩, r⟩
  | rng lo hi => obtain ⟨t, u, v, e⟩ := x; exact ⟨t, u, v, k _ _ (.inl rfl) e⟩
  | frz ob u ih => obtain ⟨e, q⟩ := x; exact ⟨k _ _ (.inl rfl) e, ih q⟩
  | tbl ps =>
    have e : h.get? a = some { cls := .none, data := .fields ps } := x
    show h'.get? a = some { cls := .none, data := .fields ps }
    exact k a _ (.inl rfl) e
  | met f y =>
    have e : h.get? a = some (PySem.W.methodObj (.ref f) (.ref y)) := x
    show h'.get? a = some (PySem.W.methodObj (.ref f) (.ref y))
    exact k a _ (.inl rfl) e
  | ext φ => obtain ⟨p, ⟨o, e⟩, st⟩ := x; exact ⟨st _ _ p fun o q => k _ _ (.inl rfl) q, ⟨o, k _ _ (.inl rfl) e⟩, st⟩
theorem HOk.lt (x : HOk P w H h) (e : H a = some o) : a < h.objs.size := (x a o e).lt
theorem HOk.fresh (x : HOk P w H h) (e : h.objs.size ≤ a) : H a = none := by
  cases q : H a with
  | none => rfl
  | some u => exact absurd (Nat.lt_of_lt_of_le (x.lt q) e) (Nat.lt_irrefl _)
theorem HOk.kept (x : HOk P w H h) (k : ∀ b u, h.get? b = some u → h'.get? b = some u) : HOk P w H h' := fun a o e =>
  (x a o e).stay (fun b u _ q => k b u q) (fun _ q => q) fun _ _ q => q
theorem HOk.laid (x : HOk P w H h) (k : ∀ b u, h.get? b = some u → h'.get? b = some u) (hp : h.objs.size ≤ a) (new : ObjOk P w (upd H a o) h' a o) : HOk P w (upd H a o) h' := fun b u e => by
  have hn := x.fresh hp
  by_cases hb : b = a
  · subst hb; rw [upd_same] at e; cases e; exact new
  · rw [upd_ne hb] at e
    exact (x b u e).stay (fun c v _ q => k c v q) (fun c q => by rw [upd_ne (ne_of_none q hn)]; exact q) fun c xs q => by rw [upd_ne (ne_of_none q hn)]; exact q
end

def Rd (H : Hp) (a : Addr) (u : HO) : Prop := H a = some u ∨ ∃ o, H a = some (.frz o u)
theorem Rd.of {H : Hp} {a : Addr} {u : HO} (h : H a = some u) : Rd H a u := .inl h
theorem Rd.ok {P : Program} {w : World} {H : Hp} {h : Heap} {a : Addr} {u : HO} (r : Rd H a u) (x : HOk P w H h) : ObjOk P w H h a u := by
  rcases r with r | ⟨o, r⟩
  · exact x a u r
  · obtain ⟨_, q⟩ := x a _ r
    exact q
def Mut : Option HO → Prop
  | some (.lst _) => True
  | some (.dK _) => True
  | some (.dT _) => True
  | some (.set _ _) => True
  | some (.ins _ _ _) => True
  | some (.ext _) => True
  | _ => False
section
variable {P : Program} {w : World} {H : Hp} {h h' : Heap} {x e : Addr} {o' : HO}
theorem HOk.write (ok : HOk P w H h) (mu : Mut (H x)) (he : e = x ∨ H e = some (.own x)) (k : ∀ b u, b ≠ e → h.get? b = some u → h'.get? b = some u) (heo : ∃ u, h'.get? e = some u)
    (new : ObjOk P w (upd H x o') h' x o') : HOk P w (upd H x o') h' := fun b u q => by
  have nown : ∀ c y, H c = some (.own y) → c ≠ x := fun c y r z => by subst z; rw [r] at mu; exact mu
  have ntup : ∀ c xs, H c = some (.tup xs) → c ≠ x := fun c xs r z => by subst z; rw [r] at mu; exact mu
  by_cases hb : b = x
  · subst hb; rw [upd_same] at q; cases q; exact new
  · rw [upd_ne hb] at q
    by_cases hbe : b = e
    · have q' : H b = some (.own x) := by
        rcases he with z | z
        · exact absurd (hbe.trans z) hb
        · rw [hbe]; exact z
      rw [q] at q'; cases q'
      obtain ⟨v, hv⟩ := heo
      exact ⟨v, by rw [hbe]; exact hv⟩
    · refine (ok b u q).stay (fun c v hc r => k c v ?_ r) (fun c r => by rw [upd_ne (nown c b r)]; exact r) fun c xs r => by rw [upd_ne (ntup c xs r)]; exact r
      rcases hc with rfl | hc
      · exact hbe
      · rintro rfl
        rcases he with z | z
        · exact nown c b hc z
        · rw [hc] at z; cases z; exact hb rfl
end

structure Un (fs ex : List Addr) (H H' : Hp) (h h' : Heap) : Prop where
  keep : ∀ b o, h.get? b = some o → H b = none → b ∉ fs → b ∉ ex → h'.get? b = some o
  slot : ∀ b o, h.get? b = some o → H b = none → b ∈ fs → b ∉ ex → ∃ sl, h'.get? b = some { o with slots := sl }
  free : ∀ b o, h.get? b = some o → H b = none → b ∉ ex → H' b = none
  there : ∀ b o, h.get? b = some o → b ∉ ex → ∃ o', h'.get? b = some o'
  tups : ∀ b xs, H b = some (.tup xs) → H' b = some (.tup xs)
  frzs : ∀ b o u, H b = some (.frz o u) → H' b = some (.frz o u)
  tbls : ∀ b ps, H b = some (.tbl ps) → ∃ more, H' b = some (.tbl (ps ++ more))
section
variable {fs fs' ex ex' : List Addr} {H H1 H2 : Hp} {h h1 h2 h' : Heap} {a x e : Addr} {o : HO}
theorem Un.any (u : Un fs ex H H1 h h1) {b : Addr} {ob : Obj} (q : h.get? b = some ob) (n : H b = none) (hx : b ∉ ex) : ∃ sl, h1.get? b = some { ob with slots := sl } := by
  by_cases hb : b ∈ fs
  · exact u.slot b ob q n hb hx
  · exact ⟨ob.slots, u.keep b ob q n hb hx⟩
theorem Un.trans (a : Un fs ex H H1 h h1) (b : Un fs ex H1 H2 h1 h2) : Un fs ex H H2 h h2 where
  keep := fun c ob q n hc hx => b.keep c ob (a.keep c ob q n hc hx) (a.free c ob q n hx) hc hx
  slot := fun c ob q n hc hx => by
    obtain ⟨sl, e1⟩ := a.slot c ob q n hc hx
    obtain ⟨sl', e2⟩ := b.slot c _ e1 (a.free c ob q n hx) hc hx
    exact ⟨sl', e2⟩
  free := fun c ob q n hx => by
    obtain ⟨o', e1⟩ := a.there c ob q hx
    exact b.free c o' e1 (a.free c ob q n hx) hx
  there := fun c ob q hx => by
    obtain ⟨o', e1⟩ := a.there c ob q hx
    exact b.there c o' e1 hx
  tups := fun c xs q => b.tups c xs (a.tups c xs q)
  frzs := fun c ob xs q => b.frzs c ob xs (a.frzs c ob xs q)
  tbls := fun c ps q => by
    obtain ⟨m1, e1⟩ := a.tbls c ps q
    obtain ⟨m2, e2⟩ := b.tbls c _ e1
    exact ⟨m1 ++ m2, by rw [e2, Array.append_assoc]⟩
theorem Un.kept (k : ∀ b u, h.get? b = some u → h'.get? b = some u) : Un fs ex H H h h' :=
  ⟨fun b ob q _ _ _ => k b ob q, fun b ob q _ _ _ => ⟨ob.slots, k b ob q⟩, fun _ _ _ n _ => n, fun b ob q _ => ⟨ob, k b ob q⟩, fun _ _ q => q, fun _ _ _ q => q, fun _ ps q => ⟨#[], by rw [q]; simp⟩⟩
theorem Un.refl : Un fs ex H H h h := Un.kept fun _ _ q => q
theorem Un.laid (k : ∀ b u, h.get? b = some u → h'.get? b = some u) (hp : h.objs.size ≤ a) (hn : H a = none) : Un fs ex H (upd H a o) h h' where
  keep := fun b u q _ _ _ => k b u q
  slot := fun b u q _ _ _ => ⟨u.slots, k b u q⟩
  free := fun b u q n _ => by rw [upd_ne (Nat.ne_of_lt (Nat.lt_of_lt_of_le (Heap.lt_size q) hp))]; exact n
  there := fun b u q _ => ⟨u, k b u q⟩
  tups := fun b xs q => by rw [upd_ne (ne_of_none q hn)]; exact q
  frzs := fun b u xs q => by rw [upd_ne (ne_of_none q hn)]; exact q
  tbls := fun b ps q => ⟨#[], by rw [upd_ne (ne_of_none q hn), q]; simp⟩
theorem Un.write (mu : Mut (H x)) (he : e = x ∨ H e = some (.own x)) (k : ∀ b u, b ≠ e → h.get? b = some u → h'.get? b = some u) (heo : ∃ u, h'.get? e = some u) : Un fs ex H (upd H x o) h h' := by
  have hx : ∀ b, H b = none → b ≠ x := fun b n z => by subst z; rw [n] at mu; exact mu
  have hb : ∀ b, H b = none → b ≠ e := fun b n z => by
    subst z
    rcases he with r | r
    · exact hx b n r
    · rw [n] at r; cases r
  have hm : ∀ b u, H b = some u → ¬ Mut (some u) → b ≠ x := fun b u q nm z => by subst z; rw [q] at mu; exact nm mu
  refine ⟨fun b u q n _ _ => k b u (hb b n) q, fun b u q n _ _ => ⟨u.slots, k b u (hb b n) q⟩, fun b u q n _ => by rw [upd_ne (hx b n)]; exact n, fun b u q _ => ?_,
    fun b xs q => by rw [upd_ne (hm b _ q fun z => z)]; exact q, fun b u xs q => by rw [upd_ne (hm b _ q fun z => z)]; exact q, fun b ps q => ⟨#[], by rw [upd_ne (hm b _ q fun z => z), q]; simp⟩⟩
  by_cases hbe : b = e
  · subst hbe; exact heo
  · exact ⟨u, k b u hbe q⟩
theorem Un.mono (u : Un fs ex H H1 h h1) (hs : ∀ b ∈ fs, b ∈ fs') (hx : ∀ b ∈ ex, b ∈ ex') : Un fs' ex' H H1 h h1 :=
  ⟨fun b ob q n hb he => u.keep b ob q n (fun z => hb (hs b z)) fun z => he (hx b z), fun _ _ q n _ he => u.any q n fun z => he (hx _ z), fun b ob q n he => u.free b ob q n fun z => he (hx b z), fun b ob q he => u.there b ob q fun z => he (hx b z), u.tups, u.frzs, u.tbls⟩
end

def trk (h : Heap) (H : Hp) : List Addr := (List.range h.objs.size).filter fun a => (H a).isSome
def hidT (h : Heap) (H : Hp) : Heap := PySem.W.hideAll h (trk h H)
theorem hidT_size (h : Heap) (H : Hp) : (hidT h H).objs.size = h.objs.size := PySem.W.hideAll_size _ _
theorem hidT_get {h : Heap} {H : Hp} {b : Addr} {o : Obj} (e : h.get? b = some o) (n : H b = none) : (hidT h H).get? b = some o :=
  PySem.W.hideAll_get _ e fun hm => by
    have q : (H b).isSome = true := (List.mem_filter.mp hm).2
    rw [n] at q; simp at q
theorem of_hidT {h : Heap} {H : Hp} {b : Addr} {o : Obj} (e : (hidT h H).get? b = some o) : h.get? b = some o ∧ H b = none := by
  have e' : h.get? b = some o := PySem.W.of_hideAll (trk h H) e
  refine ⟨e', ?_⟩
  cases q : H b with
  | none => rfl
  | some x =>
    have hm : b ∈ trk h H := List.mem_filter.mpr ⟨List.mem_range.mpr (Heap.lt_size e'), by simp [q]⟩
    have z : (hidT h H).get? b = none := PySem.W.hideAll_none (trk h H) hm
    rw [z] at e; cases e

def allNews (g h : Heap) (L : Addr) : List (Addr × Obj) := (List.range h.objs.size).filterMap fun a => if a = L ∨ (g.get? a).isSome = true then none else (h.get? a).map fun o => (a, o)
def rest (g h : Heap) (L d : Addr) : List (Addr × Obj) := (allNews g h L).filter fun p => decide (p.1 ≠ d)
end L2

namespace L2
open PySem PySem.Spec PyProof.Rows

structure Mod (K : PySem.W.Frag) (mg : Str → Option Value) (base : Heap) : Prop where
  kin : K.In base
  glob : base.Ns mainGlobals mg
  blt : ∃ mb, base.Ns builtinsNs mb ∧ ∀ x : Str, x ≠ "__name__" → mb x = bootBuiltins x
  nolimit : base.NoLimit

structure Cx where
  prog : Program
  w : World
  K : PySem.W.Frag
  mg : Str → Option Value
  base : Heap
  A : Around
  N : List Str
  s_0 : Shared
  H_0 : Hp
  env : Env
  outer : List Env
  stack : List Env
  ex : List Addr
  fn : Str → Bool
  calm : Bool
  pn : List (Addr × Obj)
  xe : Value → Shared → Prop
def frs (l : List Env) : List Addr := l.filterMap (·.frame)
abbrev Cx.fs (X : Cx) : List Addr := frs X.outer

def Vis (sc : Scope) (x : Str) : Prop := sc.names.lookup x = some .local ∨ sc.names.lookup x = some .cell ∨ sc.names.lookup x = some .free
def Loc (sc : Scope) (x : Str) : Prop := sc.names.lookup x = some .local ∨ sc.names.lookup x = some .cell
def Look (env : Env) (h : Heap) (m : Str → Option Value) (x : Str) (u : Value) : Prop :=
  (env.kindOf x = some .local ∧ m x = some u) ∨ ((env.kindOf x = some .cell ∨ env.kindOf x = some .free) ∧ ∃ c, env.cells.lookup x = some c ∧ h.IsCell c (some u))

structure Cx.Ok (X : Cx) : Prop where
  mod : Mod X.K X.mg X.base
  kind : X.env.scope.kind = .function
  glob : X.env.globals = mainGlobals
  blt : X.env.builtins = builtinsNs
  above : X.s_0.heap.objs.size ≤ X.env.locals
  inj : ∀ x y c, X.env.cells.lookup x = some c → X.env.cells.lookup y = some c → x = y
  has : ∀ x, (X.env.kindOf x = some .cell ∨ X.env.kindOf x = some .free) → ∃ c, X.env.cells.lookup x = some c
  cab : ∀ x c, X.fn x = true → X.env.cells.lookup x = some c → X.s_0.heap.objs.size ≤ c
  hd : X.calm = true → X.A.handled = none
  frames : X.A.frames = some X.stack
  stk : X.stack = X.outer ∨ (X.stack = X.env :: X.outer ∧ X.env.frame = some X.env.locals)
  exf : ∀ b ∈ X.ex, b ≠ X.env.locals ∧ ∀ x c, X.env.cells.lookup x = some c → c ≠ b
  bs : ∀ b o, X.base.get? b = some o → X.s_0.heap.get? b = some o ∧ X.H_0 b = none
  bsz : X.base.objs.size ≤ X.s_0.heap.objs.size
  noex : ∀ b o, X.base.get? b = some o → b ∉ X.ex
  exfs : ∀ b ∈ X.ex, b ∉ X.fs
  funs : X.s_0.heap.FunFrames X.base X.outer
  frf : ∀ b ∈ X.fs, X.H_0 b = none

structure Inv (X : Cx) (pins : List (Addr × Obj)) (σ : List (Option V)) (H : Hp) (s : Shared) : Prop where
  ok : X.Ok
  os : s.os = X.s_0.os
  bare : AllBare s.gens
  base : Un X.fs X.ex X.H_0 H X.s_0.heap s.heap
  loc : ∃ m, s.heap.Ns X.env.locals m ∧ ∀ (i : Nat) (x : Str) (v : V), X.N[i]? = some x → σ[i]? = some (some v) → Vis X.env.scope x → ∃ u, RelV v u ∧ Look X.env s.heap m x u
  cell : ∀ x c, X.env.cells.lookup x = some c → ∃ v, s.heap.IsCell c v
  free : H X.env.locals = none
  freeC : ∀ x c, X.env.cells.lookup x = some c → H c = none
  pin : ∀ p ∈ X.pn ++ pins, s.heap.get? p.1 = some p.2 ∧ H p.1 = none ∧ p.1 ≠ X.env.locals ∧ p.1 ∉ X.fs ∧ ∀ v, p.2.data ≠ .cell v
  hok : HOk X.prog X.w H s.heap
  len : σ.length = X.N.length

section
variable {X : Cx} {pins : List (Addr × Obj)} {σ : List (Option V)} {H H' : Hp} {s : Shared} {h' : Heap}

theorem Cx.Ok.nofr (ok : X.Ok) {b : Addr} {o : Obj} (e : X.base.get? b = some o) : b ∉ X.fs := fun hb => by
  have := (ok.funs.mem hb).1
  rw [e] at this; cases this
theorem Inv.bs (I : Inv X pins σ H s) : ∀ b o, X.base.get? b = some o → s.heap.get? b = some o ∧ H b = none := fun b o e =>
  ⟨I.base.keep b o (I.ok.bs b o e).1 (I.ok.bs b o e).2 (I.ok.nofr e) (I.ok.noex b o e), I.base.free b o (I.ok.bs b o e).1 (I.ok.bs b o e).2 (I.ok.noex b o e)⟩
theorem Inv.bk (I : Inv X pins σ H s) : ∀ b o, X.base.get? b = some o → s.heap.get? b = some o := fun b o e => (I.bs b o e).1
theorem Inv.mod (I : Inv X pins σ H s) : Mod X.K X.mg X.base := I.ok.mod
theorem Inv.kIn (I : Inv X pins σ H s) : X.K.In s.heap := I.ok.mod.kin.keeps I.bk
theorem Inv.nolimit (I : Inv X pins σ H s) : s.heap.NoLimit := I.ok.mod.nolimit.keeps I.bk
theorem Inv.fr (I : Inv X pins σ H s) : ∃ m, Fr X.base X.env.locals s.heap m :=
  let ⟨m, hn, _⟩ := I.loc
  ⟨m, hn, I.bk, Nat.le_trans I.ok.bsz I.ok.above⟩
theorem Inv.lt (I : Inv X pins σ H s) : X.env.locals < s.heap.objs.size := let ⟨_, hn, _⟩ := I.loc; hn.lt
theorem Inv.sz (I : Inv X pins σ H s) : X.s_0.heap.objs.size ≤ s.heap.objs.size := Nat.le_trans I.ok.above (Nat.le_of_lt I.lt)
theorem Inv.nofs (I : Inv X pins σ H s) {a : Addr} (h : s.heap.objs.size ≤ a) : a ∉ X.fs := fun hb => by
  obtain ⟨_, o, ho, _⟩ := I.ok.funs.mem hb
  exact absurd (Nat.lt_of_lt_of_le (Heap.lt_size ho) (Nat.le_trans I.sz h)) (Nat.lt_irrefl _)
theorem Inv.cne (I : Inv X pins σ H s) : ∀ x c, X.env.cells.lookup x = some c → c ≠ X.env.locals := fun x c e z => by
  obtain ⟨v, o, ho, hd⟩ := I.cell x c e
  obtain ⟨m, ⟨o', es, ep, ho', hd', _⟩, _⟩ := I.loc
  rw [z, ho'] at ho; cases ho; rw [hd'] at hd; cases hd
theorem Inv.funs (I : Inv X pins σ H s) : s.heap.FunFrames X.base X.outer := by
  have all : ∀ (l : List Env), (∀ b ∈ frs l, b ∈ X.fs) → X.s_0.heap.FunFrames X.base l → s.heap.FunFrames X.base l := by
    intro l
    induction l with
    | nil => intro _ _; trivial
    | cons env r ih =>
      intro hs hl
      obtain ⟨hk, ⟨L, o, hf, hn, ho, hd⟩, hr⟩ := hl
      have hL : L ∈ X.fs := hs L (by unfold frs; rw [List.filterMap_cons, hf]; exact List.mem_cons_self)
      obtain ⟨sl, e⟩ := I.base.slot L o ho (I.ok.frf L hL) hL fun z => I.ok.exfs L z hL
      exact ⟨hk, ⟨L, _, hf, hn, e, hd⟩, ih (fun b hb => hs b (by unfold frs; rw [List.filterMap_cons, hf]; exact List.mem_cons_of_mem _ hb)) hr⟩
  exact all X.outer (fun _ hb => hb) I.ok.funs

theorem Inv.stack (I : Inv X pins σ H s) : s.heap.FunFrames X.base X.stack := by
  rcases I.ok.stk with e | ⟨e, hf⟩
  · rw [e]; exact I.funs
  · rw [e]
    obtain ⟨m, hn, _⟩ := I.loc
    refine .cons (by rw [I.ok.kind]; decide) hf hn ?_ I.funs
    exact Heap.get?_none_of_le (Nat.le_trans I.ok.bsz I.ok.above)
theorem Inv.stkSub (I : Inv X pins σ H s) : ∀ b ∈ frs X.stack, b ∈ X.env.locals :: X.fs := fun b hb => by
  rcases I.ok.stk with e | ⟨e, hf⟩
  · rw [e] at hb; exact List.mem_cons_of_mem _ hb
  · rw [e] at hb
    unfold frs at hb
    rw [List.filterMap_cons, hf] at hb
    exact hb
theorem Inv.stkFree (I : Inv X pins σ H s) : ∀ b ∈ frs X.stack, H b = none := fun b hb => by
  rcases List.mem_cons.mp (I.stkSub b hb) with e | hb
  · rw [e]; exact I.free
  · obtain ⟨_, o, ho, _⟩ := I.ok.funs.mem hb
    exact I.base.free b o ho (I.ok.frf b hb) fun z => I.ok.exfs b z hb

theorem Inv.step {g' : Array GenState} {t' : Nat} {d' : Drawn} {ch : List Addr} (I : Inv X pins σ H s)
    (hch : ∀ b ∈ ch, (b ∈ X.ex ∨ X.s_0.heap.objs.size ≤ b) ∧ b ≠ X.env.locals ∧ (∀ x c, X.env.cells.lookup x = some c → c ≠ b) ∧ ∀ p ∈ X.pn ++ pins, p.1 ≠ b)
    (keep : ∀ b o, b ≠ X.env.locals → b ∉ X.fs → b ∉ ch → s.heap.get? b = some o → H b = none → h'.get? b = some o)
    (slot : ∀ b o, b ≠ X.env.locals → b ∈ X.fs → b ∉ ch → s.heap.get? b = some o → H b = none → ∃ sl, h'.get? b = some { o with slots := sl }) (free : ∀ b o, b ∉ ch → s.heap.get? b = some o → H b = none → H' b = none)
    (there : ∀ b o, b ∉ ch → s.heap.get? b = some o → ∃ o', h'.get? b = some o')
    (tups : ∀ b xs, H b = some (.tup xs) → H' b = some (.tup xs)) (frzs : ∀ b o u, H b = some (.frz o u) → H' b = some (.frz o u)) (tbls : ∀ b ps, H b = some (.tbl ps) → ∃ more, H' b = some (.tbl (ps ++ more)))
    (ns : ∀ m, s.heap.Ns X.env.locals m → h'.Ns X.env.locals m) (hok : HOk X.prog X.w H' h') (hg : AllBare g') :
    Inv X pins σ H' { s with heap := h', gens := g', drawn := d', toks := t' } := by
  have neL : ∀ b o, X.s_0.heap.get? b = some o → b ≠ X.env.locals := fun b o e => Nat.ne_of_lt (Nat.lt_of_lt_of_le (Heap.lt_size e) I.ok.above)
  have neC : ∀ b o, X.s_0.heap.get? b = some o → b ∉ X.ex → b ∉ ch := fun b o e hx hb => by
    rcases (hch b hb).1 with z | z
    · exact hx z
    · exact absurd (Nat.lt_of_lt_of_le (Heap.lt_size e) z) (Nat.lt_irrefl _)
  have cellK : ∀ x c, X.env.cells.lookup x = some c → ∀ v, s.heap.IsCell c v → h'.IsCell c v := fun x c e v ⟨o, ho, hd⟩ => by
    have nch : c ∉ ch := fun z => (hch c z).2.2.1 x c e rfl
    by_cases hc : c ∈ X.fs
    · obtain ⟨sl, q⟩ := slot c o (I.cne x c e) hc nch ho (I.freeC x c e)
      exact ⟨_, q, hd⟩
    · exact ⟨o, keep c o (I.cne x c e) hc nch ho (I.freeC x c e), hd⟩
  refine ⟨I.ok, I.os, hg, ⟨fun b o e n hb hx => ?_, fun b o e n hb hx => ?_, fun b o e n hx => ?_, fun b o e hx => ?_, fun b xs e => tups b xs (I.base.tups b xs e), fun b o xs e => frzs b o xs (I.base.frzs b o xs e), fun b ps e => ?_⟩, ?_, fun x c e => ?_, ?_, fun x c e => ?_, fun p hp => ?_, hok, I.len⟩
  · exact keep b o (neL b o e) hb (neC b o e hx) (I.base.keep b o e n hb hx) (I.base.free b o e n hx)
  · obtain ⟨sl, e1⟩ := I.base.slot b o e n hb hx
    obtain ⟨sl', e2⟩ := slot b _ (neL b o e) hb (neC b o e hx) e1 (I.base.free b o e n hx)
    exact ⟨sl', e2⟩
  · obtain ⟨o', e1⟩ := I.base.there b o e hx
    exact free b o' (neC b o e hx) e1 (I.base.free b o e n hx)
  · obtain ⟨o', e1⟩ := I.base.there b o e hx
    exact there b o' (neC b o e hx) e1
  · obtain ⟨m1, e1⟩ := I.base.tbls b ps e
    obtain ⟨m2, e2⟩ := tbls b _ e1
    exact ⟨m1 ++ m2, by rw [e2, Array.append_assoc]⟩
  · obtain ⟨m, hn, hl⟩ := I.loc
    refine ⟨m, ns m hn, fun i x v e1 e2 e3 => ?_⟩
    obtain ⟨u, r, l⟩ := hl i x v e1 e2 e3
    refine ⟨u, r, ?_⟩
    rcases l with l | ⟨k, c, e, z⟩
    · exact .inl l
    · exact .inr ⟨k, c, e, cellK x c e _ z⟩
  · obtain ⟨v, z⟩ := I.cell x c e
    exact ⟨v, cellK x c e v z⟩
  · obtain ⟨m, ⟨o, _, _, ho, _⟩, _⟩ := I.loc
    exact free _ o (fun z => (hch _ z).2.1 rfl) ho I.free
  · obtain ⟨v, o, ho, hd⟩ := I.cell x c e
    exact free c o (fun z => (hch c z).2.2.1 x c e rfl) ho (I.freeC x c e)
  · obtain ⟨e, n, ne, nf, d⟩ := I.pin p hp
    have nch : p.1 ∉ ch := fun z => (hch p.1 z).2.2.2 p hp rfl
    exact ⟨keep p.1 p.2 ne nf nch e n, free p.1 p.2 nch e n, ne, nf, d⟩
theorem Inv.un {t' : Nat} (I : Inv X pins σ H s) (u : Un X.fs [] H H' s.heap h') (hok : HOk X.prog X.w H' h') : Inv X pins σ H' { s with heap := h', toks := t' } := by
  obtain ⟨m, ⟨o, es, ep, ho, r⟩, _⟩ := id I.loc
  obtain ⟨sl, hL⟩ := u.any ho I.free (by simp)
  exact I.step (g' := s.gens) (d' := s.drawn) (ch := []) (fun _ z => nomatch z) (fun b o _ hb _ e n => u.keep b o e n hb (by simp)) (fun b o _ hb _ e n => u.slot b o e n hb (by simp)) (fun b o _ e n => u.free b o e n (by simp)) (fun b o _ e => u.there b o e (by simp)) u.tups u.frzs u.tbls (fun m' hm => by
    obtain ⟨o', es', ep', ho', r'⟩ := hm
    rw [ho] at ho'; cases ho'
    exact ⟨_, es', ep', hL, r'⟩) hok I.bare
theorem Inv.call {g' : Array GenState} {t' : Nat} {d' : Drawn} {ch : List Addr} (I : Inv X pins σ H s) (u : Un (frs X.stack) ch H H' s.heap h') (hok : HOk X.prog X.w H' h') (hg : AllBare g')
    (hch : ∀ b ∈ ch, (b ∈ X.ex ∨ X.s_0.heap.objs.size ≤ b) ∧ b ≠ X.env.locals ∧ (∀ x c, X.env.cells.lookup x = some c → c ≠ b) ∧ ∀ p ∈ X.pn ++ pins, p.1 ≠ b) :
    Inv X pins σ H' { s with heap := h', gens := g', drawn := d', toks := t' } := by
  obtain ⟨m, ⟨o, es, ep, ho, r⟩, _⟩ := id I.loc
  obtain ⟨sl, hL⟩ := u.any ho I.free fun z => (hch _ z).2.1 rfl
  exact I.step (ch := ch) hch (fun b o hL hb hc e n => u.keep b o e n (fun z => (List.mem_cons.mp (I.stkSub b z)).elim hL hb) hc) (fun b o _ _ hc e n => u.any e n hc) (fun b o hc e n => u.free b o e n hc) (fun b o hc e => u.there b o e hc) u.tups u.frzs u.tbls (fun m' hm => by
    obtain ⟨o', es', ep', ho', r'⟩ := hm
    rw [ho] at ho'; cases ho'
    exact ⟨_, es', ep', hL, r'⟩) hok hg
theorem Inv.turned {t' : Nat} {it : Addr} (I : Inv X pins σ H s) (k : ∀ b o, b ≠ it → s.heap.get? b = some o → h'.get? b = some o) (hn : H it = none) (hL : it ≠ X.env.locals)
    (h1 : it ∈ X.ex ∨ X.s_0.heap.objs.size ≤ it) (h2 : ∀ x c, X.env.cells.lookup x = some c → c ≠ it) (h3 : ∀ p ∈ X.pn ++ pins, p.1 ≠ it) : Inv X pins σ H { s with heap := h', toks := t' } := by
  have nit : ∀ b u, H b = some u → b ≠ it := fun b u e z => by rw [z, hn] at e; cases e
  refine I.step (g' := s.gens) (d' := s.drawn) (ch := [it]) (fun b hb => ?_) (fun b o _ _ hc e _ => k b o (fun z => hc (by simp [z])) e) (fun b o _ _ hc e _ => ⟨o.slots, k b o (fun z => hc (by simp [z])) e⟩) (fun _ _ _ _ n => n)
    (fun b o hc e => ⟨o, k b o (fun z => hc (by simp [z])) e⟩) (fun _ _ e => e) (fun _ _ _ e => e) (fun b ps e => ⟨#[], by rw [e]; simp⟩) (fun m hm => ?_) (fun b u e => ?_) I.bare
  · have e : b = it := by simpa using hb
    subst e
    exact ⟨h1, hL, h2, h3⟩
  · obtain ⟨o, es, ep, ho, r⟩ := hm
    exact ⟨o, es, ep, k _ o (Ne.symm hL) ho, r⟩
  · refine (I.hok b u e).stay (fun c v hc q => k c v ?_ q) (fun _ q => q) fun _ _ q => q
    rcases hc with z | z
    · rw [z]; exact nit b u e
    · exact nit c _ z
theorem Inv.tok (I : Inv X pins σ H s) (t : Nat) : Inv X pins σ H { s with toks := t } := I.un (h' := s.heap) (t' := t) Un.refl I.hok
theorem Inv.kept {t' : Nat} (I : Inv X pins σ H s) (k : ∀ b u, s.heap.get? b = some u → h'.get? b = some u) : Inv X pins σ H { s with heap := h', toks := t' } := I.un (Un.kept k) (I.hok.kept k)
theorem Inv.laid {a : Addr} {o : HO} {t' : Nat} (I : Inv X pins σ H s) (k : ∀ b u, s.heap.get? b = some u → h'.get? b = some u) (hp : s.heap.objs.size ≤ a) (new : ObjOk X.prog X.w (upd H a o) h' a o) :
    Inv X pins σ (upd H a o) { s with heap := h', toks := t' } := I.un (Un.laid k hp (I.hok.fresh hp)) (I.hok.laid k hp new)
theorem Inv.write {x e : Addr} {o : HO} {t' : Nat} (I : Inv X pins σ H s) (mu : Mut (H x)) (he : e = x ∨ H e = some (.own x)) (k : ∀ b u, b ≠ e → s.heap.get? b = some u → h'.get? b = some u) (heo : ∃ u, h'.get? e = some u)
    (new : ObjOk X.prog X.w (upd H x o) h' x o) : Inv X pins σ (upd H x o) { s with heap := h', toks := t' } := I.un (Un.write mu he k heo) (I.hok.write mu he k heo new)
theorem Inv.weak {σ' : List (Option V)} (I : Inv X pins σ H s) (hl : σ'.length = σ.length) (w : ∀ (i : Nat) v, σ'[i]? = some (some v) → σ[i]? = some (some v)) : Inv X pins σ' H s :=
  ⟨I.ok, I.os, I.bare, I.base, let ⟨m, hn, hl'⟩ := I.loc; ⟨m, hn, fun i x v e1 e2 e3 => hl' i x v e1 (w i v e2) e3⟩, I.cell, I.free, I.freeC, I.pin, I.hok, hl.trans I.len⟩
theorem Inv.pins_of {pins' : List (Addr × Obj)} (I : Inv X pins σ H s) (h : ∀ p ∈ pins', s.heap.get? p.1 = some p.2 ∧ H p.1 = none ∧ p.1 ≠ X.env.locals ∧ p.1 ∉ X.fs ∧ ∀ v, p.2.data ≠ .cell v) : Inv X pins' σ H s :=
  ⟨I.ok, I.os, I.bare, I.base, I.loc, I.cell, I.free, I.freeC, fun p hp => (List.mem_append.mp hp).elim (fun z => I.pin p (List.mem_append_left _ z)) (h p), I.hok, I.len⟩

theorem nodup_ix {N : List Str} (hN : N.Nodup) {i j : Nat} {x : Str} (a : N[i]? = some x) (b : N[j]? = some x) : i = j := by
  obtain ⟨h1, e1⟩ := List.getElem?_eq_some_iff.mp a
  obtain ⟨h2, e2⟩ := List.getElem?_eq_some_iff.mp b
  exact (List.getElem_inj hN).mp (e1.trans e2.symm)

theorem store_ok2 {M : Model} {A : Around} {E : Value → Shared → Prop} {i : Nat} {x : Str} {v : V} {u : Value} {Q : Unit → Shared → Prop} (I : Inv X pins σ H s) (hN : X.N.Nodup) (hi : X.N[i]? = some x) (hx : Loc X.env.scope x) (r : RelV v u)
    (h : ∀ s', Inv X pins (σ.set i (some v)) H s' → (∃ a, Heap.SameBut a s.heap s'.heap ∧ (a = X.env.locals ∨ X.env.cells.lookup x = some a)) → Q () s') (hf : X.fn x = true ∨ X.env.scope.names.lookup x = some .local := by first | exact .inl rfl | exact .inr rfl | assumption) : wpAny M A (storeName X.env x u) Q E s := by
  obtain ⟨m, hn, hl⟩ := id I.loc
  have hcls : (X.env.scope.kind == .class || (X.env.scope.kind == .module && X.env.locals != X.env.globals)) = false := by rw [I.ok.kind]; rfl
  have hiσ : i < σ.length := by rw [I.len]; exact (List.getElem?_eq_some_iff.mp hi).1
  have cne := I.cne
  have tracked : ∀ {a : Addr} {h' : Heap}, (∃ o, s.heap.get? a = some o ∧ H a = none) → Heap.SameBut a s.heap h' → HOk X.prog X.w H h' := fun {a h'} ha hs b ob e => by
    obtain ⟨_, _, hfree⟩ := ha
    refine (I.hok b ob e).stay (fun c w' hc q => (hs.2 c ?_).trans q) (fun _ q => q) fun _ _ q => q
    rintro rfl
    rcases hc with rfl | hc
    · rw [hfree] at e; cases e
    · rw [hfree] at hc; cases hc
  rcases hx with hk | hk
  · refine wpAny_storeName_local hk hn (fun h' hn' hs => ?_) hcls
    obtain ⟨oL, _, _, hoL, _⟩ := id hn
    refine h _ ⟨I.ok, I.os, I.bare, ⟨fun b o e n hb hx => ?_, fun b o e n hb hx => ?_, I.base.free, fun b o e hx => ?_, I.base.tups, I.base.frzs, I.base.tbls⟩, ⟨_, hn', fun j y v' e1 e2 e3 => ?_⟩, fun y c e => ?_, I.free, I.freeC, fun p hp => ?_, tracked ⟨oL, hoL, I.free⟩ hs, by simpa using I.len⟩ ⟨_, hs, .inl rfl⟩
    · exact (hs.2 b (Nat.ne_of_lt (Nat.lt_of_lt_of_le (Heap.lt_size e) I.ok.above))).trans (I.base.keep b o e n hb hx)
    · obtain ⟨sl, e1⟩ := I.base.slot b o e n hb hx
      exact ⟨sl, (hs.2 b (Nat.ne_of_lt (Nat.lt_of_lt_of_le (Heap.lt_size e) I.ok.above))).trans e1⟩
    · obtain ⟨o', e1⟩ := I.base.there b o e hx
      exact ⟨o', (hs.2 b (Nat.ne_of_lt (Nat.lt_of_lt_of_le (Heap.lt_size e) I.ok.above))).trans e1⟩
    · by_cases hj : j = i
      · subst hj
        rw [hi] at e1; cases e1
        rw [List.getElem?_set_self hiσ] at e2
        cases e2
        exact ⟨u, r, .inl ⟨hk, by simp⟩⟩
      · rw [List.getElem?_set_ne (Ne.symm hj)] at e2
        obtain ⟨u', r', q⟩ := hl j y v' e1 e2 e3
        refine ⟨u', r', ?_⟩
        rcases q with ⟨k, e⟩ | ⟨k, c, e, z⟩
        · refine .inl ⟨k, ?_⟩
          have : y ≠ x := fun e => hj (nodup_ix hN e1 (e ▸ hi))
          simp [this, e]
        · exact .inr ⟨k, c, e, z.sameBut hs (cne y c e)⟩
    · obtain ⟨w', z⟩ := I.cell y c e
      exact ⟨w', z.sameBut hs (cne y c e)⟩
    · obtain ⟨e, n, ne, nf, d⟩ := I.pin p hp
      exact ⟨(hs.2 p.1 ne).trans e, n, ne, nf, d⟩
  · have hfn : X.fn x = true := by
      rcases hf with z | z
      · exact z
      · rw [z] at hk; cases hk
    obtain ⟨c, hc⟩ := I.ok.has x (.inl hk)
    obtain ⟨w', z⟩ := I.cell x c hc
    refine wpAny_storeName_cell I.ok.kind hk hc z (fun h' hc' hs => ?_)
    obtain ⟨oc, hoc, hocd⟩ := id z
    refine h { s with heap := h' } ⟨I.ok, I.os, I.bare, ⟨fun b o e n hb hx => ?_, fun b o e n hb hx => ?_, I.base.free, fun b o e hx => ?_, I.base.tups, I.base.frzs, I.base.tbls⟩, ⟨m, hn.sameBut hs (Ne.symm (cne x c hc)), fun j y v' e1 e2 e3 => ?_⟩, fun y c' e => ?_, I.free, I.freeC, fun p hp => ?_, tracked ⟨oc, hoc, I.freeC x c hc⟩ hs, by simpa using I.len⟩ ⟨c, hs, .inr hc⟩
    · exact (hs.2 b (Nat.ne_of_lt (Nat.lt_of_lt_of_le (Heap.lt_size e) (I.ok.cab x c hfn hc)))).trans (I.base.keep b o e n hb hx)
    · obtain ⟨sl, e1⟩ := I.base.slot b o e n hb hx
      exact ⟨sl, (hs.2 b (Nat.ne_of_lt (Nat.lt_of_lt_of_le (Heap.lt_size e) (I.ok.cab x c hfn hc)))).trans e1⟩
    · obtain ⟨o', e1⟩ := I.base.there b o e hx
      exact ⟨o', (hs.2 b (Nat.ne_of_lt (Nat.lt_of_lt_of_le (Heap.lt_size e) (I.ok.cab x c hfn hc)))).trans e1⟩
    · by_cases hj : j = i
      · subst hj
        rw [hi] at e1; cases e1
        rw [List.getElem?_set_self hiσ] at e2
        cases e2
        exact ⟨u, r, .inr ⟨.inl hk, c, hc, hc'⟩⟩
      · rw [List.getElem?_set_ne (Ne.symm hj)] at e2
        obtain ⟨u', r', q⟩ := hl j y v' e1 e2 e3
        refine ⟨u', r', ?_⟩
        rcases q with q | ⟨k, c', e, z'⟩
        · exact .inl q
        · refine .inr ⟨k, c', e, z'.sameBut hs ?_⟩
          rintro rfl
          exact hj (nodup_ix hN e1 (I.ok.inj _ _ _ e hc ▸ hi))
    · by_cases hcc : c' = c
      · subst hcc; exact ⟨_, hc'⟩
      · obtain ⟨w2, z2⟩ := I.cell y c' e
        exact ⟨w2, z2.sameBut hs hcc⟩
    · obtain ⟨e, n, ne, nf, d⟩ := I.pin p hp
      refine ⟨(hs.2 p.1 ?_).trans e, n, ne, nf, d⟩
      intro q
      rw [q, hoc] at e
      have q' : oc = p.2 := Option.some.inj e
      exact d w' (by rw [← q']; exact hocd)
theorem store_ok {M : Model} {A : Around} {E : Value → Shared → Prop} {i : Nat} {x : Str} {v : V} {u : Value} {Q : Unit → Shared → Prop} (I : Inv X pins σ H s) (hN : X.N.Nodup) (hi : X.N[i]? = some x) (hx : Loc X.env.scope x) (r : RelV v u)
    (h : ∀ s', Inv X pins (σ.set i (some v)) H s' → Q () s') (hf : X.fn x = true ∨ X.env.scope.names.lookup x = some .local := by first | exact .inl rfl | exact .inr rfl | assumption) : wpAny M A (storeName X.env x u) Q E s :=
  store_ok2 I hN hi hx r (fun s' I' _ => h s' I') hf
theorem Inv.call' {s' : Shared} {ch : List Addr} (I : Inv X pins σ H s) (ho : s'.os = s.os) (u : Un (frs X.stack) ch H H' s.heap s'.heap) (hok : HOk X.prog X.w H' s'.heap) (hg : AllBare s'.gens)
    (hch : ∀ b ∈ ch, (b ∈ X.ex ∨ X.s_0.heap.objs.size ≤ b) ∧ b ≠ X.env.locals ∧ (∀ x c, X.env.cells.lookup x = some c → c ≠ b) ∧ ∀ p ∈ X.pn ++ pins, p.1 ≠ b) : Inv X pins σ H' s' := by
  obtain ⟨h', g', d', t', o'⟩ := s'
  have e : o' = s.os := ho
  subst e
  exact I.call (g' := g') (t' := t') (d' := d') u hok hg hch
end

abbrev XK := Value → Option Addr → Hp → Prop
abbrev St := List (Option V)
abbrev VK := V → Hp → Prop
abbrev TE := St → Hp → VK → Prop
abbrev TT := St → Hp → (Bool → Hp → Prop) → Prop
abbrev TA := St → Hp → (List V → Hp → Prop) → Prop
structure Ends where
  nx : St → Hp → Prop
  rt : VK
  bk : St → Hp → Prop := fun _ _ => False
  ct : St → Hp → Prop := fun _ _ => False
abbrev TS := Ends → St → Hp → Prop

def EP (X : Cx) (pins : List (Addr × Obj)) (σ : St) (Q : VK) (u : Value) (s' : Shared) : Prop := ∃ v H', Inv X pins σ H' s' ∧ RelV v u ∧ Q v H'
def TP (X : Cx) (pins : List (Addr × Obj)) (σ : St) (Q : Bool → Hp → Prop) (b : Bool) (s' : Shared) : Prop := ∃ H', Inv X pins σ H' s' ∧ Q b H'
def AP (X : Cx) (pins : List (Addr × Obj)) (σ : St) (Q : List V → Hp → Prop) (us : List Value) (s' : Shared) : Prop := ∃ vs H', Inv X pins σ H' s' ∧ Vals vs us ∧ Q vs H'
def SP (X : Cx) (pins : List (Addr × Obj)) (D : Ends) (f : Flow) (s' : Shared) : Prop :=
  match f with
  | .next => ∃ σ' H', Inv X pins σ' H' s' ∧ D.nx σ' H'
  | .brk => ∃ σ' H', Inv X pins σ' H' s' ∧ D.bk σ' H'
  | .cont => ∃ σ' H', Inv X pins σ' H' s' ∧ D.ct σ' H'
  | .ret u => ∃ v σ' H', Inv X pins σ' H' s' ∧ RelV v u ∧ D.rt v H'

def PE (X : Cx) (e : Expr) (t : TE) : Prop :=
  ∀ (pins : List (Addr × Obj)) (s : Shared) (σ : St) (H : Hp) (Q : VK), Inv X pins σ H s → t σ H Q → wpAny (model X.prog X.w) X.A (eval e X.env) (EP X pins σ Q) X.xe s
def PT (X : Cx) (e : Expr) (t : TT) : Prop :=
  ∀ (pins : List (Addr × Obj)) (s : Shared) (σ : St) (H : Hp) (Q : Bool → Hp → Prop), Inv X pins σ H s → t σ H Q → wpAny (model X.prog X.w) X.A (isTrue e X.env (eval e X.env)) (TP X pins σ Q) X.xe s
def PW (X : Cx) (e : Expr) (t : TT) : Prop :=
  ∀ (whole : Sem Value) (pins : List (Addr × Obj)) (s : Shared) (σ : St) (H : Hp) (Q : Bool → Hp → Prop), Inv X pins σ H s → t σ H Q → wpAny (model X.prog X.w) X.A (isTrue e X.env whole) (TP X pins σ Q) X.xe s
theorem PW.pt {X : Cx} {e : Expr} {t : TT} (h : PW X e t) : PT X e t := h _
def PA (X : Cx) (es : List Expr) (t : TA) : Prop :=
  ∀ (pos : Pos) (pins : List (Addr × Obj)) (s : Shared) (σ : St) (H : Hp) (Q : List V → Hp → Prop), Inv X pins σ H s → t σ H Q → wpAny (model X.prog X.w) X.A (spliced (backTo pos (starEach es X.env))) (AP X pins σ Q) X.xe s
def PS (X : Cx) (st : Stmt) (t : TS) : Prop :=
  ∀ (pins : List (Addr × Obj)) (s : Shared) (σ : St) (H : Hp) (D : Ends), Inv X pins σ H s → t D σ H → wpAny (model X.prog X.w) X.A (exec st X.env) (SP X pins D) X.xe s
def PSs (X : Cx) (st : List Stmt) (t : TS) : Prop :=
  ∀ (pins : List (Addr × Obj)) (s : Shared) (σ : St) (H : Hp) (D : Ends), Inv X pins σ H s → t D σ H → wpAny (model X.prog X.w) X.A (execs st X.env) (SP X pins D) X.xe s
theorem thn {α : Type} {t : Sem α} {Q Q' : α → Shared → Prop} {M : Model} {A : Around} {E : Value → Shared → Prop} {s : Shared} (h : wpAny M A t Q E s) (hQ : ∀ a s, Q a s → Q' a s) : wpAny M A t Q' E s := wpAny_mono h hQ fun _ _ x => x
end L2

namespace L2
open PySem PySem.Spec PyProof.Rows
section
variable {X : Cx}

def tVar (i : Nat) : TE := fun σ H Q => ∃ v, σ[i]? = some (some v) ∧ Q v H
def tC (v : V) : TE := fun _ H Q => Q v H
theorem pe_var {i : Nat} {x : Str} {pos : Pos} (hN : X.N[i]? = some x) (hv : Vis X.env.scope x) (hd : (x == ("__debug__" : Str)) = false := by decide) (hcd : (x == ("__classdict__" : Str)) = false := by decide) : PE X (.Name x pos) (tVar i) := by
  intro pins s σ H Q I h
  obtain ⟨v, e, h⟩ := h
  obtain ⟨m, hn, hl⟩ := I.loc
  obtain ⟨u, r, l⟩ := hl i x v hN e hv
  have fin : EP X pins σ Q u s := ⟨v, H, I, r, h⟩
  rcases l with ⟨hk, hm⟩ | ⟨hk, c, hc, hcell⟩
  · exact wpAny_Name (wpAny_loadName_local I.ok.kind hk hn hm fin) hd
  · rcases hk with hk | hk
    · exact wpAny_Name (wpAny_loadName_cell I.ok.kind hk hc hcell fin) hd
    · exact wpAny_Name (wpAny_loadName_free I.ok.kind hk hc hcell fin hcd) hd
theorem pe_int {i j pos} : PE X (.Constant (.int i) j pos) (tC (.int i)) := fun _ _ _ H _ I h => wpAny_Constant_int ⟨.int i, H, I.tok _, ⟨_, rfl⟩, h⟩
theorem pe_bl {b j pos} : PE X (.Constant (.bool b) j pos) (tC (.bl b)) := fun _ _ _ H _ I h => Constant_bool ⟨.bl b, H, I, rfl, h⟩
theorem pe_non {j pos} : PE X (.Constant .none j pos) (tC .non) := fun _ _ _ H _ I h => Constant_none ⟨.non, H, I, rfl, h⟩
theorem pe_str {x j pos} : PE X (.Constant (.str x) j pos) (tC (.str x)) := fun _ _ _ H _ I h => Calls.Constant_str ⟨.str x, H, I.tok _, ⟨_, rfl⟩, h⟩

def Gl (X : Cx) (x : Str) : Prop := X.env.kindOf x = some .globalImplicit
theorem ld_glob {E : Value → Shared → Prop} {pins : List (Addr × Obj)} {s : Shared} {σ : St} {H : Hp} {x : Str} {u : Value} {pos : Pos} {Q : Value → Shared → Prop} (I : Inv X pins σ H s) (hg : Gl X x) (hm : X.mg x = some u) (h : Q u s)
    (hd : (x == ("__debug__" : Str)) = false := by decide) : wpAny (model X.prog X.w) X.A (eval (.Name x pos) X.env) Q E s :=
  Calls.Name_function_global I.ok.kind hg (Calls.loadGlobal_global (by rw [I.ok.glob]; exact I.mod.glob.keeps I.bk) hm h) hd
theorem ld_blt {E : Value → Shared → Prop} {pins : List (Addr × Obj)} {s : Shared} {σ : St} {H : Hp} {x : Str} {u : Value} {pos : Pos} {Q : Value → Shared → Prop} (I : Inv X pins σ H s) (hg : Gl X x) (hm : X.mg x = none) (hv : bootBuiltins x = some u) (h : Q u s)
    (hn : x ≠ "__name__" := by decide) (hd : (x == ("__debug__" : Str)) = false := by decide) : wpAny (model X.prog X.w) X.A (eval (.Name x pos) X.env) Q E s := by
  obtain ⟨mb, h1, h2⟩ := I.mod.blt
  exact Calls.Name_function_global I.ok.kind hg (Calls.loadGlobal_builtin (by rw [I.ok.glob]; exact I.mod.glob.keeps I.bk) hm (by rw [I.ok.blt]; exact h1.keeps I.bk) ((h2 x hn).trans hv) h) hd
theorem pe_glob {x : Str} {v : V} {u : Value} {pos : Pos} (hg : Gl X x) (hm : X.mg x = some u) (r : RelV v u) (hd : (x == ("__debug__" : Str)) = false := by decide) : PE X (.Name x pos) (tC v) :=
  fun _ _ _ H _ I h => ld_glob I hg hm ⟨v, H, I, r, h⟩ hd
theorem pe_bltn {x : Str} {v : V} {u : Value} {pos : Pos} (hg : Gl X x) (hm : X.mg x = none) (hv : bootBuiltins x = some u) (r : RelV v u) (hn : x ≠ "__name__" := by decide) (hd : (x == ("__debug__" : Str)) = false := by decide) : PE X (.Name x pos) (tC v) :=
  fun _ _ _ H _ I h => ld_blt I hg hm hv ⟨v, H, I, r, h⟩ hn hd

variable {a b : Expr} {ta tb : TE} {pos : Pos}
variable {tA tB' : TT} {rest : List Expr}
def tAnd (t u : TT) : TT := fun σ H Q => t σ H fun c H1 => if c = true then u σ H1 Q else Q false H1
def tOr (t u : TT) : TT := fun σ H Q => t σ H fun c H1 => if c = true then Q true H1 else u σ H1 Q
def tNot (t : TT) : TT := fun σ H Q => t σ H fun c H1 => Q (!c) H1
theorem pw_and1 (ha : PT X a tA) : PW X (.BoolOp .And [a] pos) tA := by
  intro wh pins s σ H Q I h
  refine isTrue_and (thn (ha pins s σ H Q I h) fun c s1 e => ?_)
  cases c with
  | true => exact isTrue_and_nil e
  | false => exact e
theorem pw_or1 (ha : PT X a tA) : PW X (.BoolOp .Or [a] pos) tA := by
  intro wh pins s σ H Q I h
  refine isTrue_or (thn (ha pins s σ H Q I h) fun c s1 e => ?_)
  cases c with
  | false => exact isTrue_or_nil e
  | true => exact e
theorem pw_and (ha : PT X a tA) (hb : PW X (.BoolOp .And (b :: rest) pos) tB') : PW X (.BoolOp .And (a :: b :: rest) pos) (tAnd tA tB') := by
  intro wh pins s σ H Q I h
  refine isTrue_and (thn (ha pins s σ H _ I h) fun c s1 ⟨H1, I1, q1⟩ => ?_)
  cases c with
  | true => exact hb wh pins s1 σ H1 Q I1 q1
  | false => exact ⟨H1, I1, q1⟩
theorem pw_or (ha : PT X a tA) (hb : PW X (.BoolOp .Or (b :: rest) pos) tB') : PW X (.BoolOp .Or (a :: b :: rest) pos) (tOr tA tB') := by
  intro wh pins s σ H Q I h
  refine isTrue_or (thn (ha pins s σ H _ I h) fun c s1 ⟨H1, I1, q1⟩ => ?_)
  cases c with
  | true => exact ⟨H1, I1, q1⟩
  | false => exact hb wh pins s1 σ H1 Q I1 q1
theorem pt_not (ha : PT X a tA) : PT X (.UnaryOp .Not a pos) (tNot tA) := by
  intro pins s σ H Q I h
  exact isTrue_not (ha pins s σ H (fun c H1 => Q (!c) H1) I h)
def tAndV (ta tb : TE) : TE := fun σ H Q => ta σ H fun x H1 => ∃ c, x = .bl c ∧ if c = true then tb σ H1 Q else Q (.bl false) H1
def tNotV (ta : TE) : TE := fun σ H Q => ta σ H fun x H1 => ∃ c, x = .bl c ∧ Q (.bl (!c)) H1
theorem pe_one {op} {t : TE} (h : PE X a t) : PE X (.BoolOp op [a] pos) t := fun pins s σ H Q I hw => BoolOp_one (h pins s σ H Q I hw)
theorem pe_and (ha : PE X a ta) (hb : PE X (.BoolOp .And (b :: rest) pos) tb) : PE X (.BoolOp .And (a :: b :: rest) pos) (tAndV ta tb) := by
  intro pins s σ H Q I h
  refine BoolOp_and (thn (ha pins s σ H _ I h) fun v s1 ⟨x, H1, I1, r1, q1⟩ => ?_)
  obtain ⟨c, rfl, q1⟩ := q1
  cases r1
  refine wpAny_truthy_bool ?_
  cases c with
  | true => exact hb pins s1 σ H1 Q I1 q1
  | false => exact ⟨.bl false, H1, I1, rfl, q1⟩
theorem pe_not (ha : PE X a ta) : PE X (.UnaryOp .Not a pos) (tNotV ta) := by
  intro pins s σ H Q I h
  refine UnaryOp_ (thn (ha pins s σ H _ I h) fun v s1 ⟨x, H1, I1, r1, q1⟩ => ?_)
  obtain ⟨c, rfl, q1⟩ := q1
  cases r1
  exact not_of (wpAny_truthy_bool ⟨.bl (!c), H1, I1, rfl, q1⟩)
end
end L2

namespace L2
open PySem PySem.Spec PyProof.Rows

def SqL (K : PySem.W.Frag) (H : Hp) (a : Addr) (xs : List V) : Prop :=
  Rd H a (.lst xs) ∨
    ∃ (o : Obj) (its : Array Value) (n : Nat), K.lookup a = some o ∧ o.cls = .type "list" ∧ o.dict = none ∧ o.data = .seq its n ∧ its.size ≤ sizeLine ∧ Vals xs its.toList
def SqT (K : PySem.W.Frag) (H : Hp) (a : Addr) (xs : List V) : Prop :=
  Rd H a (.tup xs) ∨
    ∃ (o : Obj) (its : Array Value) (n : Nat), K.lookup a = some o ∧ o.cls = .type "tuple" ∧ o.data = .seq its n ∧ its.size ≤ sizeLine ∧ Vals xs its.toList
def absV : Value → Option V
  | .none => some .non
  | .bool b => some (.bl b)
  | .int i _ => some (.int i)
  | .str x _ => some (.str x)
  | .bytes b _ => some (.byt b)
  | .float b _ => some (.flt b)
  | .ref a => some (.ref a)
  | .type n => some (.ty n)
  | _ => none
theorem RelV.abs {x : V} {u : Value} (r : RelV x u) : absV u = some x := by
  cases x with
  | non => cases r; rfl
  | bl _ => cases r; rfl
  | int _ => obtain ⟨t, rfl⟩ := r; rfl
  | str _ => obtain ⟨t, rfl⟩ := r; rfl
  | byt _ => obtain ⟨t, rfl⟩ := r; rfl
  | flt _ => obtain ⟨t, rfl⟩ := r; rfl
  | ref _ => cases r; rfl
  | ty _ => cases r; rfl
theorem RelV.inj {x y : V} {u : Value} (r : RelV x u) (q : RelV y u) : x = y := Option.some.inj (r.abs.symm.trans q.abs)
theorem Vals.inj : ∀ {xs ys : List V} {us : List Value}, Vals xs us → Vals ys us → xs = ys
  | _, _, _, .nil, .nil => rfl
  | _, _, _, .cons r t, .cons r' t' => by rw [r.inj r', Vals.inj t t']
section
variable {X : Cx} {pins : List (Addr × Obj)} {σ : St} {H : Hp} {s : Shared} {a : Addr} {xs ys : List V}
theorem SqL.of {K : PySem.W.Frag} (h : H a = some (.lst xs)) : SqL K H a xs := .inl (.inl h)
theorem SqT.of {K : PySem.W.Frag} (h : H a = some (.tup xs)) : SqT K H a xs := .inl (.inl h)
theorem Inv.list (I : Inv X pins σ H s) (h : SqL X.K H a xs) : ∃ its : List Value, Vals xs its ∧ PlainL s.heap a its.toArray ∧ xs.length ≤ sizeLine := by
  rcases h with h | ⟨o, its, n, hk, hc, hd, hs, hz, r⟩
  · obtain ⟨z, its, n, r, e⟩ := h.ok I.hok
    exact ⟨its, r, ⟨_, n, e, rfl, rfl, rfl⟩, z⟩
  · refine ⟨its.toList, r, ⟨o, n, I.kIn a o hk, hc, hd, by simpa using hs⟩, ?_⟩
    have e := r.length
    simp only [Array.length_toList] at e
    omega
theorem Inv.tuple (I : Inv X pins σ H s) (h : SqT X.K H a xs) : ∃ its : List Value, Vals xs its ∧ IsTup s.heap a its.toArray ∧ xs.length ≤ sizeLine := by
  rcases h with h | ⟨o, its, n, hk, hc, hs, hz, r⟩
  · obtain ⟨z, its, r, p⟩ := h.ok I.hok
    exact ⟨its, r, p, z⟩
  · refine ⟨its.toList, r, ⟨o, I.kIn a o hk, hc, n, by simpa using hs⟩, ?_⟩
    have e := r.length
    simp only [Array.length_toList] at e
    omega
theorem Inv.list_inj (I : Inv X pins σ H s) (h : SqL X.K H a xs) (h' : SqL X.K H a ys) : xs = ys := by
  obtain ⟨its, r, ⟨o, n, e, _, _, d⟩, _⟩ := I.list h
  obtain ⟨its', r', ⟨o', n', e', _, _, d'⟩, _⟩ := I.list h'
  rw [e] at e'; cases e'
  rw [d] at d'
  injection d' with d1 _
  have : its = its' := by simpa using congrArg Array.toList d1
  subst this
  exact r.inj r'
theorem Inv.tuple_inj (I : Inv X pins σ H s) (h : SqT X.K H a xs) (h' : SqT X.K H a ys) : xs = ys := by
  obtain ⟨its, r, ⟨o, e, _, n, d⟩, _⟩ := I.tuple h
  obtain ⟨its', r', ⟨o', e', _, n', d'⟩, _⟩ := I.tuple h'
  rw [e] at e'; cases e'
  rw [d] at d'
  injection d' with d1 _
  have : its = its' := by simpa using congrArg Array.toList d1
  subst this
  exact r.inj r'
end

abbrev Cx.wish (X : Cx) (E : Value → Shared → Prop) : Cx := { X with xe := E }
abbrev Cx.nox (X : Cx) : Cx := X.wish fun _ _ => False
theorem Cx.Ok.wish {X : Cx} (ok : X.Ok) (E : Value → Shared → Prop) : (X.wish E).Ok :=
  ⟨ok.mod, ok.kind, ok.glob, ok.blt, ok.above, ok.inj, ok.has, ok.cab, ok.hd, ok.frames, ok.stk, ok.exf, ok.bs, ok.bsz, ok.noex, ok.exfs, ok.funs, ok.frf⟩
theorem Cx.Ok.unwish {X : Cx} {E : Value → Shared → Prop} (ok : (X.wish E).Ok) : X.Ok :=
  ⟨ok.mod, ok.kind, ok.glob, ok.blt, ok.above, ok.inj, ok.has, ok.cab, ok.hd, ok.frames, ok.stk, ok.exf, ok.bs, ok.bsz, ok.noex, ok.exfs, ok.funs, ok.frf⟩
section
variable {X : Cx} {pins : List (Addr × Obj)} {σ : St} {H : Hp} {s : Shared} {E : Value → Shared → Prop}
theorem Inv.wish (I : Inv X pins σ H s) (E : Value → Shared → Prop) : Inv (X.wish E) pins σ H s := ⟨I.ok.wish E, I.os, I.bare, I.base, I.loc, I.cell, I.free, I.freeC, I.pin, I.hok, I.len⟩
theorem Inv.unwish (I : Inv (X.wish E) pins σ H s) : Inv X pins σ H s := ⟨I.ok.unwish, I.os, I.bare, I.base, I.loc, I.cell, I.free, I.freeC, I.pin, I.hok, I.len⟩
theorem SP.unwish {D : Ends} {f : Flow} {s' : Shared} (h : SP (X.wish E) pins D f s') : SP X pins D f s' := by
  cases f with
  | next => obtain ⟨σ', H', I, q⟩ := h; exact ⟨σ', H', I.unwish, q⟩
  | brk => obtain ⟨σ', H', I, q⟩ := h; exact ⟨σ', H', I.unwish, q⟩
  | cont => obtain ⟨σ', H', I, q⟩ := h; exact ⟨σ', H', I.unwish, q⟩
  | ret u => obtain ⟨v, σ', H', I, r, q⟩ := h; exact ⟨v, σ', H', I.unwish, r, q⟩
theorem PE.nox {e : Expr} {t : TE} (h : PE X.nox e t) : PE X e t := fun pins s σ H Q I hw =>
  wpAny_mono (h pins s σ H Q (I.wish _) hw) (fun _ _ ⟨v, H', I', r, q⟩ => ⟨v, H', I'.unwish, r, q⟩) fun _ _ z => False.elim z
theorem PT.nox {e : Expr} {t : TT} (h : PT X.nox e t) : PT X e t := fun pins s σ H Q I hw =>
  wpAny_mono (h pins s σ H Q (I.wish _) hw) (fun _ _ ⟨H', I', q⟩ => ⟨H', I'.unwish, q⟩) fun _ _ z => False.elim z
theorem PSs.nox {st : List Stmt} {t : TS} (h : PSs X.nox st t) : PSs X st t := fun pins s σ H D I hw =>
  wpAny_mono (h pins s σ H D (I.wish _) hw) (fun _ _ q => q.unwish) fun _ _ z => False.elim z
end

section
variable {X : Cx} {st : Stmt} {rest : List Stmt} {t u : TS} {e : Expr} {te : TE} {pos : Pos}
def tNext : TS := fun D σ H => D.nx σ H
def tSeq (t u : TS) : TS := fun D σ H => t { D with nx := u D } σ H
theorem pss_nil : PSs X [] tNext := fun _ _ σ H _ I h => wpAny_execs_nil ⟨σ, H, I, h⟩
theorem pss_cons (h1 : PS X st t) (h2 : PSs X rest u) : PSs X (st :: rest) (tSeq t u) := by
  intro pins s σ H D I h
  refine wpAny_execs_cons (thn (h1 pins s σ H { D with nx := u D } I h) fun f s1 q => ?_)
  cases f with
  | next =>
    obtain ⟨σ', H', I', q⟩ := q
    exact h2 pins s1 σ' H' D I' q
  | ret v => exact q
  | brk => exact q
  | cont => exact q
theorem pss_one (h1 : PS X st t) : PSs X [st] t := by
  intro pins s σ H D I h
  refine wpAny_execs_cons (thn (h1 pins s σ H D I h) fun f s1 q => ?_)
  cases f with
  | next => exact wpAny_execs_nil q
  | ret v => exact q
  | brk => exact q
  | cont => exact q
theorem Inv.quiet {pins : List (Addr × Obj)} {σ : St} {H : Hp} {s : Shared} (I : Inv X pins σ H s) : interactive X.env = false := by simp [interactive, I.ok.kind]
def tDrop (te : TE) : TS := fun D σ H => te σ H fun _ H1 => D.nx σ H1
theorem ps_expr (he : PE X e te) (hs : swapsWith e none pos.line X.env = pure false := by rfl) : PS X (.Expr e pos) (tDrop te) := by
  intro pins s σ H D I h
  exact wpAny_Expr_any (thn (he pins s σ H _ I h) fun v s1 ⟨x, H1, I1, r1, q1⟩ => ⟨σ, H1, I1, q1⟩) I.quiet hs
def tRet (te : TE) : TS := fun D σ H => te σ H D.rt
theorem ps_ret (he : PE X e te) : PS X (.Return (some e) pos) (tRet te) := by
  intro pins s σ H D I h
  exact wpAny_Return_some (thn (he pins s σ H _ I h) fun v s1 ⟨x, H1, I1, r1, q1⟩ => ⟨x, σ, H1, I1, r1, q1⟩)
def tIfS (c : TT) (t u : TS) : TS := fun D σ H => c σ H fun b H1 => if b = true then t D σ H1 else u D σ H1
theorem ps_if {c : Expr} {a b : List Stmt} {tc : TT} (hc : PT X c tc) (ha : PSs X a t) (hb : PSs X b u) : PS X (.If c a b pos) (tIfS tc t u) := by
  intro pins s σ H D I h
  refine wpAny_If (thn (hc pins s σ H _ I h) fun d s1 ⟨H1, I1, q1⟩ => ?_)
  cases d with
  | true => exact ha pins s1 σ H1 D I1 q1
  | false => exact hb pins s1 σ H1 D I1 q1
end

abbrev TG := V → St → Hp → (St → Hp → Prop) → Prop
abbrev TGs := List V → St → Hp → (St → Hp → Prop) → Prop
def PG (X : Cx) (target : Expr) (t : TG) : Prop :=
  ∀ (pins : List (Addr × Obj)) (s : Shared) (σ : St) (H : Hp) (v : V) (u : Value) (Q : St → Hp → Prop), Inv X pins σ H s → RelV v u → t v σ H Q →
    wpAny (model X.prog X.w) X.A (assign target X.env u) (fun _ s' => ∃ σ' H', Inv X pins σ' H' s' ∧ Q σ' H') X.xe s
def PGs (X : Cx) (ts : List Expr) (t : TGs) : Prop :=
  ∀ (pins : List (Addr × Obj)) (s : Shared) (σ : St) (H : Hp) (vs : List V) (us : List Value) (Q : St → Hp → Prop), Inv X pins σ H s → Vals vs us → t vs σ H Q →
    wpAny (model X.prog X.w) X.A (assignInOrder ((assignEach ts X.env).map (·.2)) us) (fun _ s' => ∃ σ' H', Inv X pins σ' H' s' ∧ Q σ' H') X.xe s
abbrev TSet := V → V → V → Hp → (Hp → Prop) → Prop
def PSet (X : Cx) (t : TSet) : Prop :=
  ∀ (pins : List (Addr × Obj)) (s : Shared) (σ : St) (H : Hp) (o i v : V) (ov iv u : Value) (Q : Hp → Prop), Inv X pins σ H s → RelV o ov → RelV i iv → RelV v u → t o i v H Q →
    wpAny (model X.prog X.w) X.A (setItem ov iv u) (fun _ s' => ∃ H', Inv X pins σ H' s' ∧ Q H') X.xe s
abbrev TIp := V → V → Hp → VK → Prop
def PIp (X : Cx) (op : Operator) (t : TIp) : Prop :=
  ∀ (pins : List (Addr × Obj)) (s : Shared) (σ : St) (H : Hp) (x y : V) (v u : Value) (Q : VK), Inv X pins σ H s → RelV x v → RelV y u → t x y H Q →
    wpAny (model X.prog X.w) X.A (inplaceOp op v u) (EP X pins σ Q) X.xe s
section
variable {X : Cx} {pos : Pos}
def gName (i : Nat) : TG := fun v σ H Q => Q (σ.set i (some v)) H
theorem pg_name {i : Nat} {x : Str} (hN : X.N.Nodup) (hi : X.N[i]? = some x) (hx : Loc X.env.scope x) (hf : X.fn x = true ∨ X.env.scope.names.lookup x = some .local := by first | exact .inl rfl | exact .inr rfl | assumption) : PG X (.Name x pos) (gName i) := by
  intro pins s σ H v u Q I r h
  exact wpAny_assign_Name (store_ok I hN hi hx r (fun s' I' => ⟨_, H, I', h⟩) hf)
def gNil : TGs := fun vs σ H Q => vs = [] ∧ Q σ H
def gCons (t : TG) (u : TGs) : TGs := fun vs σ H Q => ∃ v r, vs = v :: r ∧ t v σ H fun σ' H' => u r σ' H' Q
theorem pgs_nil : PGs X [] gNil := by
  intro pins s σ H vs us Q I r h
  obtain ⟨e, h⟩ := h
  subst e
  cases r
  exact assignInOrder_nil ⟨σ, H, I, h⟩
theorem pgs_cons {e : Expr} {es : List Expr} {t : TG} {u : TGs} (h1 : PG X e t) (h2 : PGs X es u)
    (hs : (assignEach (e :: es) X.env).map (·.2) = assign e X.env :: (assignEach es X.env).map (·.2) := by rfl) : PGs X (e :: es) (gCons t u) := by
  intro pins s σ H vs us Q I r h
  obtain ⟨v, vr, e1, h⟩ := h
  subst e1
  cases r with
  | cons r rr =>
    rw [hs]
    refine assignInOrder_cons (thn (h1 pins s σ H _ _ _ I r h) fun _ s1 ⟨σ1, H1, I1, q1⟩ => ?_)
    exact h2 pins s1 σ1 H1 _ _ Q I1 rr q1
def gTup (K : PySem.W.Frag) (n : Nat) (t : TGs) : TG := fun v σ H Q => ∃ a xs, v = .ref a ∧ SqT K H a xs ∧ xs.length = n ∧ t xs σ H Q
theorem pg_tup {es : List Expr} {k : Nat} {t : TGs} {n : Nat} (hc : X.calm = true) (h : PGs X es t)
    (hn : (assignEach es X.env).length = n := by rfl) (hst : (assignEach es X.env).findIdx? (·.1) = none := by rfl) : PG X (.Tuple es k pos) (gTup X.K n t) := by
  intro pins s σ H v u Q I r hw
  obtain ⟨a, xs, e1, hq, hl, hw⟩ := hw
  subst e1
  cases r
  obtain ⟨its, rv, ht, hz⟩ := I.tuple hq
  refine assign_Tuple_tuple (I.ok.hd hc) ht (by simp [hn, ← hl, rv.length]) hst fun h' hx => ?_
  have I1 : Inv X pins σ H { s with heap := h' } := I.kept (t' := s.toks) fun b o e => hx b o (Nat.ne_of_lt (Heap.lt_size e)) e
  exact h pins _ σ H xs _ Q I1 (by simpa using rv) hw
def gSub (to ti : TE) (t : TSet) : TG := fun v σ H Q => to σ H fun o H1 => ti σ H1 fun i H2 => t o i v H2 fun H3 => Q σ H3
theorem pg_sub {o i : Expr} {to ti : TE} {t : TSet} (ho : PE X o to) (hi : PE X i ti) (hs : PSet X t)
    (ha : ∀ v, assign (.Subscript o i pos) X.env v = (do
      let ov ← holding [v] (eval o X.env)
      let iv ← holding [v, ov] (eval i X.env)
      standAt pos
      holding [v, ov, iv] (setItem ov iv v)
      release [v, ov, iv] []) := by intro _; rfl) : PG X (.Subscript o i pos) (gSub to ti t) := by
  intro pins s σ H v u Q I r h
  rw [ha]
  refine wpAny_bind (wpAny_holding (thn (ho pins s σ H _ I h) fun ov s1 ⟨x, H1, I1, r1, q1⟩ => ?_))
  refine wpAny_bind (wpAny_holding (thn (hi pins s1 σ H1 _ I1 q1) fun iv s2 ⟨y, H2, I2, r2, q2⟩ => ?_))
  refine wpAny_bind (wpAny_standAt (wpAny_bind (wpAny_holding (thn (hs pins s2 σ H2 x y v ov iv u _ I2 r1 r2 r q2) fun _ s3 ⟨H3, I3, q3⟩ => ?_))))
  exact wpAny_release ⟨σ, H3, I3, q3⟩
def tAsg (te : TE) (g : TG) : TS := fun D σ H => te σ H fun x H1 => g x σ H1 D.nx
theorem ps_asg {tg e : Expr} {te : TE} {g : TG} (he : PE X e te) (hg : PG X tg g) (hs : swapsWithSole [tg] e pos.line X.env = pure false := by rfl) (hw : swappedStores [tg] e X.env = pure none := by rfl)
    (h1 : (assignEach [tg] X.env).map (·.2) = [assign tg X.env] := by rfl) : PS X (.Assign [tg] e pos) (tAsg te g) := by
  intro pins s σ H D I h
  refine wpAny_Assign_stores (thn (he pins s σ H _ I h) fun v s1 ⟨x, H1, I1, r1, q1⟩ => ?_) hs hw
  rw [h1]
  exact thn (hg pins s1 σ H1 x v _ I1 r1 q1) fun _ s2 q => q
theorem ps_set {i : Nat} {x : Str} {e : Expr} {te : TE} {pos' : Pos} (hN : X.N.Nodup) (hi : X.N[i]? = some x) (hx : Loc X.env.scope x) (he : PE X e te) (hs : swapsWith e (some (.Name x pos')) pos.line X.env = pure false := by rfl) (hf : X.fn x = true ∨ X.env.scope.names.lookup x = some .local := by first | exact .inl rfl | exact .inr rfl | assumption) :
    PS X (.Assign [.Name x pos'] e pos) (tAsg te (gName i)) := by
  intro pins s σ H D I h
  refine wpAny_Assign_Name (thn (he pins s σ H _ I h) fun v s1 ⟨y, H1, I1, r1, q1⟩ => ?_) hs
  exact store_ok I1 hN hi hx r1 (fun s2 I2 => ⟨_, H1, I2, q1⟩) hf
def tAug (i : Nat) (te : TE) (ti : TIp) : TS := fun D σ H => ∃ x, σ[i]? = some (some x) ∧ te σ H fun y H1 => ti x y H1 fun z H2 => D.nx (σ.set i (some z)) H2
theorem ps_aug {i : Nat} {x : Str} {e : Expr} {te : TE} {op : Operator} {ti : TIp} {pos' : Pos} (hN : X.N.Nodup) (hi : X.N[i]? = some x) (hx : Loc X.env.scope x) (he : PE X e te) (ho : PIp X op ti) (hf : X.fn x = true ∨ X.env.scope.names.lookup x = some .local := by first | exact .inl rfl | exact .inr rfl | assumption) :
    PS X (.AugAssign (.Name x pos') op e pos) (tAug i te ti) := by
  intro pins s σ H D I h
  obtain ⟨v, e1, h⟩ := h
  obtain ⟨m, hn, hl⟩ := I.loc
  have vis : Vis X.env.scope x := by rcases hx with k | k; exact .inl k; exact .inr (.inl k)
  obtain ⟨u, r, l⟩ := hl i x v hi e1 vis
  refine wpAny_AugAssign_Name ?_
  have go : wpAny (model X.prog X.w) X.A (eval e X.env) (fun w s₂ => wpAny (model X.prog X.w) X.A (inplaceOp op u w) (fun r s₃ => wpAny (model X.prog X.w) X.A (storeName X.env x r) (fun _ => SP X pins D .next) X.xe s₃) X.xe s₂) X.xe s := by
    refine thn (he pins s σ H _ I h) fun w s1 ⟨y, H1, I1, r1, q1⟩ => ?_
    refine thn (ho pins s1 σ H1 v y u w _ I1 r r1 q1) fun z s2 ⟨zv, H2, I2, r2, q2⟩ => ?_
    exact store_ok I2 hN hi hx r2 (fun s3 I3 => ⟨_, H2, I3, q2⟩) hf
  rcases l with ⟨hk, hm⟩ | ⟨hk, c, hc, hcell⟩
  · exact wpAny_loadName_local I.ok.kind hk hn hm go
  · rcases hk with hk | hk
    · exact wpAny_loadName_cell I.ok.kind hk hc hcell go
    · rcases hx with k | k
      · have : X.env.scope.names.lookup x = some .free := hk
        rw [k] at this; cases this
      · have : X.env.scope.names.lookup x = some .free := hk
        rw [k] at this; cases this
end

section
variable {X : Cx} {pos : Pos}
def tWhile (c : TT) (tb : TS) : TS := fun D σ H => ∃ W : Nat → St → Hp → Prop, (∃ m, W m σ H) ∧ ∀ m σ H, W m σ H →
  c σ H fun b H1 => if b = true then ∃ N : St → Hp → Prop, (∀ σ' H', N σ' H' → ∃ m', m' < m ∧ W m' σ' H') ∧ tb { D with nx := N, ct := N, bk := D.nx } σ H1 else D.nx σ H1
theorem ps_while {c : Expr} {body : List Stmt} {tc : TT} {tb : TS} (hp : PassesOwn (model X.prog X.w) X.A X.env X.xe) (hc : PT X c tc) (hb : PSs X body tb) : PS X (.While c body [] pos) (tWhile tc tb) := by
  intro pins s σ H D I h
  obtain ⟨W, ⟨m0, w0⟩, turn⟩ := h
  refine wpAny_While (codeAny_whileLoop (fun n s' => ∃ σ' H', Inv X pins σ' H' s' ∧ W n σ' H') ?_ m0 ⟨σ, H, I, w0⟩)
  rintro n s1 ⟨σ1, H1, I1, w1⟩
  refine wpAny_passesOwn hp (thn (hc pins s1 σ1 H1 _ I1 (turn n σ1 H1 w1)) fun b s2 ⟨H2, I2, q2⟩ => ?_)
  cases b with
  | true =>
    obtain ⟨N, hN, q2⟩ := q2
    rw [if_pos rfl]
    refine wpAny_passesOwn hp (thn (hb pins s2 σ1 H2 _ I2 q2) fun f s3 q3 => ?_)
    cases f with
    | next =>
      obtain ⟨σ3, H3, I3, n3⟩ := q3
      obtain ⟨m', hm, w3⟩ := hN σ3 H3 n3
      exact ⟨m', hm, σ3, H3, I3, w3⟩
    | cont =>
      obtain ⟨σ3, H3, I3, n3⟩ := q3
      obtain ⟨m', hm, w3⟩ := hN σ3 H3 n3
      exact ⟨m', hm, σ3, H3, I3, w3⟩
    | brk => exact q3
    | ret v => exact q3
  | false =>
    rw [if_neg Bool.false_ne_true]
    exact wpAny_execs_nil ⟨σ1, H2, I2, q2⟩
end

structure It where
  go : Nat → Hp → Prop
  yld : Nat → Hp → V → Hp → Prop
  stop : Nat → Hp → Prop
def FpOk (X : Cx) (pins : List (Addr × Obj)) (H : Hp) (b : Addr) : Prop :=
  H b = none ∧ b ≠ X.env.locals ∧ b ∉ X.fs ∧ (b ∈ X.ex ∨ X.s_0.heap.objs.size ≤ b) ∧ (∀ x c, X.env.cells.lookup x = some c → c ≠ b) ∧ ∀ p ∈ X.pn ++ pins, p.1 ≠ b
theorem Inv.fpOk {X : Cx} {pins : List (Addr × Obj)} {σ : St} {H H' : Hp} {s : Shared} {b : Addr} (I : Inv X pins σ H s) (hb : s.heap.objs.size ≤ b) (hn : H' b = none) : FpOk X pins H' b := by
  refine ⟨hn, Nat.ne_of_gt (Nat.lt_of_lt_of_le I.lt hb), I.nofs hb, .inr (Nat.le_trans I.sz hb), fun x c e z => ?_, fun p hp z => ?_⟩
  · obtain ⟨v, q⟩ := I.cell x c e
    exact absurd (Nat.lt_of_lt_of_le q.lt (by rw [z]; exact hb)) (Nat.lt_irrefl _)
  · exact absurd (Nat.lt_of_lt_of_le (Heap.lt_size (I.pin p hp).1) (by rw [z]; exact hb)) (Nat.lt_irrefl _)
structure Turn (P : Program) (w : World) (K : PySem.W.Frag) (tg : Expr) (J : It) (fp : List Addr) (it : Addr) (tn : Nat → Heap → Prop) : Prop where
  mem : it ∈ fp
  obj : ∀ i h, tn i h → ∀ b ∈ fp, ∃ o, h.get? b = some o ∧ ∀ v, o.data ≠ .cell v
  keep : ∀ i h h', tn i h → (∀ b ∈ fp, ∀ o, h.get? b = some o → h'.get? b = some o) → tn i h'
  item : ∀ (X : Cx), X.prog = P → X.w = w → X.K = K → X.calm = true → ∀ (i : Nat) (pins : List (Addr × Obj)) (s : Shared) (σ : St) (H : Hp) (E : Value → Shared → Prop), Inv X pins σ H s → (∀ b ∈ fp, FpOk X pins H b) → tn i s.heap → J.go i H →
    wpAny (model P w) X.A (pyNext (.ref it)) (fun r s1 => ∃ u, r = some u ∧
      wpAny (model P w) X.A (letOwnedTupleGo tg (.ref it) u) (fun _ s2 => ∃ x H', Inv X pins σ H' s2 ∧ RelV x u ∧ J.yld i H x H' ∧ tn (i + 1) s2.heap ∧ ∀ b ∈ fp, H' b = none) E s1) E s
  done : ∀ (X : Cx), X.prog = P → X.w = w → X.K = K → X.calm = true → ∀ (i : Nat) (pins : List (Addr × Obj)) (s : Shared) (σ : St) (H : Hp) (E : Value → Shared → Prop), Inv X pins σ H s → (∀ b ∈ fp, FpOk X pins H b) → tn i s.heap → J.stop i H →
    wpAny (model P w) X.A (pyNext (.ref it)) (fun r s1 => r = none ∧ Inv X pins σ H s1) E s
  self : ∀ (A : Around) (i : Nat) (s : Shared) (Q : Value → Shared → Prop) (E : Value → Shared → Prop), tn i s.heap → Q (.ref it) s → wpAny (model P w) A (pyIter (.ref it)) Q E s
abbrev TI := St → Hp → (It → Hp → Prop) → Prop
def PIE (X : Cx) (pins : List (Addr × Obj)) (σ : St) (tg : Expr) (R : It → Hp → Prop) (itv : Value) (s2 : Shared) : Prop :=
  ∃ (it : Addr) (fp : List Addr) (tn : Nat → Heap → Prop) (J : It) (H' : Hp), itv = .ref it ∧ Inv X pins σ H' s2 ∧ Turn X.prog X.w X.K tg J fp it tn ∧ tn 0 s2.heap ∧ (∀ b ∈ fp, FpOk X pins H' b) ∧ R J H'
def PI (X : Cx) (tg iter : Expr) (wi : TI) : Prop :=
  ∀ (pins : List (Addr × Obj)) (s : Shared) (σ : St) (H : Hp) (R : It → Hp → Prop), Inv X pins σ H s → wi σ H R →
    wpAny (model X.prog X.w) X.A (eval iter X.env) (fun v s1 => wpAny (model X.prog X.w) X.A (pyIter v) (PIE X pins σ tg R) X.xe s1) X.xe s

theorem go_of {M : Model} {A : Around} {E : Value → Shared → Prop} {s : Shared} {tg : Expr} {it : Addr} {u : Value} {o : Obj} {n : String} {vs : Array Value} {Q : Unit → Shared → Prop} (ho : s.heap.get? it = some o) (hc : o.cls = .type n) (hd : o.data = .fields vs)
    (hn : ["enumerate", "zip", "dict_itemiterator", "dict_reverseitemiterator", "odict_iterator", "itertools.zip_longest", "itertools.pairwise"].contains n = false) (hQ : Q () s) : wpAny M A (letOwnedTupleGo tg (.ref it) u) Q E s := by
  unfold letOwnedTupleGo
  cases tg <;> first
    | exact wpAny_pure hQ
    | (cases u <;> first
        | exact wpAny_pure hQ
        | (refine wpAny_bind (wpAny_load ho ?_)
           rw [hc, hd]
           show wpAny M A (if (["enumerate", "zip", "dict_itemiterator", "dict_reverseitemiterator", "odict_iterator", "itertools.zip_longest", "itertools.pairwise"].contains n && vs[0]? == some (rawInt _)) = true then _ else _) Q E s
           rw [if_neg (by intro h; rw [hn, Bool.false_and] at h; cases h)]
           exact wpAny_pure hQ))

def Itl (K : PySem.W.Frag) (a : Addr) : It :=
  ⟨fun i H => ∃ xs x, SqL K H a xs ∧ xs[i]? = some x, fun i H x H' => H' = H ∧ ∀ xs, SqL K H a xs → xs[i]? = some x, fun i H => ∃ xs, SqL K H a xs ∧ xs.length ≤ i⟩
def Itr (lo : Int) (n : Nat) : It := ⟨fun i _ => i < n, fun i H x H' => H' = H ∧ x = .int (lo + i), fun i _ => n ≤ i⟩
theorem turn_list {P : Program} {w : World} {K : PySem.W.Frag} {tg : Expr} (a it : Addr) : Turn P w K tg (Itl K a) [it] it (fun i h => h.IsListIter it a i) where
  mem := by simp
  obj := fun i h st b hb => by
    have e : b = it := by simpa using hb
    subst e
    obtain ⟨o, e, c, d⟩ := st
    exact ⟨o, e, fun v z => by rw [d] at z; cases z⟩
  keep := fun i h h' st k => st.at fun o e => k it (by simp) o e
  item := by
    intro X hP hw hK hc i pins s σ H E I hf st hg
    subst hP hw hK
    obtain ⟨xs, x, hq, hx⟩ := hg
    obtain ⟨its, rv, p, hz⟩ := I.list hq
    obtain ⟨u, hu, ru⟩ := rv.get hx
    obtain ⟨f0, f1, f2, f3, f4, f5⟩ := hf it (by simp)
    refine wpAny_pyNext_list_item st p.isList (x := u) (by simpa using hu) fun h' st' sb => ?_
    have I1 : Inv X pins σ H { s with heap := h' } := I.turned (t' := s.toks) (fun b o hb e => (sb.2 b hb).trans e) f0 f1 f3 f4 f5
    obtain ⟨o, e, c, d⟩ := id st'
    exact ⟨u, rfl, go_of (s := { s with heap := h' }) e c d (by decide) ⟨x, H, I1, ru, ⟨rfl, fun ys hy => by rw [I.list_inj hy hq]; exact hx⟩, st', fun b hb => (hf b hb).1⟩⟩
  done := by
    intro X hP hw hK hc i pins s σ H E I hf st hg
    subst hP hw hK
    obtain ⟨xs, hq, hx⟩ := hg
    obtain ⟨its, rv, p, hz⟩ := I.list hq
    obtain ⟨f0, f1, f2, f3, f4, f5⟩ := hf it (by simp)
    have hl := rv.length
    exact wpAny_pyNext_list_end (I.ok.hd hc) st p.isList (by simp; omega) fun h' eb => ⟨rfl, I.turned (t' := s.toks) (fun b o hb e => eb b o hb e) f0 f1 f3 f4 f5⟩
  self := fun _ _ _ _ _ st h => wpAny_pyIter_listiter st h
theorem turn_range {P : Program} {w : World} {K : PySem.W.Frag} {tg : Expr} (it : Addr) (lo : Int) (n : Nat) : Turn P w K tg (Itr lo n) [it] it (fun i h => IsRangeIter h it (lo + (i : Nat) * 1) ((n : Int) - (i : Nat)) 1) where
  mem := by simp
  obj := fun i h st b hb => by
    have e : b = it := by simpa using hb
    subst e
    exact ⟨_, st, fun v z => by
      have z' : Data.fields _ = Data.cell v := z
      cases z'⟩
  keep := fun i h h' st k => k it (by simp) _ st
  item := by
    intro X hP hw hK hc i pins s σ H E I hf st hg
    subst hP hw hK
    obtain ⟨f0, f1, f2, f3, f4, f5⟩ := hf it (by simp)
    have W := Walks.range (prog := X.prog) (w := X.w) (I.ok.hd hc) it lo 1 n
    refine W.item i s _ _ hg st fun v h' tk hv st' kk => ?_
    obtain ⟨t, rfl⟩ := hv
    have I1 : Inv X pins σ H { s with heap := h', toks := tk } := I.turned (fun b o hb e => kk b o (by simpa using hb) e) f0 f1 f3 f4 f5
    refine ⟨_, rfl, go_of (s := { s with heap := h', toks := tk }) (n := "range_iterator") st' rfl rfl (by decide) ⟨.int (lo + i), H, I1, ⟨t, ?_⟩, ⟨rfl, rfl⟩, st', fun b hb => (hf b hb).1⟩⟩
    rw [Int.mul_one]
  done := by
    intro X hP hw hK hc i pins s σ H E I hf st hg
    subst hP hw hK
    obtain ⟨f0, f1, f2, f3, f4, f5⟩ := hf it (by simp)
    exact wpAny_pyNext_range_end (I.ok.hd hc) st (by have : n ≤ i := hg; omega) fun h' eb => ⟨rfl, I.turned (t' := s.toks) (fun b o hb e => eb b o hb e) f0 f1 f3 f4 f5⟩
  self := fun _ _ _ _ _ st h => wpAny_pyIter_rangeiter st h
end L2

namespace L2
open PySem PySem.Spec PyProof.Rows
section
variable {X : Cx} {tg : Expr}
def iList (K : PySem.W.Frag) (tl : TE) : TI := fun σ H R => tl σ H fun x H1 => ∃ a, x = .ref a ∧ (∃ xs, SqL K H1 a xs) ∧ R (Itl K a) H1
theorem pi_list {l : Expr} {tl : TE} (hl : PE X l tl) : PI X tg l (iList X.K tl) := by
  intro pins s σ H R I h
  refine thn (hl pins s σ H _ I h) fun v s1 ⟨x, H1, I1, r1, q1⟩ => ?_
  obtain ⟨a, e, ⟨xs, hq⟩, q⟩ := q1
  subst e
  cases r1
  obtain ⟨its, rv, p, hz⟩ := I1.list hq
  refine wpAny_pyIter_list p.isList ?_
  refine ⟨s1.heap.objs.size, [s1.heap.objs.size], _, _, H1, rfl, I1.kept (t' := s1.toks) fun b o e => Heap.get?_push_of_some _ e, turn_list a _, ⟨_, Heap.get?_push_size _ rfl, rfl, rfl⟩, fun b hb => ?_, q⟩
  have e : b = s1.heap.objs.size := by simpa using hb
  subst e
  exact I1.fpOk (Nat.le_refl _) (I1.hok.fresh (Nat.le_refl _))
theorem range_it {pins : List (Addr × Obj)} {σ : St} {H : Hp} {s : Shared} {R : It → Hp → Prop} {E : Value → Shared → Prop} {lo hi : Int} {t u v : Tok} {tk : Nat} (I : Inv X pins σ H s) (h1 : -(2 ^ 62) ≤ lo) (h2 : lo < 2 ^ 62) (h3 : -(2 ^ 62) ≤ hi) (h4 : hi < 2 ^ 62)
    (q : R (Itr lo (hi - lo).toNat) H) : wpAny (model X.prog X.w) X.A (pyIter (.ref s.heap.objs.size)) (PIE X pins σ tg R) E { s with heap := s.heap.push { cls := .type "range", data := .fields #[.int lo t, .int hi u, .int 1 v] }, toks := tk } := by
  refine wpAny_pyIter_range (IsRange.new ..) (small_one h1 h2 h3 h4) ?_
  have I1 : Inv X pins σ H { s with heap := s.heap.push { cls := .type "range", data := .fields #[.int lo t, .int hi u, .int 1 v] }, toks := tk } := I.kept fun b o e => Heap.get?_push_of_some _ e
  refine ⟨(s.heap.push { cls := .type "range", data := .fields #[.int lo t, .int hi u, .int 1 v] }).objs.size, [(s.heap.push { cls := .type "range", data := .fields #[.int lo t, .int hi u, .int 1 v] }).objs.size], _, _, H, rfl,
    I1.kept (t' := tk) fun b o e => Heap.get?_push_of_some _ e, turn_range _ lo (hi - lo).toNat, ?_, fun b hb => ?_, q⟩
  · have e1 : lo + ((0 : Nat) : Int) * 1 = lo := by simp
    have e2 : (((hi - lo).toNat : Nat) : Int) - ((0 : Nat) : Int) = Builtin.Range.rangeSize lo hi 1 := by rw [rangeSize_one]; split <;> omega
    show IsRangeIter _ _ (lo + ((0 : Nat) : Int) * 1) ((((hi - lo).toNat : Nat) : Int) - ((0 : Nat) : Int)) 1
    rw [e1, e2]
    exact Heap.get?_push_size _ rfl
  · have e : b = (s.heap.push { cls := .type "range", data := .fields #[.int lo t, .int hi u, .int 1 v] }).objs.size := by simpa using hb
    subst e
    exact I1.fpOk (Nat.le_refl _) (I1.hok.fresh (Nat.le_refl _))
def iRng1 (ta : TA) : TI := fun σ H R => ta σ H fun vs H1 => ∃ j : Int, vs = [.int j] ∧ -(2 ^ 62) ≤ j ∧ j < 2 ^ 62 ∧ R (Itr 0 j.toNat) H1
theorem pi_range1 {a : Expr} {ta : TA} {p pos : Pos} (hg : Gl X "range") (hm : X.mg "range" = none) (ha : PA X [a] ta) (hs : starEach [a] X.env = [(false, eval a X.env)] := by rfl) : PI X tg (.Call (.Name "range" p) [a] [] pos) (iRng1 ta) := by
  intro pins s σ H R I h
  refine Call_ (ld_blt I hg hm boot_range (PyProof.Rows.callWith_type1 (thn (ha pos pins s σ H _ I h) fun us s1 ⟨vs, H1, I1, r1, q1⟩ => ?_) hs rfl))
  obtain ⟨j, e, q1, q2, q⟩ := q1
  subst e
  cases r1 with
  | cons r rr =>
    cases rr
    obtain ⟨t, rfl⟩ := r
    exact call_range_1 (range_it I1 (by omega) (by omega) q1 q2 (by simpa using q))
def tFor (wi : TI) (g : TG) (tb : TS) : TS := fun D σ H => wi σ H fun J H1 => ∃ W : Nat → Nat → St → Hp → Prop, (∃ m, W 0 m σ H1) ∧ ∀ i m σ H, W i m σ H →
  (J.stop i H ∧ D.nx σ H) ∨ (J.go i H ∧ ∃ N : St → Hp → Prop, (∀ σ' H', N σ' H' → ∃ m', m' < m ∧ W (i + 1) m' σ' H') ∧ ∀ x H', J.yld i H x H' → g x σ H' fun σ2 H2 => tb { D with nx := N, ct := N, bk := D.nx } σ2 H2)
def pinsAt (fp : List Addr) (h : Heap) : List (Addr × Obj) := fp.filterMap fun b => (h.get? b).map fun o => (b, o)
theorem mem_pinsAt {fp : List Addr} {h : Heap} {b : Addr} {o : Obj} (hb : b ∈ fp) (e : h.get? b = some o) : (b, o) ∈ pinsAt fp h := List.mem_filterMap.mpr ⟨b, hb, by rw [e]; rfl⟩
theorem of_pinsAt {fp : List Addr} {h : Heap} {p : Addr × Obj} (hp : p ∈ pinsAt fp h) : p.1 ∈ fp ∧ h.get? p.1 = some p.2 := by
  obtain ⟨b, hb, e⟩ := List.mem_filterMap.mp hp
  cases q : h.get? b with
  | none => rw [q] at e; cases e
  | some o =>
    rw [q] at e
    have e' : (b, o) = p := Option.some.inj e
    subst e'
    exact ⟨hb, q⟩
theorem Inv.pinned {pins : List (Addr × Obj)} {σ : St} {H : Hp} {s : Shared} {fp : List Addr} (I : Inv X pins σ H s) (hf : ∀ b ∈ fp, FpOk X pins H b) (ho : ∀ b ∈ fp, ∃ o, s.heap.get? b = some o ∧ ∀ v, o.data ≠ .cell v) : Inv X (pins ++ pinsAt fp s.heap) σ H s :=
  I.pins_of fun p hp => (List.mem_append.mp hp).elim (fun z => I.pin p (List.mem_append_right _ z)) fun z => by
    obtain ⟨hb, e⟩ := of_pinsAt z
    obtain ⟨f0, f1, f2, _⟩ := hf p.1 hb
    obtain ⟨o, e', d⟩ := ho p.1 hb
    rw [e] at e'; cases e'
    exact ⟨e, f0, f1, f2, d⟩
theorem Inv.unpinned {pins pl : List (Addr × Obj)} {σ : St} {H : Hp} {s : Shared} (I : Inv X (pins ++ pl) σ H s) : Inv X pins σ H s := I.pins_of fun p hp => I.pin p (List.mem_append_right _ (List.mem_append_left _ hp))
theorem ps_for {iter : Expr} {body : List Stmt} {wi : TI} {g : TG} {tb : TS} {pos : Pos} (hp : PassesOwn (model X.prog X.w) X.A X.env X.xe) (hc : X.calm = true) (hi : PI X tg iter wi) (hg : PG X tg g) (hb : PSs X body tb)
    (hs : ∀ x, foldedSetIterable iter X.env x = pure x := by intro _; rfl) : PS X (.For tg iter body [] pos) (tFor wi g tb) := by
  intro pins s σ H D I h
  refine wpAny_For (thn (hi pins s σ H _ I h) fun v s1 h1 => thn h1 fun itv s2 h2 => ?_) hs
  obtain ⟨it, fp, tn, J, H2, e, I2, T, st2, f2, W, ⟨m0, w0⟩, turn⟩ := h2
  subst e
  -- what stays true of the iterator's objects through the loop
  have stat : ∀ {H' : Hp}, (∀ b ∈ fp, H' b = none) → ∀ b ∈ fp, FpOk X pins H' b := fun hn b hb => ⟨hn b hb, (f2 b hb).2⟩
  refine codeAny_forLoop_any (fun n s' => ∃ i σ' H', Inv X pins σ' H' s' ∧ tn i s'.heap ∧ (∀ b ∈ fp, H' b = none) ∧ W i n σ' H') ?_ m0 ⟨0, σ, H2, I2, st2, fun b hb => (f2 b hb).1, w0⟩
  rintro n s3 ⟨i, σ3, H3, I3, st3, fr3, w3⟩
  rcases turn i n σ3 H3 w3 with ⟨stop, qn⟩ | ⟨go, N, hN, step⟩
  · refine wpAny_passesOwn hp (thn (T.done X rfl rfl rfl hc i pins s3 σ3 H3 X.xe I3 (stat fr3) st3 stop) fun r s4 ⟨hr, I4⟩ => ?_)
    subst hr
    exact wpAny_execs_nil ⟨σ3, H3, I4, qn⟩
  · refine wpAny_passesOwn hp (thn (T.item X rfl rfl rfl hc i pins s3 σ3 H3 X.xe I3 (stat fr3) st3 go) fun r s4 ⟨u, hr, h4⟩ => ?_)
    subst hr
    refine wpAny_passesOwn hp (thn h4 fun _ s5 ⟨x, H5, I5, r5, y5, st5, fr5⟩ => ?_)
    have I5' := I5.pinned (stat fr5) (T.obj _ _ st5)
    refine wpAny_passesOwn hp (thn (hg _ s5 σ3 H5 x u _ I5' r5 (step x H5 y5)) fun _ s6 ⟨σ6, H6, I6, q6⟩ => ?_)
    refine wpAny_passesOwn hp (thn (hb _ s6 σ6 H6 _ I6 q6) fun f s7 q7 => ?_)
    have again : ∀ {σ7 : St} {H7 : Hp}, Inv X (pins ++ pinsAt fp s5.heap) σ7 H7 s7 → N σ7 H7 → ∃ m, m < n ∧ ∃ i σ' H', Inv X pins σ' H' s7 ∧ tn i s7.heap ∧ (∀ b ∈ fp, H' b = none) ∧ W i m σ' H' := fun {σ7 H7} I7 n7 => by
      obtain ⟨m', hm, w7⟩ := hN σ7 H7 n7
      refine ⟨m', hm, i + 1, σ7, H7, I7.unpinned, T.keep _ _ _ st5 fun b hb o e => (I7.pin (b, o) (List.mem_append_right _ (List.mem_append_right _ (mem_pinsAt hb e)))).1, fun b hb => ?_, w7⟩
      obtain ⟨o, e, d⟩ := T.obj _ _ st5 b hb
      exact (I7.pin (b, o) (List.mem_append_right _ (List.mem_append_right _ (mem_pinsAt hb e)))).2.1
    cases f with
    | next => obtain ⟨σ7, H7, I7, n7⟩ := q7; exact again I7 n7
    | cont => obtain ⟨σ7, H7, I7, n7⟩ := q7; exact again I7 n7
    | brk => obtain ⟨σ7, H7, I7, q7⟩ := q7; exact ⟨σ7, H7, I7.unpinned, q7⟩
    | ret v => obtain ⟨x7, σ7, H7, I7, r7, q7⟩ := q7; exact ⟨x7, σ7, H7, I7.unpinned, r7, q7⟩
end

end L2

namespace L2
open PySem PySem.Spec PyProof.Rows

abbrev R2 := V → V → Hp → VK → Prop
def OpR (X : Cx) (f : Value → Value → Sem Value) (r : R2) : Prop :=
  ∀ (pins : List (Addr × Obj)) (s : Shared) (σ : St) (H : Hp) (x y : V) (v u : Value) (Q : VK), Inv X pins σ H s → RelV x v → RelV y u → r x y H Q →
    wpAny (model X.prog X.w) X.A (f v u) (EP X pins σ Q) X.xe s
def UnR (X : Cx) (f : Value → Sem Value) (r : V → Hp → VK → Prop) : Prop :=
  ∀ (pins : List (Addr × Obj)) (s : Shared) (σ : St) (H : Hp) (x : V) (v : Value) (Q : VK), Inv X pins σ H s → RelV x v → r x H Q →
    wpAny (model X.prog X.w) X.A (f v) (EP X pins σ Q) X.xe s
def CallR (X : Cx) (f : Value) (r : List V → Hp → VK → Prop) : Prop :=
  ∀ (pins : List (Addr × Obj)) (s : Shared) (σ : St) (H : Hp) (xs : List V) (us : List Value) (Q : VK), Inv X pins σ H s → Vals xs us → r xs H Q →
    wpAny (model X.prog X.w) X.A (call f us) (EP X pins σ Q) X.xe s
def TruR (X : Cx) (r : V → Hp → (Bool → Hp → Prop) → Prop) : Prop :=
  ∀ (pins : List (Addr × Obj)) (s : Shared) (σ : St) (H : Hp) (x : V) (v : Value) (Q : Bool → Hp → Prop), Inv X pins σ H s → RelV x v → r x H Q →
    wpAny (model X.prog X.w) X.A (truthy v) (TP X pins σ Q) X.xe s

def tOp (r : R2) (ta tb : TE) : TE := fun σ H Q => ta σ H fun x H1 => tb σ H1 fun y H2 => r x y H2 Q
def tUn (r : V → Hp → VK → Prop) (ta : TE) : TE := fun σ H Q => ta σ H fun x H1 => r x H1 Q
def rI (C : Int → Int → Prop) (g : Int → Int → V) : R2 := fun x y H Q => ∃ i j, x = .int i ∧ y = .int j ∧ C i j ∧ Q (g i j) H
def rI0 (g : Int → Int → V) : R2 := fun x y H Q => ∃ i j, x = .int i ∧ y = .int j ∧ Q (g i j) H
def rU (g : Int → V) : V → Hp → VK → Prop := fun x H Q => ∃ i, x = .int i ∧ Q (g i) H

section
variable {X : Cx} {a b c : Expr} {ta tb tc : TE} {pos : Pos}

theorem binT (ha : PE X a ta) (hb : PE X b tb) {pins : List (Addr × Obj)} {s : Shared} {σ : St} {H : Hp} {R : V → V → Hp → Prop} (I : Inv X pins σ H s)
    (h : ta σ H fun x H1 => tb σ H1 fun y H2 => R x y H2) {Q : Value → Shared → Prop} {f : Value → Value → Sem Value}
    (hf : ∀ v u s2 x y H2, Inv X pins σ H2 s2 → RelV x v → RelV y u → R x y H2 → wpAny (model X.prog X.w) X.A (f v u) Q X.xe s2) :
    wpAny (model X.prog X.w) X.A (eval a X.env) (fun v s₁ => wpAny (model X.prog X.w) X.A (eval b X.env) (fun u s₂ => wpAny (model X.prog X.w) X.A (f v u) Q X.xe s₂) X.xe s₁) X.xe s := by
  refine thn (ha pins s σ H _ I h) fun v s1 ⟨x, H1, I1, r1, q1⟩ => ?_
  refine thn (hb pins s1 σ H1 _ I1 q1) fun u s2 ⟨y, H2, I2, r2, q2⟩ => ?_
  exact hf v u s2 x y H2 I2 r1 r2 q2

theorem pe_op {op : Operator} {r : R2} (ho : OpR X (binaryOp op) r) (ha : PE X a ta) (hb : PE X b tb) : PE X (.BinOp a op b pos) (tOp r ta tb) := by
  intro pins s σ H Q I h
  exact wpAny_BinOp (binT ha hb I h fun v u s2 x y H2 I2 rx ry q => ho pins s2 σ H2 x y v u Q I2 rx ry q)
theorem pe_un {op : UnaryOp} {r : V → Hp → VK → Prop} (ho : UnR X (unaryOp op) r) (ha : PE X a ta) : PE X (.UnaryOp op a pos) (tUn r ta) := by
  intro pins s σ H Q I h
  exact UnaryOp_ (thn (ha pins s σ H _ I h) fun v s1 ⟨x, H1, I1, r1, q1⟩ => ho pins s1 σ H1 x v Q I1 r1 q1)
theorem opI {f : Value → Value → Sem Value} {C : Int → Int → Prop} {g : Int → Int → Int}
    (rule : ∀ (i j : Int) (t u : Tok) (s : Shared) (Q : Value → Shared → Prop) (E : Value → Shared → Prop), C i j → Q (.int (g i j) s.toks) { s with toks := s.toks + 1 } → wpAny (model X.prog X.w) X.A (f (.int i t) (.int j u)) Q E s) :
    OpR X f (rI C fun i j => .int (g i j)) := by
  intro pins s σ H x y v u Q I rx ry h
  obtain ⟨i, j, rfl, rfl, hc, q⟩ := h
  obtain ⟨t, rfl⟩ := rx
  obtain ⟨t', rfl⟩ := ry
  exact rule i j t t' s _ _ hc ⟨.int (g i j), H, I.tok _, ⟨_, rfl⟩, q⟩
theorem opI0 {f : Value → Value → Sem Value} {g : Int → Int → Int}
    (rule : ∀ (i j : Int) (t u : Tok) (s : Shared) (Q : Value → Shared → Prop) (E : Value → Shared → Prop), Q (.int (g i j) s.toks) { s with toks := s.toks + 1 } → wpAny (model X.prog X.w) X.A (f (.int i t) (.int j u)) Q E s) :
    OpR X f (rI0 fun i j => .int (g i j)) := by
  intro pins s σ H x y v u Q I rx ry h
  obtain ⟨i, j, rfl, rfl, q⟩ := h
  obtain ⟨t, rfl⟩ := rx
  obtain ⟨t', rfl⟩ := ry
  exact rule i j t t' s _ _ ⟨.int (g i j), H, I.tok _, ⟨_, rfl⟩, q⟩
theorem opB0 {f : Value → Value → Sem Value} {g : Int → Int → Bool}
    (rule : ∀ (i j : Int) (t u : Tok) (s : Shared) (Q : Value → Shared → Prop) (E : Value → Shared → Prop), Q (.bool (g i j)) s → wpAny (model X.prog X.w) X.A (f (.int i t) (.int j u)) Q E s) :
    OpR X f (rI0 fun i j => .bl (g i j)) := by
  intro pins s σ H x y v u Q I rx ry h
  obtain ⟨i, j, rfl, rfl, q⟩ := h
  obtain ⟨t, rfl⟩ := rx
  obtain ⟨t', rfl⟩ := ry
  exact rule i j t t' s _ _ ⟨.bl (g i j), H, I, rfl, q⟩

def CPow (i j : Int) : Prop := 0 ≤ j ∧ j ≤ 1000000 ∧ i.natAbs < 2 ^ 64
def CMul (i j : Int) : Prop := (-(2 ^ 64) < i ∧ i < 2 ^ 64) ∨ (-(2 ^ 64) < j ∧ j < 2 ^ 64)
theorem CMul.ok {i j : Int} (h : CMul i j) : IntMulOk i j := by
  rcases h with ⟨h1, h2⟩ | ⟨h1, h2⟩
  · exact .of_left (intBits_le_64 h1 h2)
  · exact .of_right (intBits_le_64 h1 h2)
theorem op_add : OpR X (binaryOp .Add) (rI0 fun i j => .int (i + j)) := opI0 fun _ _ _ _ _ _ _ q => add_int q
theorem op_sub : OpR X (binaryOp .Sub) (rI0 fun i j => .int (i - j)) := opI0 fun _ _ _ _ _ _ _ q => sub_int q
theorem op_mul : OpR X (binaryOp .Mult) (rI CMul fun i j => .int (i * j)) := opI fun _ _ _ _ _ _ _ hc q => mul_int q hc.ok
theorem op_mod : OpR X (binaryOp .Mod) (rI (fun _ j => 0 < j) fun i j => .int (i % j)) := opI fun i j _ _ _ _ _ hc q => by
  have h1 : (0 : Int) < j := hc
  exact mod_int' (by omega) (by rw [Int.fmod_eq_emod_of_nonneg i (by omega)]; exact q)
theorem op_pow : OpR X (binaryOp .Pow) (rI CPow fun i j => .int (i ^ j.toNat)) := opI fun _ _ _ _ _ _ _ hc q => pow_int_small hc.1 hc.2.1 hc.2.2 q
theorem unI {f : Value → Sem Value} {g : Int → Int}
    (rule : ∀ (i : Int) (t : Tok) (s : Shared) (Q : Value → Shared → Prop) (E : Value → Shared → Prop), Q (.int (g i) s.toks) { s with toks := s.toks + 1 } → wpAny (model X.prog X.w) X.A (f (.int i t)) Q E s) :
    UnR X f (rU fun i => .int (g i)) := by
  intro pins s σ H x v Q I rx h
  obtain ⟨i, rfl, q⟩ := h
  obtain ⟨t, rfl⟩ := rx
  exact rule i t s _ _ ⟨.int (g i), H, I.tok _, ⟨_, rfl⟩, q⟩
theorem un_neg : UnR X (unaryOp .USub) (rU fun i => .int (-i)) := unI fun _ _ _ _ _ q => neg_int q
end

section
variable {X : Cx} {a b c : Expr} {ta tb tc : TE} {pos : Pos}
theorem op_lt : OpR X (compareOp .Lt) (rI0 fun i j => .bl (decide (i < j))) := opB0 fun _ _ _ _ _ _ _ q => lt_int q
theorem op_le : OpR X (compareOp .LtE) (rI0 fun i j => .bl (decide (i ≤ j))) := opB0 fun _ _ _ _ _ _ _ q => le_int q
theorem op_gt : OpR X (compareOp .Gt) (rI0 fun i j => .bl (decide (j < i))) := opB0 fun _ _ _ _ _ _ _ q => gt_int q
theorem op_ge : OpR X (compareOp .GtE) (rI0 fun i j => .bl (decide (j ≤ i))) := opB0 fun _ _ _ _ _ _ _ q => ge_int q
theorem OpR.or {f : Value → Value → Sem Value} {r r' : R2} (h : OpR X f r) (h' : OpR X f r') : OpR X f (fun x y H Q => r x y H Q ∨ r' x y H Q) := by
  intro pins s σ H x y v u Q I rx ry q
  rcases q with q | q
  · exact h pins s σ H x y v u Q I rx ry q
  · exact h' pins s σ H x y v u Q I rx ry q

theorem nomark (b : Expr) {op : CmpOp} (h : op ≠ .In := by decide) (h2 : op ≠ .NotIn := by decide) : behindInMarks op b = false := by
  have e1 : (op == CmpOp.In) = false := by cases op <;> first | rfl | exact absurd rfl h
  have e2 : (op == CmpOp.NotIn) = false := by cases op <;> first | rfl | exact absurd rfl h2
  cases b <;> simp [behindInMarks, e1, e2]
theorem pe_cmpR {op : CmpOp} {r : R2} (ho : OpR X (compareOp op) r) (ha : PE X a ta) (hb : PE X b tb) (hm : behindInMarks op b = false) : PE X (.Compare a [op] [b] pos) (tOp r ta tb) := by
  intro pins s σ H Q I h
  exact wpAny_Compare1 (binT ha hb I h fun v u s2 x y H2 I2 rx ry q => ho pins s2 σ H2 x y v u Q I2 rx ry q) hm
def tTest (t : TE) : TT := fun σ H Q => t σ H fun x H' => ∃ k, x = .bl k ∧ Q k H'
theorem pt_cmpR {op : CmpOp} {r : R2} (ho : OpR X (compareOp op) r) (ha : PE X a ta) (hb : PE X b tb) (hm : behindInMarks op b = false) : PT X (.Compare a [op] [b] pos) (tTest (tOp r ta tb)) := by
  intro pins s σ H Q I h
  refine wpAny_isTrue_Compare1 (thn (ha pins s σ H _ I h) fun v s1 ⟨x, H1, I1, r1, q1⟩ => thn (hb pins s1 σ H1 _ I1 q1) fun u s2 ⟨y, H2, I2, r2, q2⟩ =>
    thn (ho pins s2 σ H2 x y v u _ I2 r1 r2 q2) fun c s3 ⟨z, H3, I3, r3, k, e, q3⟩ => ?_) hm
  subst e
  cases r3
  exact wpAny_truthy_bool ⟨H3, I3, q3⟩
def tChain (r r' : R2) (ta tb tc : TE) : TE := fun σ H Q => ta σ H fun x H1 => tb σ H1 fun y H2 => r x y H2 fun z H3 => ∃ k, z = .bl k ∧
  (if k = true then tc σ H3 fun w' H4 => r' y w' H4 Q else Q (.bl false) H3)
theorem pe_chain {op op' : CmpOp} {r r' : R2} (ho : OpR X (compareOp op) r) (ho' : OpR X (compareOp op') r') (ha : PE X a ta) (hb : PE X b tb) (hc : PE X c tc)
    (hm : lastMarks [op, op'] [b, c] = false := by with_unfolding_all rfl) : PE X (.Compare a [op, op'] [b, c] pos) (tChain r r' ta tb tc) := by
  intro pins s σ H Q I h
  refine Compare_chain (thn (ha pins s σ H _ I h) fun v s1 ⟨x, H1, I1, r1, q1⟩ => chain_link (thn (hb pins s1 σ H1 _ I1 q1) fun u s2 ⟨y, H2, I2, r2, q2⟩ =>
    thn (ho pins s2 σ H2 x y v u _ I2 r1 r2 q2) fun d s3 ⟨z, H3, I3, r3, k, e, q3⟩ => ?_)) hm
  subst e
  cases r3
  refine wpAny_truthy_bool ?_
  cases k with
  | false => exact ite_ff ⟨.bl false, H3, I3, rfl, q3⟩
  | true => exact ite_tt (chain_last (thn (hc pins s3 σ H3 _ I3 q3) fun w' s4 ⟨z', H4, I4, r4, q4⟩ => ho' pins s4 σ H4 y z' u w' Q I4 r2 r4 q4))
def TruV (K : PySem.W.Frag) (x : V) (H : Hp) (k : Bool) : Prop :=
  match x with
  | .non => k = false
  | .bl b => k = b
  | .int i => k = (i != 0)
  | .str y => y.length ≤ sizeLine ∧ k = ((y.length : Int) != 0)
  | .byt y => y.size ≤ sizeLine ∧ k = ((y.size : Int) != 0)
  | .ref p => (∃ xs, SqL K H p xs ∧ k = !xs.isEmpty) ∨ (∃ xs, SqT K H p xs ∧ k = !xs.isEmpty) ∨ ∃ kvs, H p = some (.dK kvs) ∧ k = !kvs.isEmpty
  | _ => False
theorem isEmpty_kv {κ : Type} {kvs : List (κ × V)} {vs : List (κ × Value)} (r : KV kvs vs) : (!vs.isEmpty) = !kvs.isEmpty := by
  cases r <;> rfl
theorem isEmpty_of {xs : List V} {its : List Value} (r : Vals xs its) : (!its.toArray.isEmpty) = !xs.isEmpty := by
  cases r <;> simp
theorem line63 : (sizeLine : Nat) < 2 ^ 63 := by rw [sizeLine_eq]; decide
theorem tru_ok : TruR X (fun x H Q => ∃ k, TruV X.K x H k ∧ Q k H) := by
  intro pins s σ H x v Q I rx h
  obtain ⟨k, e, q⟩ := h
  have hl := line63
  have hs : sizeLine = 16777216 := sizeLine_eq
  cases x with
  | non =>
    cases rx
    have e' : k = false := e
    subst e'
    exact truthy_none ⟨H, I, q⟩
  | bl b =>
    cases rx
    have e' : k = b := e
    subst e'
    exact wpAny_truthy_bool ⟨H, I, q⟩
  | int i =>
    obtain ⟨t, rfl⟩ := rx
    have e' : k = (i != 0) := e
    subst e'
    exact PySem.P.truthy_int ⟨H, I, q⟩
  | str y =>
    obtain ⟨t, rfl⟩ := rx
    obtain ⟨hy, e'⟩ : y.length ≤ sizeLine ∧ k = ((y.length : Int) != 0) := e
    subst e'
    exact PySem.P.truthy_str (by omega) ⟨H, I.tok _, q⟩
  | byt y =>
    obtain ⟨t, rfl⟩ := rx
    obtain ⟨hy, e'⟩ : y.size ≤ sizeLine ∧ k = ((y.size : Int) != 0) := e
    subst e'
    exact PySem.W.truthy_bytes (by omega) ⟨H, I.tok _, q⟩
  | ref p =>
    cases rx
    have e' : (∃ xs, SqL X.K H p xs ∧ k = !xs.isEmpty) ∨ (∃ xs, SqT X.K H p xs ∧ k = !xs.isEmpty) ∨ ∃ kvs, H p = some (.dK kvs) ∧ k = !kvs.isEmpty := e
    rcases e' with ⟨xs, hx, e'⟩ | ⟨xs, hx, e'⟩ | ⟨kvs, hx, e'⟩
    · subst e'
      obtain ⟨its, r, pl, hz⟩ := I.list hx
      have hlen := r.length
      exact wpAny_truthy_list pl.isList (by simp only [List.size_toArray]; omega) ⟨H, I.tok _, by rw [isEmpty_of r]; exact q⟩
    · subst e'
      obtain ⟨its, r, pl, hz⟩ := I.tuple hx
      have hlen := r.length
      exact truthy_tuple pl (by simp only [List.size_toArray]; omega) ⟨H, I.tok _, by rw [isEmpty_of r]; exact q⟩
    · subst e'
      obtain ⟨hz, hS, vs, r, m⟩ : kvs.length ≤ sizeLine ∧ (p == sysModules) = false ∧ ∃ vs, KV kvs vs ∧ s.heap.DictOf (mixKind X.prog X.w) p vs := I.hok p _ hx
      have hlen : kvs.length = vs.length := Paired.length r
      exact wpAny_truthy_dict hS m (by omega) ⟨H, I.tok _, by rw [isEmpty_kv r]; exact q⟩
  | _ => exact (show False from e).elim
theorem pt_truth (ha : PE X a ta) (he : ∀ whole, isTrue a X.env whole = (do let v ← whole; standAt a.pos; holding [v] (truthy v))) :
    PT X a (fun σ H Q => ta σ H fun x H' => ∃ k, TruV X.K x H' k ∧ Q k H') := by
  intro pins s σ H Q I h
  exact isTrue_plain (thn (ha pins s σ H _ I h) fun v s1 ⟨x, H1, I1, r1, q1⟩ => tru_ok pins s1 σ H1 x v Q I1 r1 q1) (he _)

theorem op_add_str : OpR X (binaryOp .Add) (fun x y H Q => ∃ i j, x = .str i ∧ y = .str j ∧ i.length + j.length ≤ sizeLine ∧ Q (.str (i ++ j)) H) := by
  intro pins s σ H x y v u Q I rx ry h
  obtain ⟨i, j, rfl, rfl, hz, q⟩ := h
  obtain ⟨t, rfl⟩ := rx
  obtain ⟨t', rfl⟩ := ry
  exact add_str (fun t' tk => ⟨.str (i ++ j), H, I.tok _, ⟨_, rfl⟩, q⟩) hz
theorem vals1 {x : V} {us : List Value} (r : Vals [x] us) : ∃ u, us = [u] ∧ RelV x u := by
  cases r with
  | cons r1 r2 => cases r2; exact ⟨_, rfl, r1⟩
theorem vals2 {x y : V} {us : List Value} (r : Vals [x, y] us) : ∃ u w', us = [u, w'] ∧ RelV x u ∧ RelV y w' := by
  cases r with
  | cons r1 r2 =>
    cases r2 with
    | cons r3 r4 => cases r4; exact ⟨_, _, rfl, r1, r3⟩
theorem call_abs : CallR X (.builtin "abs") (fun xs H Q => ∃ i, xs = [.int i] ∧ Q (.int (if i < 0 then -i else i)) H) := by
  intro pins s σ H xs us Q I r h
  obtain ⟨i, rfl, q⟩ := h
  obtain ⟨u, rfl, t, rfl⟩ := vals1 r
  exact call_abs_int fun u tk => ⟨.int (if i < 0 then -i else i), H, I.tok _, ⟨_, rfl⟩, q⟩
theorem call_min2 (hc : X.calm = true) : CallR X (.builtin "min") (fun xs H Q => ∃ i j, xs = [.int i, .int j] ∧ Q (.int (if j < i then j else i)) H) := by
  intro pins s σ H xs us Q I r h
  obtain ⟨i, j, rfl, q⟩ := h
  obtain ⟨u, w', rfl, ⟨t, rfl⟩, ⟨t', rfl⟩⟩ := vals2 r
  refine min_two_ints (I.ok.hd hc) fun h' tk k => ⟨_, H, I.kept k, ?_, q⟩
  by_cases hj : j < i
  · rw [if_pos hj, if_pos hj]; exact ⟨_, rfl⟩
  · rw [if_neg hj, if_neg hj]; exact ⟨_, rfl⟩
end
end L2

namespace L2
open PySem PySem.Spec PyProof.Rows

structure ObjM (h : Heap) (x dx C : Addr) (mA : Str → Option Value) : Prop where
  obj : h.get? x = some (PySem.W.instObj C dx)
  ns : h.Ns1 dx mA
  ne : dx ≠ x

theorem lookIn_ns {h : Heap} {dx : Addr} {mA : Str → Option Value} (n : h.Ns1 dx mA) : ∃ od, h.get? dx = some od ∧ ∀ name, PySem.W.lookIn name od = some (mA name) := by
  obtain ⟨o, es, ep, ho, hd, hk, _, hm⟩ := n
  refine ⟨o, ho, fun name => ?_⟩
  have e := hm name
  unfold nsFind findBy at e
  rw [← Array.find?_toList] at e
  unfold PySem.W.lookIn
  rw [hd]
  dsimp only
  split
  · rename_i y q
    rw [q] at e
    exact congrArg some e
  · rename_i q
    rw [q] at e
    have a : es.toList.any (·.refKey) = false := by
      rw [List.any_eq_false]
      intro y hy
      obtain ⟨z, t, hkey⟩ := hk y (Array.mem_toList_iff.mp hy)
      simp [DictEntry.refKey, hkey]
    have a' : ¬ es.toList.any (·.refKey) = true := by rw [a]; exact Bool.false_ne_true
    rw [if_neg a']
    exact congrArg some e

theorem ObjM.look {h : Heap} {x dx C : Addr} {mA : Str → Option Value} (I : ObjM h x dx C mA) : ∃ od, PySem.W.InstAt h x (PySem.W.instObj C dx) C (some od) ∧ ∀ name, PySem.W.lookIn name od = some (mA name) :=
  let ⟨od, ho, hl⟩ := lookIn_ns I.ns
  ⟨od, ⟨I.obj, rfl, rfl, ho⟩, hl⟩

section
variable {prog : Program} {w : World} {A : Around} {E : Value → Shared → Prop} {s : Shared} {K : PySem.W.Frag} {x dx C f : Addr} {mA : Str → Option Value} {name : Str} {v : Value}

end

section
variable {P : Program} {w : World} {H H' : Hp} {h h' : Heap} {a C dx : Addr} {fs fs' : List (Str × V)}
end

structure Cls (K : PySem.W.Frag) (C : Addr) : Prop where
  pg : PySem.W.plainGet K C Str.empty = true
  hd : PySem.W.hasDictIn K C = true
  po : PySem.W.plainOver K C = true
  sa : PySem.W.findIn K (.ref C) "__setattr__" = some (some (.builtin "object.__setattr__"))
theorem Cls.get {K : PySem.W.Frag} {C : Addr} (c : Cls K C) (f : Str) : PySem.W.plainGet K C f = true := c.pg
section
variable {X : Cx} {pins : List (Addr × Obj)} {σ : St} {H : Hp} {s : Shared} {a C dx : Addr} {fs : List (Str × V)} {f : Str} {v : V} {A : Around} {E : Value → Shared → Prop}

theorem Inv.made (I : Inv X pins σ H s) : Inv X pins σ (upd (upd H s.heap.objs.size (.own (s.heap.objs.size + 1))) (s.heap.objs.size + 1) (.ins C s.heap.objs.size []))
    { s with heap := (s.heap.push PySem.W.emptyDict).push (PySem.W.instObj C s.heap.objs.size) } := by
  have e1 : (s.heap.push PySem.W.emptyDict).get? s.heap.objs.size = some PySem.W.emptyDict := Heap.get?_push_size s.heap rfl
  have e2 : ((s.heap.push PySem.W.emptyDict).push (PySem.W.instObj C s.heap.objs.size)).get? (s.heap.objs.size + 1) = some (PySem.W.instObj C s.heap.objs.size) := by
    have := Heap.get?_push_size (s.heap.push PySem.W.emptyDict) (o := PySem.W.instObj C s.heap.objs.size) rfl
    rwa [Heap.size_push] at this
  have e3 : (s.heap.push PySem.W.emptyDict).Ns s.heap.objs.size (fun _ => none) := ⟨PySem.W.emptyDict, #[], _, e1, rfl, (fun e he => absurd he (by simp)), fun _ => rfl⟩
  have I1 := I.laid (a := s.heap.objs.size) (o := .own (s.heap.objs.size + 1)) (h' := s.heap.push PySem.W.emptyDict) (t' := s.toks) (fun b u q => Heap.get?_push_of_some _ q) (Nat.le_refl _) ⟨_, e1⟩
  refine I1.laid (a := s.heap.objs.size + 1) (o := .ins C s.heap.objs.size []) (t' := s.toks) (fun b u q => Heap.get?_push_of_some _ q) (Nat.le_of_eq (Heap.size_push _ _)) ?_
  have ne : s.heap.objs.size ≠ s.heap.objs.size + 1 := Nat.ne_of_lt (Nat.lt_succ_self _)
  refine ⟨by rw [upd_ne ne, upd_same], Nat.zero_le _, ne, e2, fun _ => none, (Heap.Ns1.of_empty e3).at fun o q => Heap.get?_push_of_some _ q, fun _ => True.intro, fun y hy => absurd rfl hy⟩

end

section
variable {X : Cx} {o e value : Expr} {f : Str} {pos pos' tpos : Pos} {ta tv : TE}
end

section
variable {X : Cx} {pins : List (Addr × Obj)} {σ : St} {H : Hp} {s : Shared} {A : Around} {E : Value → Shared → Prop} {Q : Value → Shared → Prop} {c : Value} {b : Bool}
end
end L2

namespace L2
open PySem PySem.Spec PyProof.Rows

structure Room (k : Nat) (A : Around) : Prop where
  hd : A.handled = none
  dp : A.depth + 3 * k + 5 < recursionLimit
  un : A.units + 16 * k + 200 < cLine
theorem Room.mono {j k : Nat} {A : Around} (r : Room k A) (h : j ≤ k) : Room j A := ⟨r.hd, by have := r.dp; omega, by have := r.un; omega⟩
theorem Room.deeper {k : Nat} {A : Around} (r : Room (k + 1) A) (env : Env) : Room k (A.deeper env) :=
  ⟨r.hd, by have := r.dp; show A.depth + 1 + 3 * k + 5 < _; omega, by have := r.un; show A.units + 3 + 16 * k + 200 < _; omega⟩
theorem Room.in1 {k : Nat} {A : Around} (r : Room (k + 1) A) : Room k A.in1 :=
  ⟨r.hd, by have := r.dp; show A.depth + 3 * k + 5 < _; omega, by have := r.un; show A.units + 1 + 16 * k + 200 < _; omega⟩
theorem Room.depth {k : Nat} {A : Around} (r : Room k A) : A.depth < recursionLimit := by have := r.dp; omega
theorem Room.units {k : Nat} {A : Around} (r : Room k A) : A.units + 64 < cLine := by have := r.un; omega
def tNil : TA := fun _ H Q => Q [] H
def tCons (ta : TE) (tr : TA) : TA := fun σ H Q => ta σ H fun x H1 => tr σ H1 fun xs H2 => Q (x :: xs) H2
section
variable {X : Cx} {e : Expr} {es : List Expr} {te : TE} {t : TA} {pos : Pos}
theorem pa_nil : PA X [] tNil := fun _ _ _ _ H Q I h => Calls.spliced_nil ⟨[], H, I, .nil, h⟩
theorem pa_cons (ha : PE X e te) (hr : PA X es t) (hs : starEach (e :: es) X.env = (false, eval e X.env) :: starEach es X.env := by rfl) : PA X (e :: es) (tCons te t) := by
  intro pos pins s σ H Q I h
  rw [hs]
  show wpAny _ _ (spliced ((false, eval e X.env) :: backTo pos (starEach es X.env))) _ _ s
  refine Calls.spliced_cons (thn (ha pins s σ H _ I h) fun u s1 ⟨x, H1, I1, r1, q1⟩ => ?_)
  exact thn (hr pos pins s1 σ H1 _ I1 q1) fun us s2 ⟨xs, H2, I2, r2, q2⟩ => ⟨x :: xs, H2, I2, .cons r1 r2, q2⟩

def tTup (t : TA) : TE := fun σ H Q => t σ H fun xs H1 => xs.length ≤ sizeLine ∧ ∀ p, H1 p = none → Q (.ref p) (upd H1 p (.tup xs))
def tLst (t : TA) : TE := fun σ H Q => t σ H fun xs H1 => xs.length ≤ sizeLine ∧ ∀ p, H1 p = none → Q (.ref p) (upd H1 p (.lst xs))
theorem pe_tup {x1} (h : PA X es t) : PE X (.Tuple es x1 pos) (tTup t) := by
  intro pins s σ H Q I hq
  refine wpAny_Tuple_spliced (thn (h pos pins s σ H _ I hq) fun us s1 ⟨xs, H1, I1, r, z, q⟩ => ⟨by rw [← r.length]; exact z, ?_⟩)
  have hf : H1 s1.heap.objs.size = none := I1.hok.fresh (Nat.le_refl _)
  refine ⟨.ref s1.heap.objs.size, upd H1 s1.heap.objs.size (.tup xs), I1.laid (t' := s1.toks) (fun b u e => Heap.get?_push_of_some _ e) (Nat.le_refl _) ?_, rfl, q _ hf⟩
  exact ⟨z, us, r, ⟨_, Heap.get?_push_size _ rfl, rfl, _, rfl⟩⟩
theorem pe_lst (h : PA X es t) : PE X (.List es pos) (tLst t) := by
  intro pins s σ H Q I hq
  refine wpAny_List_spliced (thn (h pos pins s σ H _ I hq) fun us s1 ⟨xs, H1, I1, r, z, q⟩ => ⟨by rw [← r.length]; exact z, ?_⟩)
  have hf : H1 s1.heap.objs.size = none := I1.hok.fresh (Nat.le_refl _)
  refine ⟨.ref s1.heap.objs.size, upd H1 s1.heap.objs.size (.lst xs), I1.laid (t' := s1.toks) (fun b u e => Heap.get?_push_of_some _ e) (Nat.le_refl _) ?_, rfl, q _ hf⟩
  exact ⟨z, us, 0, r, Heap.get?_push_size _ rfl⟩
end

abbrev Sp := List V → Hp → VK → XK → Prop
abbrev CXT := List Env → Hp → Shared → XK → Value → Shared → Prop

structure Env0 (P : Program) (w : World) (K : PySem.W.Frag) (mg : Str → Option Value) (base : Heap) (A : Around) (outer : List Env) (s : Shared) (H : Hp) : Prop where
  frames : A.frames = some outer
  mod : Mod K mg base
  bs : ∀ b o, base.get? b = some o → s.heap.get? b = some o ∧ H b = none
  bsz : base.objs.size ≤ s.heap.objs.size
  funs : s.heap.FunFrames base outer
  frf : ∀ b ∈ frs outer, H b = none
  hok : HOk P w H s.heap
  bare : AllBare s.gens
def CE (outer : List Env) (P : Program) (w : World) (H : Hp) (s : Shared) (Q : VK) (u : Value) (s' : Shared) : Prop :=
  ∃ v H', s'.os = s.os ∧ AllBare s'.gens ∧ Un (frs outer) [] H H' s.heap s'.heap ∧ HOk P w H' s'.heap ∧ RelV v u ∧ Q v H'
def CR (CX : CXT) (outer : List Env) (P : Program) (w : World) (H : Hp) (s : Shared) (Q : VK) (E : XK) (r : Result) (s' : Shared) : Prop :=
  match r with
  | .ok (.ret u) => CE outer P w H s Q u s'
  | .ok _ => False
  | .error e => CX outer H s E e s'
structure FnOk (P : Program) (w : World) (K : PySem.W.Frag) (mg : Str → Option Value) (base : Heap) (CX : CXT) (k : Nat) (f : Addr) (fd : FuncData) (ps : List Str) (sp : Sp) : Prop where
  len : ∀ vs H Q E, sp vs H Q E → vs.length = ps.length
  run : ∀ (A : Around) (outer : List Env) (s : Shared) (H : Hp) (args : Args) (us : List Value) (vs : List V) (Q : VK) (E : XK), Room k A → Env0 P w K mg base A outer s H → BindsTo s fd args (ps.zip us) → Vals vs us → sp vs H Q E →
    codeAny (model P w) A (.call (.ref f) args) (CR CX outer P w H s Q E) s
theorem FnOk.mono {P : Program} {w : World} {K : PySem.W.Frag} {mg : Str → Option Value} {base : Heap} {CX : CXT} {j k : Nat} {f : Addr} {fd : FuncData} {ps : List Str} {sp : Sp} (F : FnOk P w K mg base CX j f fd ps sp) (h : j ≤ k) :
    FnOk P w K mg base CX k f fd ps sp := ⟨F.len, fun A outer s H args us vs Q E hr => F.run A outer s H args us vs Q E (hr.mono h)⟩
theorem FnOk.imp {P : Program} {w : World} {K : PySem.W.Frag} {mg : Str → Option Value} {base : Heap} {CX : CXT} {k : Nat} {f : Addr} {fd : FuncData} {ps : List Str} {sp sp' : Sp} (F : FnOk P w K mg base CX k f fd ps sp)
    (h : ∀ vs H Q E, sp' vs H Q E → sp vs H Q E) : FnOk P w K mg base CX k f fd ps sp' :=
  ⟨fun vs H Q E q => F.len vs H Q E (h _ _ _ _ q), fun A outer s H args us vs Q E hr he hb hv hs => F.run A outer s H args us vs Q E hr he hb hv (h _ _ _ _ hs)⟩

theorem Env0.in1 {P : Program} {w : World} {K : PySem.W.Frag} {mg : Str → Option Value} {base : Heap} {A : Around} {outer : List Env} {s : Shared} {H : Hp} (e : Env0 P w K mg base A outer s H) :
    Env0 P w K mg base A.in1 outer s H := ⟨e.frames, e.mod, e.bs, e.bsz, e.funs, e.frf, e.hok, e.bare⟩

section
variable {X : Cx} {pins : List (Addr × Obj)} {σ : St} {H : Hp} {s s' : Shared}
theorem Inv.env0 (I : Inv X pins σ H s) : Env0 X.prog X.w X.K X.mg X.base X.A X.stack s H :=
  ⟨I.ok.frames, I.ok.mod, I.bs, Nat.le_trans I.ok.bsz I.sz, I.stack, I.stkFree, I.hok, I.bare⟩
theorem Inv.after {Q : VK} {u : Value} (I : Inv X pins σ H s) (h : CE X.stack X.prog X.w H s Q u s') : EP X pins σ Q u s' := by
  obtain ⟨v, H', os, bare, un, hok, r, q⟩ := h
  obtain ⟨hh, g, d, t, os'⟩ := s'
  obtain rfl : os' = s.os := os
  exact ⟨v, H', I.call (h' := hh) (g' := g) (d' := d) (t' := t) (ch := []) un hok bare (fun b z => absurd z (by simp)), r, q⟩
end

def tCall (sp : Sp) (dvs : List V) (E : XK) (t : TA) : TE := fun σ H Q => t σ H fun vs H1 => sp (vs ++ dvs) H1 Q E
def Binds (K : PySem.W.Frag) (fd : FuncData) (ps : List Str) (ds : List Value) : Prop :=
  ∀ (s : Shared) (us : List Value), K.In s.heap → (us ++ ds).length = ps.length → BindsTo s fd ⟨us, []⟩ (ps.zip (us ++ ds))
theorem Binds.all {K : PySem.W.Frag} {fd : FuncData} {ps : List Str} (h : ∀ us : List Value, us.length = ps.length → bindArgs fd ⟨us, []⟩ = pure (ps.zip us)) : Binds K fd ps [] := fun s us _ hl => by
  rw [List.append_nil] at hl ⊢
  exact .of_eq (h us hl)

def Passes (CX : CXT) (X : Cx) (E : XK) : Prop := ∀ (pins : List (Addr × Obj)) (σ : St) (H : Hp) (s : Shared) (e : Value) (s' : Shared), Inv X pins σ H s → CX X.stack H s E e s' → X.xe e s'

section
variable {X : Cx} {CX : CXT} {k : Nat} {f C : Addr} {fd : FuncData} {ps : List Str} {sp : Sp} {dvs : List V} {ds : List Value} {E : XK} {x m : Str} {p pos apos : Pos} {e o : Expr} {es : List Expr} {ta : TE} {t : TA}

theorem run_fn {pins : List (Addr × Obj)} {σ : St} {H : Hp} {s : Shared} {Q : VK} {us : List Value} {vs : List V} (F : FnOk X.prog X.w X.K X.mg X.base CX k f fd ps sp) (hr : Room k X.A) (hb : Binds X.K fd ps ds) (hd : Vals dvs ds) (hx : Passes CX X E)
    (I : Inv X pins σ H s) (r : Vals vs us) (h : sp (vs ++ dvs) H Q E) : wpAny (model X.prog X.w) X.A (call (.ref f) us) (EP X pins σ Q) X.xe s := by
  have r2 : Vals (vs ++ dvs) (us ++ ds) := r.append hd
  have hl : (us ++ ds).length = ps.length := by rw [← r2.length]; exact F.len _ _ _ _ h
  refine wpAny_call (codeAny_mono (F.run X.A X.stack s H ⟨us, []⟩ (us ++ ds) (vs ++ dvs) Q E hr I.env0 (hb s us I.kIn hl) r2 h) fun r s' hq => ?_)
  cases r with
  | error e => exact hx pins σ H s e s' I hq
  | ok fl =>
    cases fl with
    | ret u => exact I.after hq
    | next => exact False.elim hq
    | brk => exact False.elim hq
    | cont => exact False.elim hq

theorem pe_call (F : FnOk X.prog X.w X.K X.mg X.base CX k f fd ps sp) (hr : Room k X.A) (hg : Gl X x) (hm : X.mg x = some (.ref f)) (hk : PySem.W.keepIn X.K (.ref f) = true) (hb : Binds X.K fd ps ds) (hd : Vals dvs ds) (hx : Passes CX X E)
    (ha : PA X (e :: es) t) (hdb : (x == ("__debug__" : Str)) = false := by decide) (he : starEach (e :: es) X.env = (false, eval e X.env) :: starEach es X.env := by rfl) (hpl : (backTo pos (starEach es X.env)).any (·.1) = false := by rfl) :
    PE X (.Call (.Name x p) (e :: es) [] pos) (tCall sp dvs E t) := by
  intro pins s σ H Q I h
  refine wpAny_Call_Name_kw (ld_glob I hg hm ?_ hdb)
  refine PySem.W.callWith_K (h₀ := X.base) I.ok.mod.kin hk (thn (ha pos pins s σ H _ I h) fun us s1 ⟨vs, H1, I1, r, q⟩ => ⟨I1.kIn, ?_⟩) he hpl
  exact run_fn F hr hb hd hx I1 r q
end

section
variable {X : Cx} {CX : CXT} {k : Nat} {f C : Addr} {fd : FuncData} {ps ks : List Str} {sp : Sp} {E : XK} {x m : Str} {p pos apos kpos : Pos} {e o : Expr} {es : List Expr} {kws : List Keyword} {te ta : TE} {t tk : TA} {nm : Option Str}
variable {g : List Value → List Value → List Value} {gV : List V → List V → List V}
end

structure FnScope (N P : List Str) (sc : Scope) : Prop where
  kind : sc.kind = .function
  co : sc.isCoroutine = false
  gen : sc.isGenerator = false
  nd : N.Nodup
  pre : N.take P.length = P
  par : ∀ x ∈ P, sc.names.lookup x = some .local ∨ sc.names.lookup x = some .cell
  nofree : ∀ y ∈ sc.names, y.2 ≠ .free

theorem bindL_out {kindOf : Str → Option NameKind} {x : Str} : ∀ {binds : List (Str × Value)} {m : Str → Option Value}, (∀ v, (x, v) ∉ binds) → bindL kindOf binds m x = m x
  | [], _, _ => rfl
  | (n, v) :: r, m, h => by
    unfold bindL
    rw [bindL_out fun w hw => h w (List.mem_cons_of_mem _ hw)]
    split
    · have : x ≠ n := by rintro rfl; exact h v List.mem_cons_self
      simp [this]
    · rfl
theorem bindC_out {kindOf : Str → Option NameKind} {x : Str} : ∀ {binds : List (Str × Value)} {m : Str → Option Value}, (∀ v, (x, v) ∉ binds) → bindC kindOf binds m x = m x
  | [], _, _ => rfl
  | (n, v) :: r, m, h => by
    unfold bindC
    rw [bindC_out fun w hw => h w (List.mem_cons_of_mem _ hw)]
    split
    · rfl
    · have : x ≠ n := by rintro rfl; exact h v List.mem_cons_self
      simp [this]
theorem bindL_get {kindOf : Str → Option NameKind} {x : Str} {v : Value} : ∀ {P : List Str} {vs : List Value} {i : Nat} {m : Str → Option Value}, P.Nodup → P[i]? = some x → vs[i]? = some v → kindOf x = some .local →
    bindL kindOf (P.zip vs) m x = some v
  | [], _, _, _, _, h, _, _ => by simp at h
  | _ :: _, [], _, _, _, _, h, _ => by simp at h
  | p :: P, w :: vs, 0, m, nd, h1, h2, hk => by
    simp at h1 h2; subst h1; subst h2
    show bindL kindOf ((p, w) :: P.zip vs) m p = _
    unfold bindL
    rw [bindL_out fun v hv => (List.nodup_cons.mp nd).1 (List.of_mem_zip hv).1, if_pos hk]
    simp
  | p :: P, w :: vs, i + 1, m, nd, h1, h2, hk => by
    show bindL kindOf ((p, w) :: P.zip vs) m x = _
    unfold bindL
    exact bindL_get (i := i) (List.nodup_cons.mp nd).2 (by simpa using h1) (by simpa using h2) hk
theorem bindC_get {kindOf : Str → Option NameKind} {x : Str} {v : Value} : ∀ {P : List Str} {vs : List Value} {i : Nat} {m : Str → Option Value}, P.Nodup → P[i]? = some x → vs[i]? = some v → kindOf x ≠ some .local →
    bindC kindOf (P.zip vs) m x = some v
  | [], _, _, _, _, h, _, _ => by simp at h
  | _ :: _, [], _, _, _, _, h, _ => by simp at h
  | p :: P, w :: vs, 0, m, nd, h1, h2, hk => by
    simp at h1 h2; subst h1; subst h2
    show bindC kindOf ((p, w) :: P.zip vs) m p = _
    unfold bindC
    rw [bindC_out fun v hv => (List.nodup_cons.mp nd).1 (List.of_mem_zip hv).1, if_neg hk]
    simp
  | p :: P, w :: vs, i + 1, m, nd, h1, h2, hk => by
    show bindC kindOf ((p, w) :: P.zip vs) m x = _
    unfold bindC
    exact bindC_get (i := i) (List.nodup_cons.mp nd).2 (by simpa using h1) (by simpa using h2) hk

def start (N : List Str) (vs : List V) : St := vs.map some ++ List.replicate (N.length - vs.length) none

def cxOf (CX : CXT) (P : Program) (w : World) (K : PySem.W.Frag) (mg : Str → Option Value) (base : Heap) (N : List Str) (qual : Str) (scope : Scope) (f : Addr) (cd : Value) (A : Around) (outer : List Env) (s : Shared) (H : Hp) (E : XK) : Cx where
  prog := P
  w := w
  K := K
  mg := mg
  base := base
  A := A.deeper (envOfC qual scope s.heap.objs.size f cd)
  N := N
  s_0 := s
  H_0 := H
  env := envOfC qual scope s.heap.objs.size f cd
  outer := outer
  stack := envOfC qual scope s.heap.objs.size f cd :: outer
  ex := []
  calm := true
  fn := fun _ => true
  pn := []
  xe := fun e s' => wpAny (model P w) (A.deeper (envOfC qual scope s.heap.objs.size f cd)) (leaving (envOfC qual scope s.heap.objs.size f cd) e) (fun _ s'' => CX outer H s E e s'') (fun e' s'' => CX outer H s E e' s'') s'

theorem cell_has {sc : Scope} {n : Nat} {x : Str} (h : sc.names.lookup x = some .cell) : ∃ c, (cellsFrom n sc.names []).lookup x = some c := by
  have q := PySem.W.cellsFrom_some sc.names n [] (.inl h)
  exact Option.isSome_iff_exists.mp q

theorem inv_start {CX : CXT} {P : Program} {w : World} {K : PySem.W.Frag} {mg : Str → Option Value} {base : Heap} {N ps : List Str} {qual : Str} {scope : Scope} {f : Addr} {cd : Value} {A : Around} {outer : List Env} {s s1 : Shared} {H : Hp} {E : XK} {us : List Value} {vs : List V}
    (S : FnScope N ps scope) (hd : A.handled = none) (e0 : Env0 P w K mg base A outer s H) (hl : vs.length = ps.length) (r : Vals vs us)
    (x : InCallC s s.heap.objs.size (bindL (envOfC qual scope s.heap.objs.size f cd).kindOf (ps.zip us) fun _ => none) (cellsFrom (s.heap.objs.size + 1) scope.names []) (bindC (envOfC qual scope s.heap.objs.size f cd).kindOf (ps.zip us) fun _ => none) s1) :
    Inv (cxOf CX P w K mg base N qual scope f cd A outer s H E) [] (start N vs) H s1 := by
  have hpl : ps.length ≤ N.length := by have := congrArg List.length S.pre; rw [List.length_take] at this; omega
  obtain ⟨h1, tk, rfl, hk⟩ := x.done
  have noA : ∀ b : Addr, b ∉ (cxOf CX P w K mg base N qual scope f cd A outer s H E).ex := fun b z => absurd (show b ∈ ([] : List Addr) from z) (by simp)
  refine ⟨⟨e0.mod, S.kind, rfl, rfl, Nat.le_refl _, fun y z c h1 h2 => ?_, fun y hy => ?_, fun y c _ h => ?_, fun _ => hd, Around.frames_deeper e0.frames, .inr ⟨rfl, rfl⟩, fun b z => absurd z (noA b), e0.bs, e0.bsz, fun b _ _ => noA b, fun b z => absurd z (noA b), e0.funs, e0.frf⟩,
    rfl, e0.bare, Un.kept hk, ⟨_, x.toInCall.ns, fun i y v h1 h2 h3 => ?_⟩, fun y c h => ⟨_, x.cell y c h⟩, e0.hok.fresh (Nat.le_refl _), fun y c h => ?_, fun p hp => absurd (show p ∈ ([] : List (Addr × Obj)) from hp) (by simp), e0.hok.kept hk, ?_⟩
  · exact name_of_addr x.apart (PySem.mem_of_lookup h1) (PySem.mem_of_lookup h2)
  · have hy : scope.names.lookup y = some .cell ∨ scope.names.lookup y = some .free := hy
    rcases hy with hy | hy
    · exact cell_has hy
    · exact absurd rfl (S.nofree _ (PySem.mem_of_lookup hy))
  · exact Nat.le_of_lt (x.above y c (PySem.mem_of_lookup h))
  · have hi : i < vs.length := by
      unfold start at h2
      by_cases hi : i < vs.length
      · exact hi
      · rw [List.getElem?_append_right (by simpa using hi)] at h2
        rw [List.getElem?_replicate] at h2
        split at h2 <;> cases h2
    have ha : vs[i]? = some v := by
      unfold start at h2
      rw [List.getElem?_append_left (by simpa using hi), List.getElem?_map] at h2
      cases e : vs[i]? with
      | none => rw [e] at h2; cases h2
      | some a => rw [e] at h2; cases h2; rfl
    obtain ⟨u, hu, rv⟩ := r.get ha
    have hp : ps[i]? = some y := by
      rw [← S.pre, List.getElem?_take_of_lt (by omega)]; exact h1
    have ndP : ps.Nodup := by rw [← S.pre]; exact S.nd.sublist (List.take_sublist _ _)
    refine ⟨u, rv, ?_⟩
    rcases S.par y (List.mem_of_getElem? hp) with k | k
    · exact .inl ⟨k, bindL_get ndP hp hu k⟩
    · obtain ⟨c, e⟩ := cell_has (n := s.heap.objs.size + 1) k
      refine .inr ⟨.inl k, c, e, ?_⟩
      have q := x.cell y c e
      rw [bindC_get ndP hp hu (by show scope.names.lookup y ≠ _; rw [k]; decide)] at q
      exact q
  · exact e0.hok.fresh (Nat.le_of_lt (x.above y c (PySem.mem_of_lookup h)))
  · unfold start
    show _ = N.length
    rw [List.length_append, List.length_map, List.length_replicate]
    omega

theorem fn_of {CX : CXT} {P : Program} {w : World} {K : PySem.W.Frag} {mg : Str → Option Value} {base : Heap} {k : Nat} {f : Addr} {name qual : Str} {params : Arguments} {body : List Stmt} {scope : Scope} {dV kV doc pm cdv ct oc : Value} {an od : Option Addr}
    {osl : Array (Option Value)} {N ps : List Str} {sp : Sp} (lk : K.lookup f = some ⟨oc, od, .func (PySem.W.fnOf name qual params body scope dV kV doc pm an cdv ct), osl⟩) (hcd : PySem.W.codeIn K cdv qual = true) (S : FnScope N ps scope)
    (len : ∀ vs H Q E, sp vs H Q E → vs.length = ps.length)
    (hbody : ∀ (A : Around) (outer : List Env) (s : Shared) (H : Hp) (vs : List V) (Q : VK) (E : XK), Room k (A.deeper (envOfC qual scope s.heap.objs.size f cdv)) → sp vs H Q E →
      ∃ t, PSs (cxOf CX P w K mg base N qual scope f cdv A outer s H E) body t ∧ t { nx := fun _ H' => Q .non H', rt := Q } (start N vs) H) :
    FnOk P w K mg base CX (k + 1) f (PySem.W.fnOf name qual params body scope dV kV doc pm an cdv ct) ps sp := by
  refine ⟨len, fun A outer s H args us vs Q E hr e0 hb r hsp => ?_⟩
  have hl := len _ _ _ _ hsp
  have KX : K.In s.heap := e0.mod.kin.keeps fun b o e => (e0.bs b o e).1
  have lim : s.heap.NoLimit := e0.mod.nolimit.keeps fun b o e => (e0.bs b o e).1
  have hkind : ∀ y ∈ ps.zip us, scope.names.lookup y.1 = some .local ∨ (scope.names.lookup y.1 = some .cell ∧ ((cellsFrom (s.heap.objs.size + 1) scope.names []).lookup y.1).isSome = true) := fun ⟨n, v⟩ hy => by
    rcases S.par n (List.of_mem_zip hy).1 with q | q
    · exact .inl q
    · exact .inr ⟨q, PySem.W.cellsFrom_some _ _ _ (.inl q)⟩
  refine codeAny_call_function hr.depth (KX _ _ lk) rfl S.co S.gen rfl (PySem.W.codeRec_of KX hcd) (hb _ _ _ _ ?_)
  refine wpAny_newFunctionEnv_cells S.kind hkind fun env he s1 x => ?_
  subst he
  refine ⟨lim.keeps x.toInCall.keep, codeAny_func ?_⟩
  obtain ⟨t, ht, hq⟩ := hbody A outer s H vs Q E (hr.deeper _) hsp
  have I : Inv (cxOf CX P w K mg base N qual scope f cdv A outer s H E) [] (start N vs) H s1 := inv_start S hr.hd e0 hl r x
  refine wpAny_mono (ht [] s1 (start N vs) H _ I hq) (fun fl s' hs => ?_) fun e s' hs => hs
  have fin : ∀ {σ' : St} {H' : Hp} {v : V} {u : Value}, Inv (cxOf CX P w K mg base N qual scope f cdv A outer s H E) [] σ' H' s' → RelV v u → Q v H' → CE outer P w H s Q u s' :=
    fun {σ' H' v u} J rv q => ⟨v, H', J.os, J.bare, J.base, J.hok, rv, q⟩
  cases fl with
  | ret u =>
    obtain ⟨v, σ', H', J, rv, q⟩ := hs
    exact fin J rv q
  | next =>
    obtain ⟨σ', H', J, q⟩ := hs
    exact fin (v := V.non) (u := Value.none) J rfl q
  | brk =>
    obtain ⟨_, _, _, q⟩ := hs
    exact False.elim q
  | cont =>
    obtain ⟨_, _, _, q⟩ := hs
    exact False.elim q
end L2

namespace L2
open PySem PySem.Spec PyProof.Rows
section
variable {X : Cx} {x : Str} {p pos : Pos} {e : Expr} {es : List Expr} {t : TA} {id T : String} {r : List V → Hp → VK → Prop}

def tCB (r : List V → Hp → VK → Prop) (t : TA) : TE := fun σ H Q => t σ H fun vs H1 => r vs H1 Q
theorem pe_callB (hc : CallR X (.builtin id) r) (hg : Gl X x) (hm : X.mg x = none) (hv : bootBuiltins x = some (.builtin id)) (ha : PA X (e :: es) t) (hn : x ≠ "__name__" := by decide) (hdb : (x == ("__debug__" : Str)) = false := by decide)
    (he : starEach (e :: es) X.env = (false, eval e X.env) :: starEach es X.env := by rfl) (hpl : (backTo pos (starEach es X.env)).any (·.1) = false := by rfl) : PE X (.Call (.Name x p) (e :: es) [] pos) (tCB r t) := by
  intro pins s σ H Q I h
  refine wpAny_Call_Name_kw (ld_blt I hg hm hv ?_ hn hdb)
  exact PyProof.Rows.callWith_builtin1 (thn (ha pos pins s σ H _ I h) fun us s1 ⟨vs, H1, I1, r1, q1⟩ => hc pins s1 σ H1 vs us Q I1 r1 q1) he hpl
theorem pe_callTy (hc : CallR X (.type T) r) (hg : Gl X x) (hm : X.mg x = none) (hv : bootBuiltins x = some (.type T)) (ha : PA X (e :: es) t) (hn : x ≠ "__name__" := by decide) (hdb : (x == ("__debug__" : Str)) = false := by decide)
    (he : starEach (e :: es) X.env = (false, eval e X.env) :: starEach es X.env := by rfl) (hpl : (backTo pos (starEach es X.env)).any (·.1) = false := by rfl) : PE X (.Call (.Name x p) (e :: es) [] pos) (tCB r t) := by
  intro pins s σ H Q I h
  refine wpAny_Call_Name_kw (ld_blt I hg hm hv ?_ hn hdb)
  exact PyProof.Rows.callWith_type1 (thn (ha pos pins s σ H _ I h) fun us s1 ⟨vs, H1, I1, r1, q1⟩ => hc pins s1 σ H1 vs us Q I1 r1 q1) he hpl
end
end L2

namespace HT
open PySem PyProof.Rows

section
open PySem.SeqAt
open PySem.AutoSeq1 (wpAny_loadPart')
open PySem.MeetsSeq PySem.MeetsSeq2 PySem.MeetsSeq3

end

section
variable {prog : Program} {w : World} {A : Around} {E : Value → Shared → Prop} {s : Shared}

theorem cat_tup {t b : Addr} {vs ws : List Value} {Q : Value → Shared → Prop} (ht : IsTup s.heap t vs.toArray) (hb : IsTup s.heap b ws.toArray) (hv : vs ≠ [])
    (h1 : ws = [] → Q (.ref t) s) (h2 : ws ≠ [] → Q (.ref s.heap.objs.size) { s with heap := s.heap.push { cls := .type "tuple", data := .seq (vs ++ ws).toArray } })
    (hsz : vs.length + ws.length ≤ sizeLine) : wpAny (model prog w) A (binaryOp .Add (.ref t) (.ref b)) Q E s := by
  obtain ⟨⟨cls, dd, data, sl⟩, ho, hc, n, hd⟩ := id ht
  obtain ⟨⟨cls2, dd2, data2, sl2⟩, ho2, hc2, n2, hd2⟩ := id hb
  simp only at hc hd hc2 hd2
  subst hc hd hc2 hd2
  have e : vs.toArray ++ ws.toArray = (vs ++ ws).toArray := by simp
  by_cases hw : ws = []
  · exact concat_meets ⟨_, ho, rfl⟩ ⟨_, ho2, rfl⟩ noFill_tuple_add seq_tuple_add PySem.F.slot_tuple_add PySem.F.entry_tuple_add (PySem.F.args_tuple_add_2 _ _)
      (tuple_addW1 t b vs.toArray ws.toArray n n2 dd dd2 sl sl2 (by simpa using hv) (by simp [hw])) ⟨ho, ho2, h1 hw⟩
  · refine concat_meets ⟨_, ho, rfl⟩ ⟨_, ho2, rfl⟩ noFill_tuple_add seq_tuple_add PySem.F.slot_tuple_add PySem.F.entry_tuple_add (PySem.F.args_tuple_add_2 _ _)
      (tuple_addW2 t b vs.toArray ws.toArray n n2 dd dd2 sl sl2 (by simpa using hv) (by simpa using hw) (by rw [List.size_toArray, List.size_toArray]; exact hsz)) ⟨ho, ho2, ?_⟩
    rw [e]
    exact h2 hw

def sIx (n d : Nat) : Option Int → Nat
  | none => d
  | some v => if v < 0 then (v + (n : Int)).toNat else min v.toNat n
end
end HT

namespace L2
open PySem PySem.Spec PyProof.Rows

abbrev TO := St → Hp → (Option Int → Hp → Prop) → Prop
section
variable {X : Cx} {e : Expr} {te : TE} {lo hi : Option Expr} {tl th : TO} {pos p2 : Pos}

def SlR (X : Cx) (r : V → Option Int → Option Int → Hp → VK → Prop) : Prop :=
  ∀ (pins : List (Addr × Obj)) (s : Shared) (σ : St) (H : Hp) (x : V) (v vl vu : Value) (lo hi : Option Int) (sl : Addr) (Q : VK), Inv X pins σ H s → RelV x v → s.heap.IsSliceOf sl vl vu .none → IsPart vl lo → IsPart vu hi → r x lo hi H Q →
    ∃ T id, typeLookup (.type T) "__getitem__" = pure (some (.builtin id)) ∧ s.TypeIs v T ∧ wpAny (model X.prog X.w) X.A (getItem v (.ref sl)) (EP X pins σ Q) X.xe s
theorem SlR.or {r r' : V → Option Int → Option Int → Hp → VK → Prop} (h : SlR X r) (h' : SlR X r') : SlR X (fun x lo hi H Q => r x lo hi H Q ∨ r' x lo hi H Q) := by
  intro pins s σ H x v vl vu lo hi sl Q I rx hs pl pu q
  rcases q with q | q
  · exact h pins s σ H x v vl vu lo hi sl Q I rx hs pl pu q
  · exact h' pins s σ H x v vl vu lo hi sl Q I rx hs pl pu q
def rCatT (K : PySem.W.Frag) : R2 := fun x y H Q => ∃ a b xs ys, x = .ref a ∧ y = .ref b ∧ SqT K H a xs ∧ SqT K H b ys ∧ xs ≠ [] ∧ xs.length + ys.length ≤ sizeLine ∧
  (ys = [] → Q (.ref a) H) ∧ (ys ≠ [] → ∀ p, H p = none → Q (.ref p) (upd H p (.tup (xs ++ ys))))
theorem Vals.nil_iff {xs : List V} {us : List Value} (r : Vals xs us) : us = [] ↔ xs = [] := by
  cases r with
  | nil => simp
  | cons _ _ => simp
theorem op_catT : OpR X (binaryOp .Add) (rCatT X.K) := by
  intro pins s σ H x y v u Q I rx ry h
  obtain ⟨a, b, xs, ys, rfl, rfl, ha, hb, hx, hz, q1, q2⟩ := h
  cases rx
  cases ry
  obtain ⟨its, r1, p1, _⟩ := I.tuple ha
  obtain ⟨its2, r2, p2, _⟩ := I.tuple hb
  refine HT.cat_tup p1 p2 (fun z => hx (r1.nil_iff.mp z)) (fun z => ⟨.ref a, H, I, rfl, q1 (r2.nil_iff.mp z)⟩) (fun z => ?_) (by rw [← r1.length, ← r2.length]; exact hz)
  refine ⟨.ref s.heap.objs.size, _, I.laid (t' := s.toks) (o := .tup (xs ++ ys)) (fun b ob q => Heap.get?_push_of_some _ q) (Nat.le_refl _) ?_, rfl, q2 (fun w => z (r2.nil_iff.mpr w)) _ (I.hok.fresh (Nat.le_refl _))⟩
  exact ⟨by rw [List.length_append]; exact hz, _, r1.append r2, IsTup.new _ _⟩
end
end L2

namespace L2
open PySem PySem.Spec PyProof.Rows

def ixN (n : Nat) (i : Int) : Option Nat := if 0 ≤ i then (if i < n then some i.toNat else none) else if -(n : Int) ≤ i then some (i + n).toNat else none
def atI {α : Type} (xs : List α) (i : Int) : Option α := (ixN xs.length i).bind fun j => xs[j]?
theorem ixN_seq {n : Nat} {i : Int} {j : Nat} (h : ixN n i = some j) : seqIndex? i n = some j ∧ j < n ∧ -(n : Int) ≤ i ∧ i < n := by
  unfold ixN at h
  by_cases h0 : 0 ≤ i
  · rw [if_pos h0] at h
    by_cases h1 : i < n
    · rw [if_pos h1] at h
      have e : i.toNat = j := Option.some.inj h
      exact ⟨by rw [seqIndex_of h0 h1, e], by omega, by omega, h1⟩
    · rw [if_neg h1] at h; cases h
  · rw [if_neg h0] at h
    by_cases h1 : -(n : Int) ≤ i
    · rw [if_pos h1] at h
      have e : (i + n).toNat = j := Option.some.inj h
      exact ⟨by rw [seqIndex_neg (by omega) h1, e], by omega, h1, by omega⟩
    · rw [if_neg h1] at h; cases h
theorem atI_get {α : Type} {xs : List α} {i : Int} {v : α} (h : atI xs i = some v) : ∃ j, seqIndex? i xs.length = some j ∧ xs[j]? = some v ∧ j < xs.length ∧ -(xs.length : Int) ≤ i ∧ i < xs.length := by
  unfold atI at h
  cases e : ixN xs.length i with
  | none => rw [e] at h; cases h
  | some j =>
    rw [e] at h
    obtain ⟨h1, h2, h3, h4⟩ := ixN_seq e
    exact ⟨j, h1, h, h2, h3, h4⟩
theorem atI_nat {α : Type} {xs : List α} {j : Nat} {v : α} (h : xs[j]? = some v) : atI xs (j : Int) = some v := by
  have hj : j < xs.length := (List.getElem?_eq_some_iff.mp h).1
  have e : ixN xs.length (j : Int) = some j := by
    unfold ixN
    rw [if_pos (by omega), if_pos (by omega)]; simp
  unfold atI; rw [e]; exact h
def PlainIx (b : Expr) : Prop := ∀ o i, subscripted b false o i = operate [o, i] (getItem o i)
def IxR (X : Cx) (r : R2) : Prop :=
  ∀ (value slice : Expr) (pins : List (Addr × Obj)) (s : Shared) (σ : St) (H : Hp) (x y : V) (v u : Value) (Q : VK), Inv X pins σ H s → RelV x v → RelV y u → r x y H Q →
    subscripted slice false v u = operate [v, u] (getItem v u) → wpAny (model X.prog X.w) X.A (subscriptTail value slice v u) (EP X pins σ Q) X.xe s
def MtR (X : Cx) (id : String) (r : V → List V → Hp → VK → Prop) : Prop :=
  ∀ (pins : List (Addr × Obj)) (s : Shared) (σ : St) (H : Hp) (x : V) (xs : List V) (v : Value) (us : List Value) (Q : VK), Inv X pins σ H s → RelV x v → Vals xs us → r x xs H Q →
    wpAny (model X.prog X.w) X.A (call (.builtin id) (v :: us)) (EP X pins σ Q) X.xe s
section
variable {X : Cx} {a b : Expr} {ta tb : TE} {pos : Pos}
theorem IxR.or {r r' : R2} (h : IxR X r) (h' : IxR X r') : IxR X (fun x y H Q => r x y H Q ∨ r' x y H Q) := by
  intro value slice pins s σ H x y v u Q I rx ry q hs
  rcases q with q | q
  · exact h value slice pins s σ H x y v u Q I rx ry q hs
  · exact h' value slice pins s σ H x y v u Q I rx ry q hs
theorem MtR.or {id : String} {r r' : V → List V → Hp → VK → Prop} (h : MtR X id r) (h' : MtR X id r') : MtR X id (fun x xs H Q => r x xs H Q ∨ r' x xs H Q) := by
  intro pins s σ H x xs v us Q I rx rs q
  rcases q with q | q
  · exact h pins s σ H x xs v us Q I rx rs q
  · exact h' pins s σ H x xs v us Q I rx rs q
theorem pe_ix {r : R2} (hr : IxR X r) (ha : PE X a ta) (hb : PE X b tb) (hs : PlainIx b) : PE X (.Subscript a b pos) (tOp r ta tb) := by
  intro pins s σ H Q I h
  exact Subscript_ (binT ha hb I h fun v u s2 x y H2 I2 rx ry q => hr a b pins s2 σ H2 x y v u Q I2 rx ry q (hs _ _))

def rIxL (K : PySem.W.Frag) : R2 := fun x y H Q => ∃ p xs i v, x = .ref p ∧ y = .int i ∧ SqL K H p xs ∧ atI xs i = some v ∧ Q v H
def rIxT (K : PySem.W.Frag) : R2 := fun x y H Q => ∃ p xs i v, x = .ref p ∧ y = .int i ∧ SqT K H p xs ∧ atI xs i = some v ∧ Q v H
def rIxS : R2 := fun x y H Q => ∃ z i c, x = .str z ∧ y = .int i ∧ z.length ≤ sizeLine ∧ atI z.cps.toList i = some c ∧ Q (.str ⟨#[c]⟩) H
theorem ix_list : IxR X (rIxL X.K) := by
  intro value slice pins s σ H x y v u Q I rx ry h hs
  obtain ⟨p, xs, i, z, rfl, rfl, hq, he, q⟩ := h
  cases rx
  obtain ⟨t, rfl⟩ := ry
  obtain ⟨its, r, pl, hz⟩ := I.list hq
  obtain ⟨j, h1, h2, h3, h4, h5⟩ := atI_get he
  obtain ⟨w, ew, rw'⟩ := r.get h2
  have hl := r.length
  have hn := line63
  have fin : EP X pins σ Q w s := ⟨z, H, I, rw', q⟩
  by_cases h0 : 0 ≤ i
  · have hj : i.toNat = j := by
      rw [seqIndex_of h0 h5] at h1
      exact Option.some.inj h1
    exact item_listR pl.isList h0 (by omega) (by rw [hj]; simpa using ew) fin hs
  · have hj : (i + (its.toArray.size : Int)).toNat = j := by
      rw [seqIndex_neg (by omega) h4] at h1
      rw [List.size_toArray, ← hl]
      exact Option.some.inj h1
    exact subscriptTail_builtinR (x := w) pl.isList.typeIs slot_list_getitem.lookup
      (wpAny_getItem_list_neg (Q := fun r s' => r = w ∧ EP X pins σ Q r s') pl.isList (by omega) (by rw [List.size_toArray] <;> omega) (by omega) (by rw [hj]; simpa using ew) ⟨rfl, fin⟩) hs
theorem ix_tup : IxR X (rIxT X.K) := by
  intro value slice pins s σ H x y v u Q I rx ry h hs
  obtain ⟨p, xs, i, z, rfl, rfl, hq, he, q⟩ := h
  cases rx
  obtain ⟨t, rfl⟩ := ry
  obtain ⟨its, r, pl, hz⟩ := I.tuple hq
  obtain ⟨j, h1, h2, h3, h4, h5⟩ := atI_get he
  obtain ⟨w, ew, rw'⟩ := r.get h2
  have hl := r.length
  have hn := line63
  have fin : EP X pins σ Q w s := ⟨z, H, I, rw', q⟩
  exact subscriptTail_builtinR (x := w) pl.typeIs slot_tuple_getitem.lookup
    (getItem_tuple (j := j) (Q := fun r s' => r = w ∧ EP X pins σ Q r s') pl (by omega) (by omega) (by rw [List.size_toArray, ← hl]; exact h1) (by simpa using ew) ⟨rfl, fin⟩) hs
theorem ix_str : IxR X rIxS := by
  intro value slice pins s σ H x y v u Q I rx ry h hs
  obtain ⟨z, i, c, rfl, rfl, hz, he, q⟩ := h
  obtain ⟨t, rfl⟩ := rx
  obtain ⟨t', rfl⟩ := ry
  obtain ⟨j, h1, h2, h3, h4, h5⟩ := atI_get he
  have hl : z.cps.toList.length = z.length := by simp [Str.length]
  rw [hl] at h1 h4 h5
  have hn := line63
  exact tail_any (typeIs_str s z t) slot_str_getitem.lookup (getItem_str (c := c) (by
    have e1 : decide (i < -(2 ^ 63 : Int)) = false := decide_eq_false (by omega)
    have e2 : decide (i ≥ 2 ^ 63) = false := decide_eq_false (by omega)
    rw [e1, e2, Bool.or_false]) (by rw [h1]; simpa using h2) ⟨.str ⟨#[c]⟩, H, I.tok _, ⟨_, rfl⟩, q⟩) hs
def rIx (K : PySem.W.Frag) : R2 := fun x y H Q => rIxL K x y H Q ∨ rIxT K x y H Q ∨ rIxS x y H Q
theorem ix_seq : IxR X (rIx X.K) := ix_list.or (ix_tup.or ix_str)

theorem mapSeq_set (its : List Value) (n j : Nat) (u : Value) : Obj.mapSeq (·.setIfInBounds j u) { cls := .type "list", data := .seq its.toArray n } = { cls := .type "list", data := .seq (its.set j u).toArray n } := by
  simp [Obj.mapSeq]
theorem Inv.lst {pins : List (Addr × Obj)} {σ : St} {H : Hp} {s : Shared} {p : Addr} {xs : List V} (I : Inv X pins σ H s) (h : H p = some (.lst xs)) :
    ∃ (its : List Value) (n : Nat), Vals xs its ∧ s.heap.get? p = some { cls := .type "list", data := .seq its.toArray n } ∧ xs.length ≤ sizeLine := by
  obtain ⟨z, its, n, r, e⟩ := I.hok p _ h
  exact ⟨its, n, r, e, z⟩
theorem Inv.lstUpd {pins : List (Addr × Obj)} {σ : St} {H : Hp} {s : Shared} {p : Addr} {xs ys : List V} {its its' : List Value} {n n' : Nat} {f : Obj → Obj} (I : Inv X pins σ H s) (h : H p = some (.lst xs))
    (ho : s.heap.get? p = some { cls := .type "list", data := .seq its.toArray n }) (hf : f { cls := .type "list", data := .seq its.toArray n } = { cls := .type "list", data := .seq its'.toArray n' }) (r : Vals ys its') (hz : ys.length ≤ sizeLine) (t : Nat) :
    Inv X pins σ (upd H p (.lst ys)) { s with heap := s.heap.update p f, toks := t } := by
  have e : (s.heap.update p f).get? p = some { cls := .type "list", data := .seq its'.toArray n' } := by
    rw [Heap.get?_update_self f ho (by rw [hf] <;> rfl), hf]
  refine I.write (x := p) (e := p) (by rw [h]; trivial) (.inl rfl) (fun b u hb q => (Heap.get?_update_other _ _ (Ne.symm hb)).trans q) ⟨_, e⟩ ?_
  exact ⟨hz, its', n', r, e⟩
def rSetL : V → V → V → Hp → (Hp → Prop) → Prop := fun o i v H Q => ∃ p xs k j, o = .ref p ∧ i = .int k ∧ H p = some (.lst xs) ∧ ixN xs.length k = some j ∧ Q (upd H p (.lst (xs.set j v)))
theorem set_list : PSet X rSetL := by
  intro pins s σ H o i v ov iv u Q I ro ri rv h
  obtain ⟨p, xs, k, j, rfl, rfl, hp, hj, q⟩ := h
  cases ro
  obtain ⟨t, rfl⟩ := ri
  obtain ⟨its, n, r, ho, hz⟩ := I.lst hp
  obtain ⟨h1, h2, h3, h4⟩ := ixN_seq hj
  have hl := r.length
  have hn := line63
  have I' : Inv X pins σ (upd H p (.lst (xs.set j v))) { s with heap := s.heap.update p (Obj.mapSeq (·.setIfInBounds j u)) } :=
    I.lstUpd hp ho (mapSeq_set its n j u) (r.set rv j) (by rw [List.length_set]; exact hz) s.toks
  by_cases h0 : 0 ≤ k
  · have hk : k.toNat = j := by
      rw [seqIndex_of h0 h4] at h1
      exact Option.some.inj h1
    exact PySem.W.ki_setAt ho h0 (by omega) (by rw [List.size_toArray, ← hl]; exact h4) (by rw [hk]; exact ⟨_, I', q⟩)
  · have hk : (k + (its.toArray.size : Int)).toNat = j := by
      rw [seqIndex_neg (by omega) h3] at h1
      rw [List.size_toArray, ← hl]
      exact Option.some.inj h1
    exact PySem.W.ki_setBack ho (by omega) (by rw [List.size_toArray, ← hl]; exact h3) (by omega) (by rw [hk]; exact ⟨_, I', q⟩)

def flatV : V → Bool
  | .non => true
  | .bl _ => true
  | .int _ => true
  | .str _ => true
  | _ => false
def eqV : V → V → Bool
  | .non, .non => true
  | .bl a, .bl b => a == b
  | .bl a, .int b => (if a then 1 else 0) == b
  | .int a, .bl b => a == (if b then 1 else 0)
  | .int a, .int b => a == b
  | .str a, .str b => a == b
  | _, _ => false
theorem eqAt_V {A : Around} {s : Shared} {y x : V} {u v : Value} (ry : RelV y u) (rx : RelV x v) (fy : flatV y = true) (fx : flatV x = true) : SeqAt.EqAt A s u v (eqV y x) := by
  cases y with
  | non =>
    cases ry
    cases x with
    | non => cases rx; exact SeqAt.EqAt.same _
    | bl b => cases rx; exact SeqAt.EqAt.none_bool b
    | int b => obtain ⟨t, rfl⟩ := rx; exact SeqAt.EqAt.none_int b t
    | str b => obtain ⟨t, rfl⟩ := rx; exact SeqAt.EqAt.none_str b t
    | _ => exact absurd (show false = true from fx) Bool.false_ne_true
  | bl a =>
    cases ry
    cases x with
    | non => cases rx; exact SeqAt.EqAt.bool_none a
    | bl b => cases rx; exact SeqAt.EqAt.bool_bool a b
    | int b => obtain ⟨t, rfl⟩ := rx; exact SeqAt.EqAt.bool_int a b t
    | str b => obtain ⟨t, rfl⟩ := rx; exact SeqAt.EqAt.bool_str a b t
    | _ => exact absurd (show false = true from fx) Bool.false_ne_true
  | int a =>
    obtain ⟨t', rfl⟩ := ry
    cases x with
    | non => cases rx; exact SeqAt.EqAt.int_none a t'
    | bl b => cases rx; exact SeqAt.EqAt.int_bool a t' b
    | int b => obtain ⟨t, rfl⟩ := rx; exact SeqAt.EqAt.int_int a t' b t
    | str b => obtain ⟨t, rfl⟩ := rx; exact SeqAt.EqAt.int_str a t' b t
    | _ => exact absurd (show false = true from fx) Bool.false_ne_true
  | str a =>
    obtain ⟨t', rfl⟩ := ry
    cases x with
    | non => cases rx; exact SeqAt.EqAt.str_none a t'
    | bl b => cases rx; exact SeqAt.EqAt.str_bool a t' b
    | int b => obtain ⟨t, rfl⟩ := rx; exact SeqAt.EqAt.str_int a t' b t
    | str b => obtain ⟨t, rfl⟩ := rx; exact SeqAt.EqAt.str_str a t' b t
    | _ => exact absurd (show false = true from fx) Bool.false_ne_true
  | _ => exact absurd (show false = true from fy) Bool.false_ne_true
def eqU (x : V) (u : Value) : Bool := match u with
  | .none => eqV .non x
  | .bool b => eqV (.bl b) x
  | .int i _ => eqV (.int i) x
  | .str z _ => eqV (.str z) x
  | _ => false
theorem eqU_of {x y : V} {u : Value} (r : RelV y u) (f : flatV y = true) : eqU x u = eqV y x := by
  cases y with
  | non => cases r; rfl
  | bl b => cases r; rfl
  | int i => obtain ⟨t, rfl⟩ := r; rfl
  | str z => obtain ⟨t, rfl⟩ := r; rfl
  | _ => exact absurd (show false = true from f) Bool.false_ne_true
theorem mem_eqAt {A : Around} {s : Shared} {x : V} {v : Value} (rx : RelV x v) (fx : flatV x = true) : ∀ {xs : List V} {us : List Value}, Vals xs us → xs.all flatV = true → ∀ u ∈ us, SeqAt.EqAt A s u v (eqU x u)
  | _, _, .nil, _ => fun u hu => by cases hu
  | y :: xs, u :: us, .cons r t, f => fun u' hu => by
    rw [List.all_cons, Bool.and_eq_true] at f
    rcases List.mem_cons.mp hu with rfl | hu
    · rw [eqU_of r f.1]; exact eqAt_V r rx f.1 fx
    · exact mem_eqAt rx fx t f.2 u' hu
theorem call_len_seq : CallR X (.builtin "len") (fun xs H Q => ∃ p ys, xs = [.ref p] ∧ (SqL X.K H p ys ∨ SqT X.K H p ys) ∧ Q (.int ys.length) H) := by
  intro pins s σ H xs us Q I r h
  obtain ⟨p, ys, rfl, hq, q⟩ := h
  obtain ⟨u, rfl, rx⟩ := vals1 r
  cases rx
  have hn := line63
  rcases hq with hq | hq
  · obtain ⟨its, r', pl, hz⟩ := I.list hq
    have hlen := r'.length
    exact Calls.call_len_list pl.isList (by simp only [List.size_toArray] <;> omega) ⟨.int ys.length, H, I.tok _, ⟨s.toks + 1, by rw [List.size_toArray, hlen]⟩, q⟩
  · obtain ⟨its, r', pl, hz⟩ := I.tuple hq
    have hlen := r'.length
    exact len_tuple pl (by simp only [List.size_toArray] <;> omega) ⟨.int ys.length, H, I.tok _, ⟨s.toks + 1, by rw [List.size_toArray, hlen]⟩, q⟩
theorem call_len_str : CallR X (.builtin "len") (fun xs H Q => ∃ z, xs = [.str z] ∧ z.length ≤ sizeLine ∧ Q (.int z.length) H) := by
  intro pins s σ H xs us Q I r h
  obtain ⟨z, rfl, hz, q⟩ := h
  obtain ⟨u, rfl, t, rfl⟩ := vals1 r
  have hn := line63
  exact len_str (by omega) ⟨.int z.length, H, I.tok _, ⟨_, rfl⟩, q⟩
theorem CallR.or {f : Value} {r r' : List V → Hp → VK → Prop} (h : CallR X f r) (h' : CallR X f r') : CallR X f (fun xs H Q => r xs H Q ∨ r' xs H Q) := by
  intro pins s σ H xs us Q I rs q
  rcases q with q | q
  · exact h pins s σ H xs us Q I rs q
  · exact h' pins s σ H xs us Q I rs q
theorem call_tuple_of : CallR X (.type "tuple") (fun xs H Q => ∃ p ys, xs = [.ref p] ∧ ((SqL X.K H p ys ∧ ∀ l, H l = none → Q (.ref l) (upd H l (.tup ys))) ∨ (SqT X.K H p ys ∧ Q (.ref p) H))) := by
  intro pins s σ H xs us Q I r h
  obtain ⟨p, ys, rfl, h⟩ := h
  obtain ⟨u, rfl, rx⟩ := vals1 r
  cases rx
  rcases h with ⟨hq, q⟩ | ⟨hq, q⟩
  · obtain ⟨its, r', pl, hz⟩ := I.list hq
    have hlen := r'.length
    refine call_tuple_list pl.isList (fun h' kp => ?_) (by simp only [List.size_toArray] <;> omega)
    have I1 : Inv X pins σ H { s with heap := h' } := I.kept (t' := s.toks) kp
    have I2 : Inv X pins σ (upd H h'.objs.size (.tup ys)) { s with heap := h'.push { cls := .type "tuple", data := .seq its.toArray } } :=
      I1.laid (t' := s.toks) (fun b o e => Heap.get?_push_of_some _ e) (Nat.le_refl _) (show ObjOk X.prog X.w _ _ _ (.tup ys) from ⟨hz, its, r', IsTup.new _ _⟩)
    exact ⟨.ref h'.objs.size, _, I2, rfl, q _ (I1.hok.fresh (Nat.le_refl _))⟩
  · obtain ⟨its, r', pl, hz⟩ := I.tuple hq
    exact call_tuple_same pl ⟨.ref p, H, I, rfl, q⟩

def tyV (K : PySem.W.Frag) (T : String) (x : V) (H : Hp) : Prop := match x with
  | .str _ => T = "str"
  | .int _ => T = "int"
  | .ref p => (T = "list" ∧ ∃ xs, SqL K H p xs) ∨ (T = "tuple" ∧ ∃ o, K.lookup p = some o ∧ o.cls = .type "tuple" ∧ o.dict = none) ∨
      (T = "dict" ∧ ((∃ kvs, H p = some (.dK kvs)) ∨ ∃ kvs, H p = some (.dT kvs))) ∨ (T = "set" ∧ ∃ S n, H p = some (.set S n))
  | _ => False
theorem tyV_is {pins : List (Addr × Obj)} {σ : St} {H : Hp} {s : Shared} {T : String} {x : V} {v : Value} (I : Inv X pins σ H s) (r : RelV x v) (ty : tyV X.K T x H) :
    s.TypeIs v T ∧ ∀ a, v = .ref a → ∃ ob, s.heap.get? a = some ob ∧ ob.dict = none := by
  cases x with
  | str z =>
    obtain ⟨t, rfl⟩ := r
    cases (show T = "str" from ty)
    exact ⟨typeIs_str s z t, fun _ e => nomatch e⟩
  | int i =>
    obtain ⟨t, rfl⟩ := r
    cases (show T = "int" from ty)
    exact ⟨typeIs_int s i t, fun _ e => nomatch e⟩
  | ref p =>
    cases r
    rcases ty with ⟨rfl, xs, hq⟩ | ⟨rfl, o, hk, hc, hd⟩ | ⟨rfl, hk⟩ | ⟨rfl, S, n, hk⟩
    · obtain ⟨its, _, pl, _⟩ := I.list hq
      refine ⟨pl.isList.typeIs, fun a e => ?_⟩
      cases e
      obtain ⟨o, n, e, c, hd, _⟩ := pl
      exact ⟨o, e, hd⟩
    · refine ⟨⟨o, I.kIn p o hk, hc⟩, fun a e => ?_⟩
      cases e
      exact ⟨o, I.kIn _ o hk, hd⟩
    · have z : ∃ o, s.heap.get? p = some o ∧ o.ExactDict := by
        rcases hk with ⟨kvs, hk⟩ | ⟨kvs, hk⟩
        · obtain ⟨_, _, _, _, o, _, _, e, ex, _⟩ := I.hok p _ hk
          exact ⟨o, e, ex⟩
        · obtain ⟨_, _, _, _, o, _, _, e, ex, _⟩ := I.hok p _ hk
          exact ⟨o, e, ex⟩
      obtain ⟨o, e, ex⟩ := z
      refine ⟨⟨o, e, ex.1⟩, fun a e2 => ?_⟩
      cases e2
      exact ⟨o, e, ex.2.1⟩
    · obtain ⟨o, _, _, _, e, ex, _⟩ := I.hok p _ hk
      refine ⟨⟨o, e, ex.1⟩, fun a e2 => ?_⟩
      cases e2
      exact ⟨o, e, ex.2.1⟩
  | _ => exact False.elim ty
def tBM0 (K : PySem.W.Frag) (T : String) (r : V → List V → Hp → VK → Prop) (to : TE) : TE := fun σ H Q => to σ H fun x H1 => tyV K T x H1 ∧ r x [] H1 Q
def tBM (K : PySem.W.Frag) (T : String) (r : V → List V → Hp → VK → Prop) (to : TE) (t : TA) : TE := fun σ H Q => to σ H fun x H1 => tyV K T x H1 ∧ t σ H1 fun xs H2 => r x xs H2 Q
variable {o e : Expr} {es : List Expr} {to : TE} {t : TA} {name : Str} {apos cpos : Pos} {T id : String} {r : V → List V → Hp → VK → Prop}
theorem pe_bm0 (pa : PlainAttrs T) (slot : Slot T name id) (hty : typeOf (.builtin id) = pure (.type "method_descriptor")) (hm : MtR X id r) (ho : PE X o to)
    (hbase : attributeBase o name X.env (eval o X.env) = eval o X.env := by rfl) (hline : (apos.endLine == cpos.line) = true := by rfl) : PE X (.Call (.Attribute o name apos) [] [] cpos) (tBM0 X.K T r to) := by
  intro pins s σ H Q I h
  refine wpAny_Call_method0_late hbase hline (thn (ho pins s σ H _ I h) fun v s1 ⟨x, H1, I1, r1, ty, q1⟩ => ?_)
  obtain ⟨h1, h2⟩ := tyV_is I1 r1 ty
  exact ⟨T, id, pa, slot, hty, h1, h2, Calls.callWith_builtin rfl (PySem.evalArgs_none (hm pins s1 σ H1 x [] v [] Q I1 r1 .nil q1))⟩
theorem pe_bm (pa : PlainAttrs T) (slot : Slot T name id) (hty : typeOf (.builtin id) = pure (.type "method_descriptor")) (hm : MtR X id r) (ho : PE X o to) (ha : PA X (e :: es) t)
    (hbase : attributeBase o name X.env (eval o X.env) = eval o X.env := by rfl)
    (hfew : ((backTo cpos (starEach (e :: es) X.env)).all (fun x => !x.1) && (backToKw cpos (keywordEach [] X.env)).all (fun x => x.1.isSome)
      && decide ((e :: es).length + ([] : List Keyword).length + (if ([] : List Keyword).isEmpty then 0 else 1) < 30)) = true := by rfl)
    (hline : (apos.endLine == cpos.line) = true := by rfl) (hs : starEach (e :: es) X.env = (false, eval e X.env) :: starEach es X.env := by rfl) (hplain : (backTo cpos (starEach es X.env)).any (·.1) = false := by rfl) :
    PE X (.Call (.Attribute o name apos) (e :: es) [] cpos) (tBM X.K T r to t) := by
  intro pins s σ H Q I h
  refine wpAny_Call_method_late hbase hfew hline rfl (thn (ho pins s σ H _ I h) fun v s1 ⟨x, H1, I1, r1, ty, q1⟩ => ?_)
  obtain ⟨h1, h2⟩ := tyV_is I1 r1 ty
  refine ⟨T, id, pa, slot, hty, h1, h2, ?_⟩
  have hA := ha cpos pins s1 σ H1 _ I1 q1
  rw [hs] at hA ⊢
  refine Calls.callWith_builtin (by show (false || (backTo cpos (starEach es X.env)).any (·.1)) = false; rw [hplain] <;> rfl) (Calls.evalArgs_plain ?_)
  exact thn hA fun us s2 ⟨vs, H2, I2, r2, q2⟩ => hm pins s2 σ H2 x vs v us Q I2 r1 r2 q2
end
end L2

namespace L2
open PySem PySem.Spec PyProof.Rows

def MtM (X : Cx) (id : String) (r : V → List V → Hp → VK → Prop) : Prop :=
  ∀ (pins : List (Addr × Obj)) (s : Shared) (σ : St) (H : Hp) (x : V) (xs : List V) (v : Value) (us : List Value) (Q : VK), Inv X pins σ H s → RelV x v → Vals xs us → r x xs H Q →
    wpAny (model X.prog X.w) X.A (call (.builtin id) (v :: us)) (EP X pins σ Q) X.xe s

theorem Vals.one : ∀ {x : V} {us : List Value}, Vals [x] us → ∃ u, us = [u] ∧ RelV x u
  | _, _, .cons r .nil => ⟨_, rfl, r⟩
theorem Vals.two : ∀ {x y : V} {us : List Value}, Vals [x, y] us → ∃ u v, us = [u, v] ∧ RelV x u ∧ RelV y v
  | _, _, _, .cons r (.cons q .nil) => ⟨_, _, rfl, r, q⟩
theorem Vals.zero : ∀ {us : List Value}, Vals [] us → us = []
  | _, .nil => rfl
theorem Vals.dropLast {xs : List V} {us : List Value} (h : Vals xs us) : Vals xs.dropLast us.dropLast := by
  induction h with
  | nil => exact .nil
  | cons r t ih =>
    cases t with
    | nil => exact .nil
    | cons q t' => exact .cons r ih
theorem Vals.eraseIdx : ∀ {xs : List V} {us : List Value} (i : Nat), Vals xs us → Vals (xs.eraseIdx i) (us.eraseIdx i)
  | _, _, _, .nil => .nil
  | _, _, 0, .cons _ t => t
  | _, _, i + 1, .cons r t => .cons r (Vals.eraseIdx i t)
theorem Vals.reverse {xs : List V} {us : List Value} (h : Vals xs us) : Vals xs.reverse us.reverse := by
  induction h with
  | nil => exact .nil
  | cons r t ih => rw [List.reverse_cons, List.reverse_cons]; exact Vals.append ih (.cons r .nil)
theorem Vals.rep {xs : List V} {us : List Value} (h : Vals xs us) : ∀ k : Nat, Vals (List.replicate k xs).flatten (List.replicate k us).flatten
  | 0 => .nil
  | k + 1 => by
    rw [List.replicate_succ, List.replicate_succ, List.flatten_cons, List.flatten_cons]
    exact Vals.append h (Vals.rep h k)
theorem erase_last {α : Type} (l : List α) : l.eraseIdx (l.length - 1) = l.dropLast := by
  induction l with
  | nil => rfl
  | cons a r ih =>
    cases r with
    | nil => rfl
    | cons b r =>
      have e : (a :: b :: r).length - 1 = ((b :: r).length - 1) + 1 := by
        have h1 : (a :: b :: r).length = r.length + 2 := rfl
        have h2 : (b :: r).length = r.length + 1 := rfl
        omega
      rw [e, List.eraseIdx_cons_succ, ih]
      all_goals rfl
theorem len_erase {α : Type} : ∀ (l : List α) (i : Nat), (l.eraseIdx i).length ≤ l.length
  | [], _ => Nat.le_refl _
  | _ :: _, 0 => Nat.le_succ _
  | _ :: r, i + 1 => Nat.succ_le_succ (len_erase r i)
theorem foldl_rep (its : List Value) : ∀ (k : Nat) (acc : List Value),
    List.foldl (fun x1 x2 => x1 ++ x2) acc.toArray (List.replicate k its.toArray) = (acc ++ (List.replicate k its).flatten).toArray
  | 0, acc => by simp
  | k + 1, acc => by
    have e : acc.toArray ++ its.toArray = (acc ++ its).toArray := by simp
    have e2 : (acc ++ its) ++ (List.replicate k its).flatten = acc ++ (List.replicate (k + 1) its).flatten := by
      rw [List.replicate_succ, List.flatten_cons, List.append_assoc]
    rw [← e2, ← foldl_rep its k (acc ++ its), ← e, List.replicate_succ, List.foldl_cons]

section
variable {X : Cx} {pins : List (Addr × Obj)} {σ : St} {H : Hp} {s : Shared} {l b : Addr} {xs ys zs : List V}

theorem Inv.lset {its its' : List Value} {n : Nat} {f : Array Value → Array Value} {t' : Nat} (I : Inv X pins σ H s) (hH : H l = some (.lst xs))
    (e : s.heap.get? l = some { cls := .type "list", data := .seq its.toArray n }) (hf : f its.toArray = its'.toArray) (hv : Vals ys its') (hz : ys.length ≤ sizeLine) :
    Inv X pins σ (upd H l (.lst ys)) { s with heap := s.heap.update l (Obj.mapSeq f), toks := t' } := by
  have q := PySem.IsL.update e f
  rw [hf] at q
  refine I.write (x := l) (e := l) (by rw [hH]; exact trivial) (.inl rfl) (fun b' u hb hu => (Heap.get?_update_other s.heap (Obj.mapSeq f) (Ne.symm hb)).trans hu) ⟨_, q⟩ ?_
  exact ⟨hz, its', _, hv, q⟩
theorem Inv.lnew {its : List Value} {t' : Nat} (I : Inv X pins σ H s) (hv : Vals ys its) (hz : ys.length ≤ sizeLine) :
    Inv X pins σ (upd H s.heap.objs.size (.lst ys)) { s with heap := s.heap.push { cls := .type "list", data := .seq its.toArray }, toks := t' } :=
  I.laid (fun _ _ q => Heap.get?_push_of_some _ q) (Nat.le_refl _) ⟨hz, its, 0, hv, Heap.get?_push_size _ rfl⟩
theorem Inv.fresh (I : Inv X pins σ H s) : H s.heap.objs.size = none := I.hok.fresh (Nat.le_refl _)
theorem Inv.lstM (I : Inv X pins σ H s) (hH : H l = some (.lst xs)) : xs.length ≤ sizeLine ∧ ∃ (its : List Value) (n : Nat), Vals xs its ∧ xs.length = its.length ∧ s.heap.get? l = some { cls := .type "list", data := .seq its.toArray n } := by
  obtain ⟨z, its, n, r, e⟩ := I.hok l _ hH
  exact ⟨z, its, n, r, r.length, e⟩

theorem notLongL {n : Nat} (h : n ≤ sizeLine) : Builtin.List.listTooLong n = false := by
  unfold Builtin.List.listTooLong
  exact decide_eq_false (by omega)
end

section
variable {X : Cx}

def rAppend : V → List V → Hp → VK → Prop := fun x vs H Q => ∃ l xs y, x = .ref l ∧ vs = [y] ∧ H l = some (.lst xs) ∧ xs.length < sizeLine ∧ Q .non (upd H l (.lst (xs ++ [y])))
theorem mt_append : MtM X "list.append" rAppend := by
  intro pins s σ H x vs v us Q I rx rv h
  obtain ⟨l, xs, y, rfl, rfl, hH, hz, q⟩ := h
  cases rx
  obtain ⟨u, rfl, ru⟩ := rv.one
  obtain ⟨z, its, n, r, hl, e⟩ := I.lstM hH
  refine call_meets F.slot_list_append ⟨_, e, rfl⟩ F.entry_list_append (F.args_list_append_2 _ _) (PySem.list_append l its.toArray n u (by rw [List.size_toArray]; omega)) ⟨e, ?_⟩
  refine ⟨.non, _, I.lset (its' := its ++ [u]) hH e (by simp) (r.append (.cons ru .nil)) ?_, rfl, q⟩
  rw [List.length_append, List.length_singleton]
  omega

def rPop : V → List V → Hp → VK → Prop := fun x vs H Q => ∃ l xs y, x = .ref l ∧ vs = [] ∧ H l = some (.lst xs) ∧ xs[xs.length - 1]? = some y ∧ Q y (upd H l (.lst xs.dropLast))
theorem mt_pop : MtM X "list.pop" rPop := by
  intro pins s σ H x vs v us Q I rx rv h
  obtain ⟨l, xs, y, rfl, rfl, hH, hy, q⟩ := h
  cases rx
  have hus := rv.zero
  subst hus
  obtain ⟨z, its, n, r, hl, e⟩ := I.lstM hH
  obtain ⟨u, hu, ru⟩ := r.get hy
  have hy' : its.toArray[its.toArray.size - 1]? = some u := by
    show its.toArray[its.length - 1]? = some u
    rw [← Array.getElem?_toList, ← hl]
    exact hu
  refine call_meets F.slot_list_pop ⟨_, e, rfl⟩ F.entry_list_pop (F.args_list_pop_1 _) (MeetsSeq.list_pop_last l its.toArray n u hy' (by rw [List.size_toArray]; omega)) ⟨e, ?_⟩
  refine ⟨y, _, I.lset (its' := its.dropLast) hH e ?_ r.dropLast ?_, ru, q⟩
  · show its.toArray.eraseIdxIfInBounds (its.toArray.size - 1) = its.dropLast.toArray
    rw [List.size_toArray, List.eraseIdxIfInBounds_toArray, erase_last]
  · rw [List.length_dropLast]
    omega

def rPopAt : V → List V → Hp → VK → Prop := fun x vs H Q => ∃ l xs i k y, x = .ref l ∧ vs = [.int i] ∧ H l = some (.lst xs) ∧ -(2 ^ 63) ≤ i ∧ i < 2 ^ 63 ∧ seqIndex? i xs.length = some k ∧ xs[k]? = some y ∧ Q y (upd H l (.lst (xs.eraseIdx k)))
theorem mt_popAt : MtM X "list.pop" rPopAt := by
  intro pins s σ H x vs v us Q I rx rv h
  obtain ⟨l, xs, i, k, y, rfl, rfl, hH, h1, h2, hk, hy, q⟩ := h
  cases rx
  obtain ⟨u, rfl, ru⟩ := rv.one
  obtain ⟨t, rfl⟩ := ru
  obtain ⟨z, its, n, r, hl, e⟩ := I.lstM hH
  obtain ⟨w, hw, rw'⟩ := r.get hy
  refine call_meets F.slot_list_pop ⟨_, e, rfl⟩ F.entry_list_pop (F.args_list_pop_2 _ _)
    (MeetsSeq.list_pop_at l its.toArray n i t k w (fitsIndex_both h1 h2) (by rw [List.size_toArray, ← hl]; exact hk) (by rw [← Array.getElem?_toList]; exact hw) (by rw [List.size_toArray]; omega)) ⟨e, ?_⟩
  refine ⟨y, _, I.lset (its' := its.eraseIdx k) hH e ?_ (r.eraseIdx k) ?_, rw', q⟩
  · show its.toArray.eraseIdxIfInBounds k = (its.eraseIdx k).toArray
    rw [List.eraseIdxIfInBounds_toArray]
  · have := len_erase xs k
    omega

def rCat : R2 := fun x y H Q => ∃ l b xs zs, x = .ref l ∧ y = .ref b ∧ H l = some (.lst xs) ∧ H b = some (.lst zs) ∧ xs.length + zs.length ≤ sizeLine ∧ ∀ p, H p = none → Q (.ref p) (upd H p (.lst (xs ++ zs)))
theorem op_cat : OpR X (binaryOp .Add) rCat := by
  intro pins s σ H x y v u Q I rx ry h
  obtain ⟨l, b, xs, zs, rfl, rfl, hH, hB, hz, q⟩ := h
  cases rx
  cases ry
  obtain ⟨z, its, n, r, hl, e⟩ := I.lstM hH
  obtain ⟨z2, its2, n2, r2, hl2, e2⟩ := I.lstM hB
  refine PySem.P.add_list e e2 ?_ (by rw [List.size_toArray, List.size_toArray]; omega)
  have ea : its.toArray ++ its2.toArray = (its ++ its2).toArray := by simp
  rw [ea]
  exact ⟨.ref _, _, I.lnew (t' := s.toks) (r.append r2) (by rw [List.length_append]; omega), rfl, q _ I.fresh⟩
def rRep : R2 := fun x y H Q => ∃ l k xs, x = .ref l ∧ y = .int k ∧ H l = some (.lst xs) ∧ -(2 ^ 63) ≤ k ∧ k < 2 ^ 63 ∧ xs.length * k.toNat ≤ sizeLine ∧
  ∀ p, H p = none → Q (.ref p) (upd H p (.lst (List.replicate k.toNat xs).flatten))
theorem len_rep {α : Type} (xs : List α) (k : Nat) : (List.replicate k xs).flatten.length = k * xs.length := by
  induction k with
  | zero => simp
  | succ k ih => rw [List.replicate_succ, List.flatten_cons, List.length_append, ih, Nat.succ_mul, Nat.add_comm]
theorem op_rep : OpR X (binaryOp .Mult) rRep := by
  intro pins s σ H x y v u Q I rx ry h
  obtain ⟨l, k, xs, rfl, rfl, hH, h1, h2, hz, q⟩ := h
  cases rx
  obtain ⟨t, rfl⟩ := ry
  obtain ⟨z, its, n, r, hl, e⟩ := I.lstM hH
  have hlen : its.toArray.size * k.toNat ≤ sizeLine := by rw [List.size_toArray, ← hl]; exact hz
  have hcap : ¬ its.toArray.size * k.toNat > (2 ^ 63 - 1) / 8 := by
    have : (sizeLine : Nat) ≤ (2 ^ 63 - 1) / 8 := by decide
    omega
  have hfit : ¬ (!Builtin.List.listFitsIndex k) = true := by
    rw [fitsIndex_both h1 h2]
    exact Bool.false_ne_true
  have hlong : ¬ Builtin.List.listTooLong (its.toArray.size * k.toNat) = true := by
    rw [notLongL hlen]
    exact Bool.false_ne_true
  have hnew : List.foldl (fun x1 x2 => x1 ++ x2) #[] (List.replicate (if its.toArray.isEmpty = true then 0 else k.toNat) its.toArray) = (List.replicate k.toNat its).flatten.toArray := by
    have f0 : ∀ m : Nat, List.foldl (fun x1 x2 => x1 ++ x2) #[] (List.replicate m its.toArray) = (List.replicate m its).flatten.toArray := fun m => by
      have := foldl_rep its m []
      rw [List.nil_append] at this
      exact this
    rw [f0]
    cases its with
    | nil => simp
    | cons a r' => rw [if_neg (by simp)]
  refine wpAny_binaryOp_repeat_ref (T := "list") (U := "int") (by decide) ⟨_, e, rfl⟩ (fun s' => typeIs_int s' k t) noFill_list_mul F.fills_int_mul F.slot_int_rmul repeat_list F.slot_int_index.lookup
    (call_meets F.slot_int_rmul (typeIs_int s k t) F.entry_int_rmul (F.args_int_rmul_2 _ _) (int___rmul___int_list k t l its.toArray n)
      ⟨e, rfl, ⟨_, e, rfl⟩, call_meets F.slot_list_mul ⟨_, e, rfl⟩ F.entry_list_mul (F.args_list_mul_2 _ _) (AutoListH.list___mul___list_int_3 l its.toArray n k t hfit hcap hlong) ⟨e, ?_⟩⟩)
  rw [hnew]
  exact ⟨.ref _, _, I.lnew (t' := s.toks) (r.rep k.toNat) (by rw [len_rep, Nat.mul_comm]; exact hz), rfl, q _ I.fresh⟩

end

section
variable {prog : Program} {w : World} {A : Around} {E : Value → Shared → Prop} {s : Shared}
end

section
variable {X : Cx}
end
end L2

namespace L2
open PySem PySem.Spec PyProof.Rows

theorem Vals.ints : ∀ {ns : List Int} {us : List Value}, Vals (ns.map V.int) us → IntsAre us ns
  | [], us, h => by
    rw [List.map_nil] at h
    cases h
    exact IntsAre.nil
  | n :: ns, us, h => by
    rw [List.map_cons] at h
    cases h with
    | cons r t =>
      obtain ⟨k, rfl⟩ := r
      exact IntsAre.cons n k (Vals.ints t)
theorem Vals.strs : ∀ {xs : List Str} {us : List Value}, Vals (xs.map V.str) us → StrsAre us xs
  | [], us, h => by
    rw [List.map_nil] at h
    cases h
    exact StrsAre.nil
  | x :: xs, us, h => by
    rw [List.map_cons] at h
    cases h with
    | cons r t =>
      obtain ⟨k, rfl⟩ := r
      exact StrsAre.cons x k (Vals.strs t)
section
variable {prog : Program} {w : World} {A : Around} {E : Value → Shared → Prop} {s : Shared} {l : Addr} {its : List Value} {ns : List Int} {Q : Value → Shared → Prop}
end

section
variable {X : Cx}
end

section
variable {X : Cx}
end

section
variable {X : Cx}
end

section
variable {X : Cx}
end

mutual
inductive Dp (K : PySem.W.Frag) (H : Hp) : V → PyData → Prop
  | non : Dp K H .non .none
  | bl (b : Bool) : Dp K H (.bl b) (.bool b)
  | int (i : Int) : Dp K H (.int i) (.int i)
  | str (x : Str) : Dp K H (.str x) (.str x)
  | lst {a : Addr} {xs : List V} {ds : List PyData} : SqL K H a xs → DpAll K H xs ds → Dp K H (.ref a) (.list ds)
  | tup {a : Addr} {xs : List V} {ds : List PyData} : SqT K H a xs → DpAll K H xs ds → Dp K H (.ref a) (.tuple ds)
inductive DpAll (K : PySem.W.Frag) (H : Hp) : List V → List PyData → Prop
  | nil : DpAll K H [] []
  | cons {v : V} {vs : List V} {d : PyData} {ds : List PyData} : Dp K H v d → DpAll K H vs ds → DpAll K H (v :: vs) (d :: ds)
end
section
variable {X : Cx} {pins : List (Addr × Obj)} {σ : St} {H : Hp} {s : Shared}
mutual
theorem Dp.reads (I : Inv X pins σ H s) : ∀ (d : PyData) (v : V) (u : Value), Dp X.K H v d → RelV v u → ∃ as, Reads s.heap u d as
  | .none, _, _, h, r => by
    cases h
    cases r
    exact ⟨_, Reads.none⟩
  | .bool b, _, _, h, r => by
    cases h
    cases r
    exact ⟨_, Reads.bool b⟩
  | .int i, _, _, h, r => by
    cases h
    obtain ⟨t, rfl⟩ := r
    exact ⟨_, Reads.int i t⟩
  | .str x, _, _, h, r => by
    cases h
    obtain ⟨t, rfl⟩ := r
    exact ⟨_, Reads.str x t⟩
  | .list ds, _, _, h, r => by
    cases h with
    | lst hs ha =>
      cases r
      obtain ⟨its, rv, ⟨o, n, ho, hc, _, hd⟩, _⟩ := I.list hs
      obtain ⟨as, hr⟩ := Dp.readsAll I ds _ its ha rv
      exact ⟨_, Reads.list ho hc hd hr⟩
  | .tuple ds, _, _, h, r => by
    cases h with
    | tup hs ha =>
      cases r
      obtain ⟨its, rv, ⟨o, ho, hc, n, hd⟩, _⟩ := I.tuple hs
      obtain ⟨as, hr⟩ := Dp.readsAll I ds _ its ha rv
      exact ⟨_, Reads.tuple ho hc hd hr⟩
  | .dict _, _, _, h, _ => by cases h
theorem Dp.readsAll (I : Inv X pins σ H s) : ∀ (ds : List PyData) (vs : List V) (us : List Value), DpAll X.K H vs ds → Vals vs us → ∃ as, ReadsAll s.heap us ds as
  | [], _, _, h, r => by
    cases h
    cases r
    exact ⟨_, ReadsAll.nil⟩
  | d :: ds, _, _, h, r => by
    cases h with
    | cons h1 h2 =>
      cases r with
      | cons r1 r2 =>
        obtain ⟨as, q1⟩ := Dp.reads I d _ _ h1 r1
        obtain ⟨bs, q2⟩ := Dp.readsAll I ds _ _ h2 r2
        exact ⟨_, ReadsAll.cons q1 q2⟩
end
end
section
variable {X : Cx}
def rEqD (K : PySem.W.Frag) : R2 := fun x y H Q => ∃ d e, Dp K H x d ∧ Dp K H y e ∧ SeqAt.shaped d = true ∧ SeqAt.shaped e = true ∧ Q (.bl (PyData.eqv d e)) H
def rNeD (K : PySem.W.Frag) : R2 := fun x y H Q => ∃ d e, Dp K H x d ∧ Dp K H y e ∧ SeqAt.shaped d = true ∧ SeqAt.shaped e = true ∧ Q (.bl (!PyData.eqv d e)) H
theorem op_eqD (hu : X.A.units + 64 < cLine) : OpR X (compareOp .Eq) (rEqD X.K) := by
  intro pins s σ H x y v u Q I rx ry h
  obtain ⟨d, e, hd, he, sd, se, q⟩ := h
  obtain ⟨as, r1⟩ := Dp.reads I d x v hd rx
  obtain ⟨bs, r2⟩ := Dp.reads I e y u he ry
  exact SeqAt.compareEq_shaped r1 r2 sd se hu ⟨.bl _, H, I, rfl, q⟩
theorem op_neD (hu : X.A.units + 64 < cLine) : OpR X (compareOp .NotEq) (rNeD X.K) := by
  intro pins s σ H x y v u Q I rx ry h
  obtain ⟨d, e, hd, he, sd, se, q⟩ := h
  obtain ⟨as, r1⟩ := Dp.reads I d x v hd rx
  obtain ⟨bs, r2⟩ := Dp.reads I e y u he ry
  exact SeqAt.compareNe_shaped r1 r2 sd se hu ⟨.bl _, H, I, rfl, q⟩
end
end L2

namespace L2
open PySem PySem.Spec PyProof.Rows
abbrev CellAt (h : Heap) (c : Addr) (v : Option Value) : Prop := h.IsCell c v
def relS (scope sc : Scope) : Scope :=
  { scope with names := scope.names.map fun (n, k) => if (k == .free && sc.kind == .function && sc.names.lookup n == some .cell) then (n, .cell) else (n, k) }

def cloFrom (cells : List (Str × Addr)) : List (Str × NameKind) → List (Str × Addr) → List (Str × Addr)
  | [], acc => acc
  | (n, k) :: r, acc => if k == .free then cloFrom cells r ((n, (cells.lookup n).getD 0) :: acc) else cloFrom cells r acc

theorem closure_loop (env : Env) (f : Str × NameKind → List (Str × Addr) → Sem (ForInStep (List (Str × Addr))))
    (hf : ∀ n k c, f (n, k) c = if k == .free then (do let a ← cellOf env n; pure (.yield ((n, a) :: c))) else pure (.yield c)) :
    ∀ (names : List (Str × NameKind)) (acc : List (Str × Addr)), (∀ y ∈ names, y.2 = .free → ∃ c, env.cells.lookup y.1 = some c) → forIn names acc f = pure (cloFrom env.cells names acc)
  | [], acc, _ => by rw [List.forIn_nil]; rfl
  | (n, k) :: r, acc, h => by
    rw [List.forIn_cons, hf]
    have ih := fun acc => closure_loop env f hf r acc fun y hy => h y (List.mem_cons_of_mem _ hy)
    unfold cloFrom
    by_cases hk : (k == NameKind.free) = true
    · rw [if_pos hk, if_pos hk]
      obtain ⟨c, hc⟩ := h (n, k) List.mem_cons_self (by simpa using hk)
      have e : cellOf env n = pure c := by unfold cellOf; rw [hc]
      rw [e]
      have e2 : (env.cells.lookup n).getD 0 = c := by rw [hc]; rfl
      rw [e2]
      exact ih _
    · rw [if_neg hk, if_neg hk]
      exact ih _
theorem closure_ok {scope : Scope} {env : Env} (h : ∀ y ∈ scope.names, y.2 = .free → ∃ c, env.cells.lookup y.1 = some c) : closureFor scope env = pure (cloFrom env.cells scope.names []) := by
  simp only [closureFor]
  rw [closure_loop env _ (fun n k c => rfl) scope.names [] h]
  rfl

theorem mem_lookup {α : Type} : ∀ {l : List (Str × α)} {n : Str} {c : α}, (n, c) ∈ l → ∃ c', l.lookup n = some c'
  | (k, v) :: r, n, c, h => by
    rw [List.lookup_cons]
    cases hb : n == k with
    | true => exact ⟨_, rfl⟩
    | false =>
      rcases List.mem_cons.mp h with e | h
      · cases e; simp at hb
      · exact mem_lookup h

theorem cloFrom_mem {cells : List (Str × Addr)} : ∀ {names : List (Str × NameKind)} {acc : List (Str × Addr)} {n : Str} {c : Addr}, (n, c) ∈ cloFrom cells names acc → (n, c) ∈ acc ∨ ((n, .free) ∈ names ∧ c = (cells.lookup n).getD 0)
  | [], _, _, _, h => .inl h
  | (m, k) :: r, acc, n, c, h => by
    unfold cloFrom at h
    split at h
    · rename_i hk
      have hk : k = .free := by simpa using hk
      rcases cloFrom_mem h with h | ⟨h1, h2⟩
      · rcases List.mem_cons.mp h with e | h
        · cases e; exact .inr ⟨hk ▸ List.mem_cons_self, rfl⟩
        · exact .inl h
      · exact .inr ⟨List.mem_cons_of_mem _ h1, h2⟩
    · rcases cloFrom_mem h with h | ⟨h1, h2⟩
      · exact .inl h
      · exact .inr ⟨List.mem_cons_of_mem _ h1, h2⟩
theorem cloFrom_acc {cells : List (Str × Addr)} : ∀ {names : List (Str × NameKind)} {acc : List (Str × Addr)} {p : Str × Addr}, p ∈ acc → p ∈ cloFrom cells names acc
  | [], _, _, h => h
  | (m, k) :: r, acc, p, h => by
    unfold cloFrom
    split
    · exact cloFrom_acc (List.mem_cons_of_mem _ h)
    · exact cloFrom_acc h
theorem cloFrom_has {cells : List (Str × Addr)} : ∀ {names : List (Str × NameKind)} {acc : List (Str × Addr)} {n : Str}, (n, .free) ∈ names → (n, (cells.lookup n).getD 0) ∈ cloFrom cells names acc
  | (m, k) :: r, acc, n, h => by
    unfold cloFrom
    rcases List.mem_cons.mp h with e | h
    · cases e
      exact cloFrom_acc List.mem_cons_self
    · split
      · exact cloFrom_has h
      · exact cloFrom_has h

theorem cells_mem : ∀ {names : List (Str × NameKind)} {h : Heap} {acc : List (Str × Addr)} {x : Str} {c : Addr}, (x, c) ∈ cellsFrom h.objs.size names acc →
    (x, c) ∈ acc ∨ ((x, .cell) ∈ names ∧ h.objs.size ≤ c ∧ CellAt (pushCells h names) c none)
  | [], _, _, _, _, h => .inl h
  | (n, k) :: r, h, acc, x, c, hm => by
    unfold cellsFrom at hm
    unfold pushCells
    split at hm
    · rename_i hk
      rw [if_pos hk]
      have hk : k = .cell := by simpa using hk
      rw [← Heap.size_push h { cls := .type "cell", data := .cell none }] at hm
      rcases cells_mem hm with hm | ⟨h1, h2, h3⟩
      · rcases List.mem_cons.mp hm with e | hm
        · cases e
          exact .inr ⟨hk ▸ List.mem_cons_self, Nat.le_refl _, _, pushCells_keeps r _ _ _ (Heap.get?_push_size _ rfl), rfl⟩
        · exact .inl hm
      · rw [Heap.size_push] at h2
        exact .inr ⟨List.mem_cons_of_mem _ h1, Nat.le_of_succ_le h2, h3⟩
    · rename_i hk
      rw [if_neg hk]
      rcases cells_mem hm with hm | ⟨h1, h2, h3⟩
      · exact .inl hm
      · exact .inr ⟨List.mem_cons_of_mem _ h1, h2, h3⟩
theorem cells_acc : ∀ {names : List (Str × NameKind)} {n : Nat} {acc : List (Str × Addr)} {p : Str × Addr}, p ∈ acc → p ∈ cellsFrom n names acc
  | [], _, _, _, h => h
  | (m, k) :: r, n, acc, p, h => by
    unfold cellsFrom
    split
    · exact cells_acc (List.mem_cons_of_mem _ h)
    · exact cells_acc h
theorem cells_has : ∀ {names : List (Str × NameKind)} {n : Nat} {acc : List (Str × Addr)} {x : Str}, (x, .cell) ∈ names → ∃ c, (x, c) ∈ cellsFrom n names acc
  | (m, k) :: r, n, acc, x, h => by
    unfold cellsFrom
    rcases List.mem_cons.mp h with e | h
    · cases e
      exact ⟨n, cells_acc List.mem_cons_self⟩
    · split
      · exact cells_has h
      · exact cells_has h
theorem cells_inj : ∀ {names : List (Str × NameKind)} {h : Heap} {acc : List (Str × Addr)} {x y : Str} {c : Addr}, (∀ p ∈ acc, p.2 < h.objs.size) → (∀ x y c, (x, c) ∈ acc → (y, c) ∈ acc → x = y) →
    (x, c) ∈ cellsFrom h.objs.size names acc → (y, c) ∈ cellsFrom h.objs.size names acc → x = y
  | [], _, _, _, _, _, _, hi, h1, h2 => hi _ _ _ h1 h2
  | (n, k) :: r, h, acc, x, y, c, hl, hi, h1, h2 => by
    unfold cellsFrom at h1 h2
    split at h1
    · rename_i hk
      rw [if_pos hk] at h2
      rw [← Heap.size_push h { cls := .type "cell", data := .cell none }] at h1 h2
      refine cells_inj (h := h.push _) (fun p hp => ?_) (fun x y c a b => ?_) h1 h2
      · rw [Heap.size_push]
        rcases List.mem_cons.mp hp with rfl | hp
        · exact Nat.lt_succ_self _
        · exact Nat.lt_succ_of_lt (hl p hp)
      · rcases List.mem_cons.mp a with e | a <;> rcases List.mem_cons.mp b with e' | b
        · cases e; cases e'; rfl
        · cases e; exact absurd (hl _ b) (Nat.lt_irrefl _)
        · cases e'; exact absurd (hl _ a) (Nat.lt_irrefl _)
        · exact hi _ _ _ a b
    · rename_i hk
      rw [if_neg hk] at h2
      exact cells_inj hl hi h1 h2

theorem newEnv_comp {M : Model} {A : Around} {E : Value → Shared → Prop} {s : Shared} {scope : Scope} {globals : Addr} {closure : List (Str × Addr)} {qual : Str} {func : Option Addr} {code : Value} {around : Env} {builtins : Addr} {Q : Env → Shared → Prop}
    (h : Q (newEnv scope s.heap.objs.size globals (cellsFrom (s.heap.objs.size + 1) scope.names closure) qual func code (some around) builtins)
      { s with heap := pushCells (s.heap.push { cls := .type "dict", data := .dict #[] }) scope.names }) :
    wpAny M A (newFunctionEnv scope globals closure [] qual func code (some around) builtins) Q E s := by
  simp only [newFunctionEnv, Option.isSome_some, if_true]
  refine wpAny_bind (wpAny_alloc ?_)
  refine wpAny_bind (wpAny_layCells _ (fun n k c => rfl) scope.names closure _ _ ?_)
  rw [show ({ s with heap := s.heap.push { cls := .type "dict", data := .dict #[] } } : Shared).heap.objs.size = s.heap.objs.size + 1 from Heap.size_push ..]
  rw [List.forIn_nil]
  exact wpAny_bind (wpAny_pure (wpAny_pure h))

theorem lookup_relS {sc : Scope} : ∀ {names : List (Str × NameKind)} {x : Str} {k : NameKind},
    (names.map fun (n, k) => if (k == NameKind.free && sc.kind == .function && sc.names.lookup n == some .cell) then (n, NameKind.cell) else (n, k)).lookup x = some k →
    ∃ k', names.lookup x = some k' ∧ (k = k' ∨ (k' = .free ∧ k = .cell))
  | [], _, _, h => by simp at h
  | (n, k₀) :: r, x, k, h => by
    have ih := @lookup_relS sc r x k
    have h' : List.lookup x ((if (k₀ == NameKind.free && sc.kind == .function && sc.names.lookup n == some .cell) = true then (n, NameKind.cell) else (n, k₀)) :: (r.map _)) = some k := h
    cases hx : x == n with
    | true =>
      simp only [List.lookup_cons, hx]
      by_cases hc : (k₀ == NameKind.free && sc.kind == .function && sc.names.lookup n == some .cell) = true
      · rw [if_pos hc] at h'
        simp only [List.lookup_cons, hx] at h'
        cases h'
        simp only [Bool.and_eq_true, beq_iff_eq] at hc
        exact ⟨k₀, rfl, .inr ⟨hc.1.1, rfl⟩⟩
      · rw [if_neg hc] at h'
        simp only [List.lookup_cons, hx] at h'
        cases h'
        exact ⟨_, rfl, .inl rfl⟩
    | false =>
      simp only [List.lookup_cons, hx]
      by_cases hc : (k₀ == NameKind.free && sc.kind == .function && sc.names.lookup n == some .cell) = true
      · rw [if_pos hc] at h'
        simp only [List.lookup_cons, hx] at h'
        exact ih h'
      · rw [if_neg hc] at h'
        simp only [List.lookup_cons, hx] at h'
        exact ih h'
structure BlkOk (N : List Str) (sc scope : Scope) (own : List (Str × Nat)) : Prop where
  kind : scope.kind = .function
  uniq : ∀ y ∈ scope.names, scope.names.lookup y.1 = some y.2
  ix : ∀ p ∈ own, N[p.2]? = some p.1
  free : ∀ y ∈ scope.names, y.2 = .free → sc.names.lookup y.1 = some .cell ∨ sc.names.lookup y.1 = some .free
  own : ∀ y ∈ scope.names, y.2 = .local ∨ y.2 = .cell → y.1 ∈ own.map (·.1) ∨ y.1 ∉ N
def wipe (σ : St) : List Nat → St
  | [] => σ
  | v :: vs => (wipe σ vs).set v none
theorem wipe_length (σ : St) : ∀ vs : List Nat, (wipe σ vs).length = σ.length
  | [] => rfl
  | v :: vs => by unfold wipe; rw [List.length_set, wipe_length σ vs]
theorem wipe_some {σ : St} {i : Nat} {x : V} : ∀ {vs : List Nat}, (wipe σ vs)[i]? = some (some x) → σ[i]? = some (some x) ∧ i ∉ vs
  | [], h => ⟨h, by simp⟩
  | v :: vs, h => by
    unfold wipe at h
    by_cases hi : v = i
    · subst hi
      by_cases hv : v < (wipe σ vs).length
      · rw [List.getElem?_set_self hv] at h; cases h
      · rw [List.getElem?_eq_none (by simpa using hv)] at h; cases h
    · rw [List.getElem?_set_ne hi] at h
      obtain ⟨h1, h2⟩ := wipe_some h
      exact ⟨h1, by simp only [List.mem_cons, not_or]; exact ⟨fun e => hi e.symm, h2⟩⟩

abbrev Cx.blk (X : Cx) (s : Shared) (H : Hp) (scope : Scope) (cenv : Env) (fp : List Addr) : Cx := { X with s_0 := s, H_0 := H, env := cenv, outer := X.stack, ex := fp, fn := fun x => scope.names.lookup x == some .cell, pn := [], xe := fun _ _ => False }
section
variable {X : Cx} {pins : List (Addr × Obj)} {σ : St} {H : Hp} {s : Shared}
theorem block_start {scope : Scope} {own : List (Str × Nat)} {fp : List Addr} (I : Inv X pins σ H s) (ok : BlkOk X.N X.env.scope scope own) (hN : X.N.Nodup) (hfp : ∀ b ∈ fp, FpOk X pins H b ∧ b < s.heap.objs.size) :
    Inv (X.blk s H scope (compEnvC scope (cellsFrom (s.heap.objs.size + 1) scope.names (cloFrom X.env.cells scope.names [])) s.heap.objs.size X.env) fp) [] (wipe σ (own.map (·.2))) H { s with heap := pushCells (s.heap.push { cls := .type "dict", data := .dict #[] }) scope.names } := by
  have hfree : ∀ y ∈ scope.names, y.2 = .free → ∃ c, X.env.cells.lookup y.1 = some c := fun y hy e => by
    rcases ok.free y hy e with k | k
    · exact I.ok.has _ (.inl k)
    · exact I.ok.has _ (.inr k)
  generalize hcenv : compEnvC scope (cellsFrom (s.heap.objs.size + 1) scope.names (cloFrom X.env.cells scope.names [])) s.heap.objs.size X.env = cenv
  have kp : ∀ b o, s.heap.get? b = some o → (pushCells (s.heap.push { cls := .type "dict", data := .dict #[] }) scope.names).get? b = some o := fun b o e => pushCells_keeps _ _ _ _ (Heap.get?_push_of_some _ e)
  have hL : cenv.locals = s.heap.objs.size := by rw [← hcenv]; rfl
  have hcl : cenv.cells = cellsFrom (s.heap.objs.size + 1) scope.names (cloFrom X.env.cells scope.names []) := by rw [← hcenv]; rfl
  have hsc : cenv.scope = relS scope X.env.scope := by rw [← hcenv]; rfl
  rw [← Heap.size_push s.heap { cls := .type "dict", data := .dict #[] }] at hcl
  have cm : ∀ {y c}, (y, c) ∈ cloFrom X.env.cells scope.names [] → X.env.cells.lookup y = some c ∧ c < s.heap.objs.size := fun {y c} hm => by
    rcases cloFrom_mem hm with hm | ⟨h1, rfl⟩
    · cases hm
    · obtain ⟨c, hc⟩ := hfree _ h1 rfl
      rw [hc]
      obtain ⟨w, z⟩ := I.cell _ _ hc
      exact ⟨rfl, z.lt⟩
  have mem : ∀ {y c}, cenv.cells.lookup y = some c → (X.env.cells.lookup y = some c ∧ c < s.heap.objs.size) ∨ (s.heap.objs.size + 1 ≤ c ∧ CellAt (pushCells (s.heap.push { cls := .type "dict", data := .dict #[] }) scope.names) c none) := fun {y c} e => by
    rw [hcl] at e
    rcases cells_mem (PySem.mem_of_lookup e) with hm | ⟨_, h2, h3⟩
    · exact .inl (cm hm)
    · rw [Heap.size_push] at h2; exact .inr ⟨h2, h3⟩
  have look : ∀ {y}, scope.names.lookup y = some .free → ∃ c, cenv.cells.lookup y = some c ∧ X.env.cells.lookup y = some c := fun {y} hl => by
    have hy : (y, NameKind.free) ∈ scope.names := PySem.mem_of_lookup hl
    obtain ⟨c', e'⟩ := mem_lookup (cells_acc (names := scope.names) (n := (s.heap.push { cls := .type "dict", data := .dict #[] }).objs.size) (cloFrom_has (cells := X.env.cells) (acc := []) hy))
    rw [← hcl] at e'
    refine ⟨c', e', ?_⟩
    rw [hcl] at e'
    rcases cells_mem (PySem.mem_of_lookup e') with hm | ⟨h1, _, _⟩
    · exact (cm hm).1
    · have := ok.uniq _ h1
      rw [hl] at this; cases this
  have okB : (X.blk s H scope cenv fp).Ok := by
    refine ⟨I.ok.mod, by show cenv.scope.kind = _; rw [hsc]; exact ok.kind, by show cenv.globals = _; rw [← hcenv]; exact I.ok.glob, by show cenv.builtins = _; rw [← hcenv]; exact I.ok.blt, by show s.heap.objs.size ≤ cenv.locals; rw [hL]; exact Nat.le_refl _,
      fun y z c e1 e2 => ?_, fun y hy => ?_, fun y c z e => ?_, I.ok.hd, I.ok.frames, .inl rfl, fun b hb => ⟨?_, fun y c e z => ?_⟩, I.bs, Nat.le_trans I.ok.bsz I.sz, fun b o e hb => ?_, fun b hb z => ?_, I.stack, I.stkFree⟩
    · have e1 : cenv.cells.lookup y = some c := e1
      have e2 : cenv.cells.lookup z = some c := e2
      rw [hcl] at e1 e2
      refine cells_inj (fun p hp => ?_) (fun y z c a b => I.ok.inj y z c (cm a).1 (cm b).1) (PySem.mem_of_lookup e1) (PySem.mem_of_lookup e2)
      rw [Heap.size_push]
      exact Nat.lt_succ_of_lt (cm (y := p.1) (c := p.2) hp).2
    · show ∃ c, cenv.cells.lookup y = some c
      have key : ∀ k, cenv.kindOf y = some k → (k = .cell ∨ k = .free) → ∃ c, cenv.cells.lookup y = some c := fun k hk hk' => by
        unfold Env.kindOf at hk
        rw [hsc] at hk
        obtain ⟨k', e, r⟩ := lookup_relS hk
        have : k' = .cell ∨ k' = .free := by
          rcases r with rfl | ⟨rfl, _⟩
          · exact hk'
          · exact .inr rfl
        rcases this with rfl | rfl
        · obtain ⟨c, hm⟩ := cells_has (n := (s.heap.push { cls := .type "dict", data := .dict #[] }).objs.size) (acc := cloFrom X.env.cells scope.names []) (PySem.mem_of_lookup e)
          obtain ⟨c', e'⟩ := mem_lookup hm
          exact ⟨c', by rw [hcl]; exact e'⟩
        · obtain ⟨c, h1, _⟩ := look e
          exact ⟨c, h1⟩
      rcases hy with hy | hy
      · exact key _ hy (.inl rfl)
      · exact key _ hy (.inr rfl)
    · have z : (scope.names.lookup y == some NameKind.cell) = true := z
      have z : scope.names.lookup y = some .cell := by simpa using z
      have e : cenv.cells.lookup y = some c := e
      rw [hcl] at e
      rcases cells_mem (PySem.mem_of_lookup e) with hm | ⟨_, h2, _⟩
      · rcases cloFrom_mem hm with hm | ⟨h1, _⟩
        · cases hm
        · have q := ok.uniq _ h1
          rw [z] at q; cases q
      · rw [Heap.size_push] at h2
        exact Nat.le_of_succ_le h2
    · show b ≠ cenv.locals
      rw [hL]; exact Nat.ne_of_lt (hfp b hb).2
    · have e : cenv.cells.lookup y = some c := e
      rcases mem e with ⟨h1, _⟩ | ⟨h1, _⟩
      · exact (hfp b hb).1.2.2.2.2.1 y c h1 z
      · have h2 : s.heap.objs.size + 1 ≤ b := by rw [← z]; exact h1
        exact absurd (Nat.lt_of_lt_of_le (hfp b hb).2 (Nat.le_of_succ_le h2)) (Nat.lt_irrefl _)
    · rcases (hfp b hb).1.2.2.2.1 with z | z
      · exact I.ok.noex b o e z
      · exact absurd (Nat.lt_of_lt_of_le (Heap.lt_size e) (Nat.le_trans I.ok.bsz z)) (Nat.lt_irrefl _)
    · rcases List.mem_cons.mp (I.stkSub b z) with z | z
      · exact (hfp b hb).1.2.1 z
      · exact (hfp b hb).1.2.2.1 z
  refine ⟨okB, rfl, I.bare, Un.kept kp, ⟨fun _ => none, ?_, fun i y av e1 e2 e3 => ?_⟩, fun y c e => ?_, ?_, fun y c e => ?_, fun p hp => ?_, I.hok.kept kp, by rw [wipe_length]; exact I.len⟩
  · show Heap.Ns _ cenv.locals _
    rw [hL]
    exact Heap.Ns.keeps (Heap.Ns.new ..) fun b o e => pushCells_keeps _ _ _ _ e
  · obtain ⟨e2, hne⟩ := wipe_some e2
    have hfr : scope.names.lookup y = some .free ∧ (cenv.kindOf y = some .cell ∨ cenv.kindOf y = some .free) := by
      have key : ∀ k, cenv.scope.names.lookup y = some k → k = .local ∨ k = .cell ∨ k = .free → scope.names.lookup y = some .free ∧ (cenv.kindOf y = some .cell ∨ cenv.kindOf y = some .free) := fun k hk hk' => by
        have hk0 := hk
        rw [hsc] at hk
        obtain ⟨k', e, r⟩ := lookup_relS hk
        have no : ¬ (k' = .local ∨ k' = .cell) := fun hh => by
          rcases ok.own _ (PySem.mem_of_lookup e) hh with e' | e'
          · obtain ⟨p, hp, hpy⟩ := List.mem_map.mp e'
            have e3 := ok.ix p hp
            have : p.1 = y := hpy
            rw [this] at e3
            exact hne (List.mem_map.mpr ⟨p, hp, nodup_ix hN e3 e1⟩)
          · exact e' (List.mem_of_getElem? e1)
        rcases r with rfl | ⟨rfl, rfl⟩
        · rcases hk' with rfl | rfl | rfl
          · exact absurd (.inl rfl) no
          · exact absurd (.inr rfl) no
          · exact ⟨e, .inr hk0⟩
        · exact ⟨e, .inl hk0⟩
      have e3 : Vis cenv.scope y := e3
      rcases e3 with e3 | e3 | e3
      · exact key _ e3 (.inl rfl)
      · exact key _ e3 (.inr (.inl rfl))
      · exact key _ e3 (.inr (.inr rfl))
    obtain ⟨m, hn, hl⟩ := I.loc
    have hvis : Vis X.env.scope y := (ok.free _ (PySem.mem_of_lookup hfr.1) rfl).elim (fun k => .inr (.inl k)) (fun k => .inr (.inr k))
    obtain ⟨w, r, q⟩ := hl i y av e1 e2 hvis
    refine ⟨w, r, .inr ⟨hfr.2, ?_⟩⟩
    obtain ⟨c, h1, h2⟩ := look hfr.1
    rcases q with ⟨k, _⟩ | ⟨_, c', e', z⟩
    · have k : X.env.scope.names.lookup y = some .local := k
      rcases ok.free _ (PySem.mem_of_lookup hfr.1) rfl with k' | k' <;> rw [show X.env.scope.names.lookup y = _ from k'] at k <;> cases k
    · rw [h2] at e'; cases e'
      exact ⟨c, h1, z.keeps kp⟩
  · have e : cenv.cells.lookup y = some c := e
    rcases mem e with ⟨h1, _⟩ | ⟨_, z⟩
    · obtain ⟨w, z⟩ := I.cell y c h1
      exact ⟨w, z.keeps kp⟩
    · exact ⟨_, z⟩
  · show H cenv.locals = none
    rw [hL]; exact I.hok.fresh (Nat.le_refl _)
  · have e : cenv.cells.lookup y = some c := e
    rcases mem e with ⟨h1, _⟩ | ⟨h1, _⟩
    · exact I.freeC y c h1
    · exact I.hok.fresh (Nat.le_of_succ_le h1)
  · exact absurd (show p ∈ ([] : List (Addr × Obj)) ++ [] from hp) (by simp)

theorem app_ok {E : Value → Shared → Prop} {D : Addr} {xs : List V} {y : V} {v : Value} {Q : Value → Shared → Prop} (I : Inv X pins σ H s) (hD : H D = some (.lst xs)) (hz : xs.length < sizeLine) (r : RelV y v)
    (h : ∀ s', Inv X pins σ (upd H D (.lst (xs ++ [y]))) s' → Q .none s') : wpAny (model X.prog X.w) X.A (call (.builtin "list.append") [.ref D, v]) Q E s := by
  obtain ⟨hz', its, n, ri, e⟩ := I.hok D _ hD
  have hl := ri.length
  refine append_at (hsz := by rw [List.size_toArray]; omega) e fun h' sb ho' => ?_
  refine h { s with heap := h' } (I.write (t' := s.toks) (by rw [hD]; trivial) (.inl rfl) (fun b u hb q => (sb.2 b hb).trans q) ⟨_, ho'⟩ ⟨by rw [List.length_append]; exact hz, its ++ [v], n + 1, ri.append (.cons r .nil), ?_⟩)
  rw [ho']
  simp

def PTs (X : Cx) (ifs : List Expr) (t : TT) : Prop :=
  ∀ (pins : List (Addr × Obj)) (s : Shared) (σ : St) (H : Hp) (Q : Bool → Hp → Prop), Inv X pins σ H s → t σ H Q →
    wpAny (model X.prog X.w) X.A (forIn ifs true fun c r => if r = true then do let ok ← isTrue c X.env (eval c X.env); pure (ForInStep.yield ok) else pure (ForInStep.yield r)) (TP X pins σ Q) X.xe s
def tYes : TT := fun _ H Q => Q true H
theorem pts_nil : PTs X [] tYes := fun _ _ _ H _ I h => wpAny_tests_nil ⟨H, I, h⟩
theorem pts_one {c : Expr} {t : TT} (h : PT X c t) : PTs X [c] t := fun pins s σ H Q I hw => wpAny_tests_one (h pins s σ H Q I hw)
end

theorem thnF {α : Type} {t : Sem α} {Q Q' : α → Shared → Prop} {M : Model} {A : Around} {E : Value → Shared → Prop} {s : Shared} (h : wpAny M A t Q (fun _ _ => False) s) (hQ : ∀ a s, Q a s → Q' a s) : wpAny M A t Q' E s := wpAny_mono h hQ fun _ _ z => False.elim z

theorem compLoop_any {prog : Program} {w : World} {A : Around} {R : Result → Shared → Prop} {s : Shared} {elt target iter : Expr} {ifs : List Expr} {scope : Scope} {pos : Pos} {it acc : Value} {env : Env} (I : Nat → Shared → Prop)
    (turn : ∀ n s, I n s → wpAny (model prog w) A (pyNext it) (fun r s₁ => match r with
      | none => R (.ok .next) s₁
      | some v => wpAny (model prog w) A (letOwnedTupleGo target it v) (fun _ s₁' => wpAny (model prog w) A (assign target env v) (fun _ s₂ =>
          wpAny (model prog w) A (forIn ifs true fun c r => if r = true then do let ok ← isTrue c env (eval c env); pure (ForInStep.yield ok) else pure (ForInStep.yield r)) (fun ok s₃ =>
            if ok = true then wpAny (model prog w) A (eval elt env) (fun x s₄ =>
              wpAny (model prog w) A (call (.builtin "list.append") [acc, x]) (fun _ s₅ => ∃ m, m < n ∧ I m s₅) (notedBy (model prog w) A env fun e s' => R (.error e) s') s₄) (notedBy (model prog w) A env fun e s' => R (.error e) s') s₃
            else ∃ m, m < n ∧ I m s₃) (notedBy (model prog w) A env fun e s' => R (.error e) s') s₂) (notedBy (model prog w) A env fun e s' => R (.error e) s') s₁') (notedBy (model prog w) A env fun e s' => R (.error e) s') s₁) (notedBy (model prog w) A env fun e s' => R (.error e) s') s)
    (n : Nat) (h : I n s) :
    codeAny (model prog w) A (.compLoop (.ListComp elt [⟨target, iter, ifs, 0⟩] scope pos) 0 it acc env) R s := by
  refine codeAny_loop rfl I (fun n s hI => ?_) n h
  show wpAny _ A ((compTurn (.ListComp elt [⟨target, iter, ifs, 0⟩] scope pos) 0 it acc env).onRaise (fun x => do noteFrame x env; theTreesLotGoes x)) _ _ s
  refine wpAny_noted ?_
  rw [compTurn_list]
  refine wpAny_bind (wpAny_standAt (wpAny_bind (wpAny_mono (turn n s hI) (fun r s₁ h₁ => ?_) fun _ _ h' => h')))
  cases r with
  | none => exact wpAny_pure h₁
  | some v =>
    refine wpAny_bind (wpAny_mono h₁ (fun _ s₁' h₁' => ?_) fun _ _ h' => h')
    refine wpAny_bind (wpAny_mono h₁' (fun _ s₂ h₂ => wpAny_bind (wpAny_mono h₂ (fun ok s₃ h₃ => ?_) fun _ _ h' => h')) fun _ _ h' => h')
    cases ok with
    | false => exact wpAny_pure ⟨rfl, h₃⟩
    | true =>
      exact wpAny_bind (wpAny_bind (wpAny_mono h₃ (fun x s₄ h₄ => wpAny_bind (wpAny_mono h₄ (fun _ s₅ h₅ => wpAny_pure (wpAny_pure ⟨rfl, h₅⟩)) fun _ _ h' => h')) fun _ _ h' => h'))

section
variable {X : Cx}
def tLc (wi : TI) (g : TG) (tt : TT) (te : TE) (vs : List Nat) : TE := fun σ H Q => wi σ H fun J H1 => ∀ D, H1 D = none → ∃ W : Nat → Nat → Hp → Prop, (∃ m, W 0 m (upd H1 D (.lst []))) ∧ ∀ i m H, W i m H →
  (J.stop i H ∧ Q (.ref D) H) ∨ (J.go i H ∧ ∃ Nx : Hp → Prop, (∀ H', Nx H' → ∃ m', m' < m ∧ W (i + 1) m' H') ∧ ∀ x H', J.yld i H x H' → g x (wipe σ vs) H' fun σ2 H2 => wipe σ2 vs = wipe σ vs ∧ tt σ2 H2 fun b H3 =>
    if b = true then te σ2 H3 fun y H4 => ∃ acc, H4 D = some (.lst acc) ∧ acc.length < sizeLine ∧ Nx (upd H4 D (.lst (acc ++ [y]))) else Nx H3)
theorem lc_core {pins : List (Addr × Obj)} {s : Shared} {σ : St} {H : Hp} {Q : VK} {elt tg iter : Expr} {ifs : List Expr} {scope : Scope} {own : List (Str × Nat)} {pos pos' : Pos} {wi : TI} {g : TG} {tt : TT} {te : TE} {use : Option (Value → Sem Unit)} {Qf : Value → Shared → Prop}
    (hc : X.calm = true) (hN : X.N.Nodup) (I : Inv X pins σ H s) (hi : PI X tg iter wi) (ok : BlkOk X.N X.env.scope scope own)
    (hg : ∀ (s : Shared) (H : Hp) (C : Addr) (cl : List (Str × Addr)) (fp : List Addr), PG (X.blk s H scope (compEnvC scope cl C X.env) fp) tg g) (ht : ∀ (s : Shared) (H : Hp) (C : Addr) (cl : List (Str × Addr)) (fp : List Addr), PTs (X.blk s H scope (compEnvC scope cl C X.env) fp) ifs tt)
    (he : ∀ (s : Shared) (H : Hp) (C : Addr) (cl : List (Str × Addr)) (fp : List Addr), PE (X.blk s H scope (compEnvC scope cl C X.env) fp) elt te) (hs : ∀ x, foldedSetIterable iter X.env x = pure x)
    (h : tLc wi g tt te (own.map (·.2)) σ H Q)
    (hRR : ∀ D C s' m H', Inv X pins σ H' s' → Q (.ref D) H' → s'.heap.Ns C m → FpOk X pins H' C → compPost (model X.prog X.w) X.A X.xe use Qf (.ref D) C (.ok .next) s') :
    wpAny (model X.prog X.w) X.A (comprehension (.ListComp elt [⟨tg, iter, ifs, 0⟩] scope pos) scope X.env pos' (newList []) false (eval iter X.env) use) Qf X.xe s := by
  have hfree : ∀ y ∈ scope.names, y.2 = .free → ∃ c, X.env.cells.lookup y.1 = some c := fun y hy e => by
    rcases ok.free y hy e with k | k
    · exact I.ok.has _ (.inl k)
    · exact I.ok.has _ (.inr k)
  refine wpAny_comprehension_free (use := use) rfl hs (closure_ok hfree) ok.kind (fun y hy e => by rw [ok.uniq y hy, e])
    (thn (hi pins s σ H _ I h) fun xv s1 hx => thn hx fun itv s2 h2 => ?_)
  obtain ⟨it, fp, tn, J, H2, e, I2, T, st2, f2, q⟩ := h2
  subst e
  refine wpAny_newObj_type (newEnv_comp ?_) (by show 0 ≤ sizeLine; decide)
  generalize hD : s2.heap.objs.size = D
  have hDn : H2 D = none := I2.hok.fresh (Nat.le_of_eq hD)
  obtain ⟨W, ⟨m0, w0⟩, turn⟩ := q D hDn
  -- the new list
  generalize hs3 : ({ s2 with heap := s2.heap.push { cls := .type "list", data := .seq ([] : List Value).toArray } } : Shared) = s3
  have I3 : Inv X pins σ (upd H2 D (.lst [])) s3 := by
    rw [← hs3]
    refine I2.laid (t' := s2.toks) (fun b o e => Heap.get?_push_of_some _ e) (Nat.le_of_eq hD) ⟨Nat.zero_le _, [], 0, .nil, ?_⟩
    rw [← hD]
    exact Heap.get?_push_size _ rfl
  have h3 : s3.heap = s2.heap.push { cls := .type "list", data := .seq ([] : List Value).toArray } := by rw [← hs3]
  have sz : ∀ b ∈ fp, b < s2.heap.objs.size := fun b hb => by
    obtain ⟨o, e, _⟩ := T.obj _ _ st2 b hb
    exact Heap.lt_size e
  have f3 : ∀ b ∈ fp, FpOk X pins (upd H2 D (.lst [])) b ∧ b < s3.heap.objs.size := fun b hb => by
    have hlt := sz b hb
    refine ⟨⟨?_, (f2 b hb).2⟩, by rw [h3, Heap.size_push]; exact Nat.lt_succ_of_lt hlt⟩
    rw [upd_ne (by rw [← hD]; exact Nat.ne_of_lt hlt)]
    exact (f2 b hb).1
  have st3 : tn 0 s3.heap := T.keep _ _ _ st2 fun b _ o e => by rw [h3]; exact Heap.get?_push_of_some _ e
  have I4 := block_start I3 ok hN f3
  have pg := hg s3 (upd H2 D (.lst [])) s3.heap.objs.size (cellsFrom (s3.heap.objs.size + 1) scope.names (cloFrom X.env.cells scope.names [])) fp
  have pt := ht s3 (upd H2 D (.lst [])) s3.heap.objs.size (cellsFrom (s3.heap.objs.size + 1) scope.names (cloFrom X.env.cells scope.names [])) fp
  have pe := he s3 (upd H2 D (.lst [])) s3.heap.objs.size (cellsFrom (s3.heap.objs.size + 1) scope.names (cloFrom X.env.cells scope.names [])) fp
  show codeAny _ _ (.compStart (.ListComp elt [⟨tg, iter, ifs, 0⟩] scope pos) 0 (.ref it) (.ref D) (compEnvC scope (cellsFrom (s3.heap.objs.size + 1) scope.names (cloFrom X.env.cells scope.names [])) s3.heap.objs.size X.env)) (compPost (model X.prog X.w) X.A X.xe use Qf (.ref D) s3.heap.objs.size) { s3 with heap := pushCells (s3.heap.push { cls := .type "dict", data := .dict #[] }) scope.names }
  have nfp : ∀ b ∈ fp, (upd H2 D (.lst [])) b = none := fun b hb => (f3 b hb).1.1
  generalize hce : compEnvC scope (cellsFrom (s3.heap.objs.size + 1) scope.names (cloFrom X.env.cells scope.names [])) s3.heap.objs.size X.env = ce at I4 pg pt pe ⊢
  have cL : ce.locals = s3.heap.objs.size := by subst hce; rfl
  generalize hH3 : upd H2 D (.lst []) = H3 at I3 I4 pg pt pe w0 nfp f3
  generalize hs4 : ({ s3 with heap := pushCells (s3.heap.push { cls := .type "dict", data := .dict #[] }) scope.names } : Shared) = s4 at I4 ⊢
  have st4 : tn 0 s4.heap := T.keep _ _ _ st3 fun b _ o e => by rw [← hs4]; exact pushCells_keeps _ _ _ _ (Heap.get?_push_of_some _ e)
  have stat : ∀ {σ' : St} {H' : Hp} {s' : Shared}, Inv (X.blk s3 H3 scope ce fp) [] σ' H' s' → (∀ b ∈ fp, H' b = none) → ∀ b ∈ fp, FpOk (X.blk s3 H3 scope ce fp) [] H' b := fun {σ' H' s'} I' hn b hb =>
    ⟨hn b hb, (I'.ok.exf b hb).1, I'.ok.exfs b hb, .inl hb, fun x c e => (I'.ok.exf b hb).2 x c e, fun p hp => absurd (show p ∈ ([] : List (Addr × Obj)) ++ [] from hp) (by simp)⟩
  have loop : codeAny (model X.prog X.w) X.A (.compLoop (.ListComp elt [⟨tg, iter, ifs, 0⟩] scope pos) 0 (.ref it) (.ref D) ce) (compPost (model X.prog X.w) X.A X.xe use Qf (.ref D) s3.heap.objs.size) s4 := by
    refine compLoop_any (fun n s' => ∃ i H', Inv (X.blk s3 H3 scope ce fp) [] (wipe σ (own.map (·.2))) H' s' ∧ tn i s'.heap ∧ (∀ b ∈ fp, H' b = none) ∧ W i n H') ?_ m0 ⟨0, H3, I4, st4, nfp, w0⟩
    rintro n s5 ⟨i, H5, I5, st5, n5, w5⟩
    rcases turn i n H5 w5 with ⟨stop, qq⟩ | ⟨go, Nx, hNx, step⟩
    · have td := T.done (X.blk s3 H3 scope ce fp) rfl rfl rfl hc i [] s5 _ H5 (fun _ _ => False) I5 (stat I5 n5) st5 stop
      refine thnF td fun r s6 ⟨hr, I6⟩ => ?_
      subst hr
      -- back in the def's context
      have I7 : Inv X pins σ H5 s6 := I3.call' (ch := fp) I6.os I6.base I6.hok I6.bare fun b hb => ⟨(f3 b hb).1.2.2.2.1, (f3 b hb).1.2.1, (f3 b hb).1.2.2.2.2.1, (f3 b hb).1.2.2.2.2.2⟩
      have nC : H5 s3.heap.objs.size = none := by
        have z : H5 ce.locals = none := I6.free
        rw [cL] at z
        exact z
      obtain ⟨m, hn, _⟩ := I6.loc
      have hn : s6.heap.Ns ce.locals m := hn
      rw [cL] at hn
      exact hRR D s3.heap.objs.size s6 m H5 I7 qq hn (I3.fpOk (Nat.le_refl _) nC)
    · have ti := T.item (X.blk s3 H3 scope ce fp) rfl rfl rfl hc i [] s5 _ H5 (fun _ _ => False) I5 (stat I5 n5) st5 go
      refine thnF ti fun r s6 ⟨u, hr, h6⟩ => ?_
      subst hr
      refine thnF h6 fun _ s7 ⟨x, H7, I7, r7, y7, st7, n7⟩ => ?_
      have I7' := I7.pinned (stat I7 n7) (T.obj _ _ st7)
      refine thnF (pg _ s7 _ H7 x u _ I7' r7 (step x H7 y7)) fun _ s8 ⟨σ8, H8, I8, hw8, q8⟩ => ?_
      refine thnF (pt _ s8 σ8 H8 _ I8 q8) fun b s9 ⟨H9, I9, q9⟩ => ?_
      -- the turn's end
      have fin : ∀ {s' : Shared} {H' : Hp}, Inv (X.blk s3 H3 scope ce fp) ([] ++ pinsAt fp s7.heap) σ8 H' s' → Nx H' → ∃ m, m < n ∧ ∃ i H', Inv (X.blk s3 H3 scope ce fp) [] (wipe σ (own.map (·.2))) H' s' ∧ tn i s'.heap ∧ (∀ b ∈ fp, H' b = none) ∧ W i m H' := fun {s' H'} I' nx => by
        obtain ⟨m', hm, w'⟩ := hNx H' nx
        have pin' : ∀ b ∈ fp, ∀ o, s7.heap.get? b = some o → s'.heap.get? b = some o ∧ H' b = none := fun b hb o e =>
          let z := I'.pin (b, o) (List.mem_append_right _ (List.mem_append_right _ (mem_pinsAt hb e)))
          ⟨z.1, z.2.1⟩
        have hl : (wipe σ (own.map (·.2))).length = σ8.length := by rw [← hw8, wipe_length]
        refine ⟨m', hm, i + 1, H', (I'.unpinned (pins := [])).weak hl (fun j v e => ?_), T.keep _ _ _ st7 fun b hb o e => (pin' b hb o e).1, fun b hb => ?_, w'⟩
        · rw [← hw8] at e
          exact (wipe_some e).1
        · obtain ⟨o, e, _⟩ := T.obj _ _ st7 b hb
          exact (pin' b hb o e).2
      cases b with
      | false =>
        simp only [Bool.false_eq_true, if_false] at q9 ⊢
        exact fin I9 q9
      | true =>
        simp only [if_true] at q9 ⊢
        refine thnF (pe _ s9 σ8 H9 _ I9 q9) fun z s10 ⟨yv, H10, I10, r10, acc, hD10, hz10, nx⟩ => ?_
        exact app_ok (X := X.blk s3 H3 scope ce fp) I10 hD10 hz10 r10 fun s11 I11 => fin I11 nx
  exact codeAny_compStart_list loop (T.self X.A 0 _ _ _ st4 loop)
theorem pe_lc {elt tg iter : Expr} {ifs : List Expr} {scope : Scope} {own : List (Str × Nat)} {pos : Pos} {wi : TI} {g : TG} {tt : TT} {te : TE} (hc : X.calm = true) (hN : X.N.Nodup) (hi : PI X tg iter wi) (ok : BlkOk X.N X.env.scope scope own)
    (hg : ∀ (s : Shared) (H : Hp) (C : Addr) (cl : List (Str × Addr)) (fp : List Addr), PG (X.blk s H scope (compEnvC scope cl C X.env) fp) tg g) (ht : ∀ (s : Shared) (H : Hp) (C : Addr) (cl : List (Str × Addr)) (fp : List Addr), PTs (X.blk s H scope (compEnvC scope cl C X.env) fp) ifs tt)
    (he : ∀ (s : Shared) (H : Hp) (C : Addr) (cl : List (Str × Addr)) (fp : List Addr), PE (X.blk s H scope (compEnvC scope cl C X.env) fp) elt te) (hs : ∀ x, foldedSetIterable iter X.env x = pure x := by intro _; rfl) :
    PE X (.ListComp elt [⟨tg, iter, ifs, 0⟩] scope pos) (tLc wi g tt te (own.map (·.2))) := by
  intro pins s σ H Q I h
  rw [eval_ListComp]
  refine lc_core hc hN I hi ok hg ht he hs h fun D C s' m H' I' q hn f => ⟨m, hn, fun h'' sb => ?_⟩
  obtain ⟨f0, f1, f2, f3, f4, f5⟩ := f
  exact ⟨.ref D, H', I'.turned (t' := s'.toks) (fun b o hb e => (sb.2 b hb).trans e) f0 f1 f3 f4 f5, rfl, q⟩
theorem ps_setLc {i : Nat} {y : Str} {py : Pos} {elt tg iter : Expr} {ifs : List Expr} {scope : Scope} {own : List (Str × Nat)} {pos spos : Pos} {wi : TI} {g : TG} {tt : TT} {te : TE} (hc : X.calm = true) (hN : X.N.Nodup) (hy : X.N[i]? = some y) (hyl : X.env.scope.names.lookup y = some .local)
    (hsw : swapsWith (.ListComp elt [⟨tg, iter, ifs, 0⟩] scope pos) (some (.Name y py)) spos.line X.env = pure true) (hi : PI X tg iter wi) (ok : BlkOk X.N X.env.scope scope own)
    (hg : ∀ (s : Shared) (H : Hp) (C : Addr) (cl : List (Str × Addr)) (fp : List Addr), PG (X.blk s H scope (compEnvC scope cl C X.env) fp) tg g) (ht : ∀ (s : Shared) (H : Hp) (C : Addr) (cl : List (Str × Addr)) (fp : List Addr), PTs (X.blk s H scope (compEnvC scope cl C X.env) fp) ifs tt)
    (he : ∀ (s : Shared) (H : Hp) (C : Addr) (cl : List (Str × Addr)) (fp : List Addr), PE (X.blk s H scope (compEnvC scope cl C X.env) fp) elt te) (hs : ∀ x, foldedSetIterable iter X.env x = pure x := by intro _; rfl) :
    PS X (.Assign [.Name y py] (.ListComp elt [⟨tg, iter, ifs, 0⟩] scope pos) spos) (tAsg (tLc wi g tt te (own.map (·.2))) (gName i)) := by
  intro pins s σ H D I h
  rw [exec_Assign_Name_used _ _ _ _ hsw]
  refine wpAny_bind (wpAny_standAt (wpAny_bind ?_))
  show wpAny _ X.A (do let _ ← comprehension (.ListComp elt [⟨tg, iter, ifs, 0⟩] scope pos) scope X.env (firstIterPos [⟨tg, iter, ifs, 0⟩] pos) (newList []) false (eval iter X.env) (some (assign (.Name y py) X.env))) _ _ s
  have h : tLc wi g tt te (own.map (·.2)) σ H (fun x H1 => gName i x σ H1 D.nx) := h
  refine wpAny_bind (thn (lc_core (Qf := fun _ s' => SP X pins D .next s') hc hN I hi ok hg ht he hs h fun L C s' m H' I' q hn f => ?_) fun _ s' hq => wpAny_pure (wpAny_pure hq))
  show wpAny _ _ (assign (.Name y py) X.env (.ref L)) _ _ _
  refine wpAny_assign_Name (store_ok2 (v := V.ref L) I' hN hy (.inl hyl) rfl (fun s2 I2 ⟨a, sb, ha⟩ => ?_) (.inr hyl))
  obtain ⟨f0, f1, f2, f3, f4, f5⟩ := f
  have haC : C ≠ a := by
    rcases ha with z | z
    · rw [z]; exact f1
    · exact fun e => f4 y a z e.symm
  refine ⟨m, hn.sameBut sb haC, fun h3 sb3 => ?_⟩
  exact ⟨_, H', I2.turned (t' := s2.toks) (fun b o hb e => (sb3.2 b hb).trans e) f0 f1 f3 f4 f5, q⟩
end

end L2

namespace L2
open PySem PySem.Spec PyProof.Rows

section
variable {prog : Program} {w : World} {A : Around} {R : Result → Shared → Prop} {s : Shared} {elt t0 i0 t1 i1 : Expr} {ifs0 ifs1 : List Expr} {scope : Scope} {pos : Pos} {it acc : Value} {env : Env}
end

section
variable {X : Cx}
end
end L2

namespace L2
open PySem PySem.Spec PyProof.Rows

section
variable {κ : Type} [DecidableEq κ]
def valV (kvs : List (κ × V)) (k : κ) : Option V := (kvs.find? fun kv => decide (kv.1 = k)).map (·.2)
def putK (kvs : List (κ × V)) (k : κ) (v : V) : List (κ × V) :=
  if (kvs.any fun kv => decide (kv.1 = k)) = true then kvs.map (fun kv => if kv.1 = k then (kv.1, v) else kv) else kvs ++ [(k, v)]
def dropK (kvs : List (κ × V)) (k : κ) : List (κ × V) := kvs.filter fun kv => decide (kv.1 ≠ k)

theorem RelO.getD {o : Option V} {u : Option Value} {d : V} {d' : Value} (r : RelO o u) (rd : RelV d d') : RelV (o.getD d) (u.getD d') := by
  cases o with
  | none => cases u with
    | none => exact rd
    | some _ => exact (show False from r).elim
  | some _ => cases u with
    | none => exact (show False from r).elim
    | some _ => exact r

theorem KV.any {kvs : List (κ × V)} {vs : List (κ × Value)} (r : KV kvs vs) (k : κ) : (kvs.any fun kv => decide (kv.1 = k)) = vs.any fun kv => decide (kv.1 = k) := by
  unfold KV at r
  induction r with
  | nil => rfl
  | cons h t ih => rw [List.any_cons, List.any_cons, ih, h.1]
theorem KV.drop {kvs : List (κ × V)} {vs : List (κ × Value)} (r : KV kvs vs) (k : κ) : KV (dropK kvs k) (without vs k) := by
  unfold KV at r ⊢
  unfold dropK without
  induction r with
  | nil => exact .nil
  | @cons p q ps qs h t ih =>
    obtain ⟨h1, h2⟩ := h
    rw [List.filter_cons, List.filter_cons]
    by_cases e : p.1 = k
    · have a : ¬ decide (p.1 ≠ k) = true := by simp [e]
      have b : ¬ decide (q.1 ≠ k) = true := by simp [h1.symm.trans e]
      rw [if_neg a, if_neg b]; exact ih
    · have e' : ¬ q.1 = k := fun z => e (h1.trans z)
      have a : decide (p.1 ≠ k) = true := by simp [e]
      have b : decide (q.1 ≠ k) = true := by simp [e']
      rw [if_pos a, if_pos b]; exact .cons ⟨h1, h2⟩ ih
theorem KV.keys {kvs : List (κ × V)} {vs : List (κ × Value)} (r : KV kvs vs) : kvs.map (·.1) = vs.map (·.1) := by
  unfold KV at r
  induction r with
  | nil => rfl
  | cons h t ih => rw [List.map_cons, List.map_cons, ih, h.1]
theorem KV.length {kvs : List (κ × V)} {vs : List (κ × Value)} (r : KV kvs vs) : kvs.length = vs.length := Paired.length r
end


theorem kV_is {P : Program} {w : World} {k : Key} {u : Value} (r : RelV (kV k) u) : (mixKind P w).is k u = true := by
  cases k with
  | inl i => obtain ⟨t, e⟩ := (show ∃ t, u = Value.int i t from r); subst e; exact mixKind_int P w i t
  | inr x => obtain ⟨t, e⟩ := (show ∃ t, u = Value.str x t from r); subst e; exact mixKind_str P w x t
abbrev KT (H : Hp) : List (List Key × V) → List (List Key × Addr × Value) → Prop := Paired fun p q => p.1 = q.1 ∧ H q.2.1 = some (.tup (p.1.map kV)) ∧ RelV p.2 q.2.2
theorem KT.keeps {H H' : Hp} {kvs : List (List Key × V)} {xs : List (List Key × Addr × Value)} (r : KT H kvs xs) (ht : ∀ b ys, H b = some (.tup ys) → H' b = some (.tup ys)) : KT H' kvs xs :=
  Paired.mapP r fun _ _ z => ⟨z.1, ht _ _ z.2.1, z.2.2⟩

section
variable {P : Program} {w : World} {H : Hp} {h : Heap} {a : Addr}
end

def DGet (H : Hp) (a : Addr) (y : V) (r : Option V) : Prop :=
  (∃ kvs k, Rd H a (.dK kvs) ∧ y = kV k ∧ r = valV kvs k) ∨ ∃ kvs k b, Rd H a (.dT kvs) ∧ y = .ref b ∧ H b = some (.tup (k.map kV)) ∧ r = valV kvs k
def DPut (H : Hp) (a : Addr) (y v : V) (H' : Hp) : Prop :=
  (∃ kvs k, H a = some (.dK kvs) ∧ y = kV k ∧ kvs.length < sizeLine ∧ H' = upd H a (.dK (putK kvs k v))) ∨
  ∃ kvs k b, H a = some (.dT kvs) ∧ y = .ref b ∧ H b = some (.tup (k.map kV)) ∧ kvs.length < sizeLine ∧ H' = upd H a (.dT (putK kvs k v))
theorem DGet.k {H : Hp} {a : Addr} {kvs : List (Key × V)} {k : Key} (e : H a = some (.dK kvs)) : DGet H a (kV k) (valV kvs k) := .inl ⟨kvs, k, .inl e, rfl, rfl⟩
theorem DGet.t {H : Hp} {a b : Addr} {kvs : List (List Key × V)} {k : List Key} (e : H a = some (.dT kvs)) (eb : H b = some (.tup (k.map kV))) : DGet H a (.ref b) (valV kvs k) := .inr ⟨kvs, k, b, .inl e, rfl, eb, rfl⟩
theorem DPut.k {H : Hp} {a : Addr} {kvs : List (Key × V)} {k : Key} {v : V} (e : H a = some (.dK kvs)) (hl : kvs.length < sizeLine) : DPut H a (kV k) v (upd H a (.dK (putK kvs k v))) := .inl ⟨kvs, k, e, rfl, hl, rfl⟩
theorem DPut.t {H : Hp} {a b : Addr} {kvs : List (List Key × V)} {k : List Key} {v : V} (e : H a = some (.dT kvs)) (eb : H b = some (.tup (k.map kV))) (hl : kvs.length < sizeLine) :
    DPut H a (.ref b) v (upd H a (.dT (putK kvs k v))) := .inr ⟨kvs, k, b, e, rfl, eb, hl, rfl⟩


section
variable {X : Cx} {pins : List (Addr × Obj)} {σ : St} {H : Hp} {s : Shared} {a : Addr} {y v : V} {u r : Value} {o : Option V} {A : Around} {E : Value → Shared → Prop}

theorem Inv.big (I : Inv X pins σ H s) : sysModules < s.heap.objs.size := by
  have h : mainGlobals < s.heap.objs.size := (I.mod.glob.keeps I.bk).lt
  exact Nat.lt_trans (by decide) h

end

section
variable {X : Cx} {pins : List (Addr × Obj)} {σ : St} {H : Hp} {s : Shared} {a : Addr} {kvs : List (Key × V)} {k : Key} {u : Value} {A : Around} {E : Value → Shared → Prop}
end


section
variable {X : Cx} {o i e value : Expr} {pos pos' tpos : Pos} {td ty tv : TE}
end


theorem dk_empty {P : Program} {w : World} {H : Hp} (h : Heap) (hb : sysModules < h.objs.size) : ObjOk P w H (h.push { cls := .type "dict", data := .dict #[] }) h.objs.size (.dK []) :=
  ⟨Nat.zero_le _, beq_eq_false_iff_ne.mpr (Ne.symm (Nat.ne_of_lt hb)), [], .nil, Heap.DictOf.new h⟩
def tDNewK : TE := fun _ H Q => ∀ p, H p = none → Q (.ref p) (upd H p (.dK []))
section
variable {X : Cx} {pos : Pos}
theorem pe_dnewK : PE X (.Dict [] [] pos) tDNewK := fun pins s σ H Q I h =>
  wpAny_Dict_empty ⟨.ref s.heap.objs.size, _, I.laid (a := s.heap.objs.size) (o := .dK []) (t' := s.toks) (fun _ _ q => Heap.get?_push_of_some _ q) (Nat.le_refl _) (dk_empty s.heap I.big), rfl, h _ (I.hok.fresh (Nat.le_refl _))⟩
end

section
variable {X : Cx} {pins : List (Addr × Obj)} {σ : St} {H : Hp} {s : Shared} {a : Addr} {y d : V} {u r : Value} {o : Option V} {A : Around} {E : Value → Shared → Prop}
end

section
variable {X : Cx} {o e f : Expr} {apos cpos : Pos} {td ty tx : TE}
end

section
variable {X : Cx} {pins : List (Addr × Obj)} {σ : St} {H : Hp} {s : Shared} {a : Addr} {kvs : List (Key × V)} {A : Around} {E : Value → Shared → Prop}
end


section
variable {X : Cx} {pins : List (Addr × Obj)} {σ : St} {H : Hp} {s : Shared} {a : Addr} {y : V} {u : Value} {A : Around} {E : Value → Shared → Prop}
end
end L2

namespace L2
open PySem PySem.Spec PyProof.Rows

section
variable {prog : Program} {w : World} {A : Around} {E : Value → Shared → Prop}
end

section
variable {X : Cx}
theorem pairs_of {pins : List (Addr × Obj)} {σ : St} {H : Hp} {s : Shared} (I : Inv X pins σ H s) : ∀ {ps : List Addr} {kvs : List (Key × V)}, Paired (fun p kv => SqT X.K H p [kV kv.1, kv.2]) ps kvs →
    ∃ prs : List (Key × Value), KV kvs prs ∧ prs.length = ps.length ∧ ∀ (j : Nat) (q : Key × Value), prs[j]? = some q → ∃ (b : Addr) (u : Value), ps[j]? = some b ∧ IsTup s.heap b #[u, q.2] ∧ keyIs q.1 u = true
  | _, _, .nil => ⟨[], .nil, rfl, fun j q e => by simp at e⟩
  | _, _, .cons (a := p) (b := kv) h t => by
    obtain ⟨prs, r, hl, hp⟩ := pairs_of I t
    obtain ⟨its, rv, ht, _⟩ := I.tuple h
    obtain ⟨u, y, ei, ru, ry⟩ := vals2 rv
    subst ei
    refine ⟨(kv.1, y) :: prs, .cons ⟨rfl, ry⟩ r, by rw [List.length_cons, List.length_cons, hl], fun j q e => ?_⟩
    cases j with
    | zero =>
      have e' : (kv.1, y) = q := Option.some.inj e
      subst e'
      exact ⟨p, u, rfl, ht, kV_is (P := X.prog) (w := X.w) ru⟩
    | succ j =>
      obtain ⟨b, u', e1, e2, e3⟩ := hp j q (by simpa using e)
      exact ⟨b, u', by simpa using e1, e2, e3⟩
end
end L2

namespace L2
open PySem PySem.Spec PyProof.Rows

theorem boot_reversed5 : bootBuiltins "reversed" = some (.type "reversed") := by decide +kernel

section
variable {X : Cx} {pins : List (Addr × Obj)} {σ : St} {H : Hp} {s : Shared} {h' : Heap}
theorem Inv.turnedL {t' : Nat} {ch : List Addr} (I : Inv X pins σ H s) (k : ∀ b o, b ∉ ch → s.heap.get? b = some o → h'.get? b = some o) (hf : ∀ b ∈ ch, FpOk X pins H b) : Inv X pins σ H { s with heap := h', toks := t' } := by
  have nit : ∀ b u, H b = some u → b ∉ ch := fun b u e z => by
    have q := (hf b z).1
    rw [q] at e; cases e
  refine I.step (g' := s.gens) (d' := s.drawn) (ch := ch) (fun b hb => ⟨(hf b hb).2.2.2.1, (hf b hb).2.1, (hf b hb).2.2.2.2.1, (hf b hb).2.2.2.2.2⟩) (fun b o _ _ hc e _ => k b o hc e) (fun b o _ _ hc e _ => ⟨o.slots, k b o hc e⟩)
    (fun _ _ _ _ n => n) (fun b o hc e => ⟨o, k b o hc e⟩) (fun _ _ e => e) (fun _ _ _ e => e) (fun b ps e => ⟨#[], by rw [e]; simp⟩) (fun m hm => ?_) (fun b u e => ?_) I.bare
  · obtain ⟨o, es, ep, ho, r⟩ := hm
    exact ⟨o, es, ep, k _ o (fun z => (hf _ z).2.1 rfl) ho, r⟩
  · refine (I.hok b u e).stay (fun c v hc q => k c v ?_ q) (fun _ q => q) fun _ _ q => q
    rcases hc with z | z
    · rw [z]; exact nit b u e
    · exact nit c _ z
theorem Inv.turnedNew {t' : Nat} {ch : List Addr} {T : Addr} {ob : HO} (I : Inv X pins σ H s) (k : ∀ b o, b ∉ ch → s.heap.get? b = some o → h'.get? b = some o) (hf : ∀ b ∈ ch, FpOk X pins H b) (hT : s.heap.objs.size ≤ T)
    (new : ObjOk X.prog X.w (upd H T ob) h' T ob) : Inv X pins σ (upd H T ob) { s with heap := h', toks := t' } := by
  have hn : H T = none := I.hok.fresh hT
  have nit : ∀ b u, H b = some u → b ∉ ch := fun b u e z => by
    have q := (hf b z).1
    rw [q] at e; cases e
  refine I.step (g' := s.gens) (d' := s.drawn) (ch := ch) (fun b hb => ⟨(hf b hb).2.2.2.1, (hf b hb).2.1, (hf b hb).2.2.2.2.1, (hf b hb).2.2.2.2.2⟩) (fun b o _ _ hc e _ => k b o hc e) (fun b o _ _ hc e _ => ⟨o.slots, k b o hc e⟩)
    (fun b o _ e n => ?_) (fun b o hc e => ⟨o, k b o hc e⟩) (fun b xs e => ?_) (fun b o u e => ?_) (fun b ps e => ⟨#[], ?_⟩) (fun m hm => ?_) (fun b u e => ?_) I.bare
  · rw [upd_ne (Nat.ne_of_lt (Nat.lt_of_lt_of_le (Heap.lt_size e) hT))]; exact n
  · rw [upd_ne (ne_of_none e hn)]; exact e
  · rw [upd_ne (ne_of_none e hn)]; exact e
  · rw [upd_ne (ne_of_none e hn), e]; simp
  · obtain ⟨o, es, ep, ho, r⟩ := hm
    exact ⟨o, es, ep, k _ o (fun z => (hf _ z).2.1 rfl) ho, r⟩
  · by_cases hb : b = T
    · subst hb
      rw [upd_same] at e
      cases e
      exact new
    · rw [upd_ne hb] at e
      refine (I.hok b u e).stay (fun c v hc q => k c v ?_ q) (fun c q => by rw [upd_ne (ne_of_none q hn)]; exact q) fun c xs q => by rw [upd_ne (ne_of_none q hn)]; exact q
      rcases hc with z | z
      · rw [z]; exact nit b u e
      · exact nit c _ z

end
section
variable {X : Cx}
theorem pi_one {tg : Expr} {pins : List (Addr × Obj)} {σ : St} {H : Hp} {s : Shared} {R : It → Hp → Prop} {J : It} {tn : Nat → Heap → Prop} {tk : Nat} (I : Inv X pins σ H s) (o : Obj)
    (T : Turn X.prog X.w X.K tg J [s.heap.objs.size] s.heap.objs.size tn) (st : tn 0 (s.heap.push o)) (q : R J H) : PIE X pins σ tg R (.ref s.heap.objs.size) { s with heap := s.heap.push o, toks := tk } := by
  refine ⟨s.heap.objs.size, [s.heap.objs.size], tn, J, H, rfl, I.kept fun b ob e => Heap.get?_push_of_some _ e, T, st, fun b hb => ?_, q⟩
  have e : b = s.heap.objs.size := by simpa using hb
  subst e
  exact I.fpOk (Nat.le_refl _) (I.hok.fresh (Nat.le_refl _))
end

def Itc (lo c : Int) (n : Nat) : It := ⟨fun i _ => i < n, fun i H x H' => H' = H ∧ x = .int (lo + (i : Nat) * c), fun i _ => n ≤ i⟩
theorem turn_rangeC {P : Program} {w : World} {K : PySem.W.Frag} {tg : Expr} (it : Addr) (lo c : Int) (n : Nat) : Turn P w K tg (Itc lo c n) [it] it (fun i h => IsRangeIter h it (lo + (i : Nat) * c) ((n : Int) - (i : Nat)) c) where
  mem := by simp
  obj := fun i h st b hb => by
    have e : b = it := by simpa using hb
    subst e
    exact ⟨_, st, fun v z => nomatch z⟩
  keep := fun i h h' st k => k it (by simp) _ st
  item := by
    intro X hP hw hK hc i pins s σ H E I hf st hg
    subst hP hw hK
    obtain ⟨f0, f1, f2, f3, f4, f5⟩ := hf it (by simp)
    have W := Walks.range (prog := X.prog) (w := X.w) (I.ok.hd hc) it lo c n
    refine W.item i s _ _ hg st fun v h' tk hv st' kk => ?_
    obtain ⟨t, rfl⟩ := hv
    have I1 : Inv X pins σ H { s with heap := h', toks := tk } := I.turned (fun b o hb e => kk b o (by simpa using hb) e) f0 f1 f3 f4 f5
    exact ⟨_, rfl, go_of (s := { s with heap := h', toks := tk }) (n := "range_iterator") st' rfl rfl (by decide) ⟨.int (lo + (i : Nat) * c), H, I1, ⟨t, rfl⟩, ⟨rfl, rfl⟩, st', fun b hb => (hf b hb).1⟩⟩
  done := by
    intro X hP hw hK hc i pins s σ H E I hf st hg
    subst hP hw hK
    obtain ⟨f0, f1, f2, f3, f4, f5⟩ := hf it (by simp)
    exact wpAny_pyNext_range_end (I.ok.hd hc) st (by have : n ≤ i := hg; omega) fun h' eb => ⟨rfl, I.turned (t' := s.toks) (fun b o hb e => eb b o hb e) f0 f1 f3 f4 f5⟩
  self := fun A i s Q E st h => wpAny_pyIter_rangeiter st h
def RgC (i j c : Int) (n : Nat) : Prop := c ≠ 0 ∧ c.natAbs < 1073741824 ∧ Builtin.Range.small i j c = true ∧ Builtin.Range.rangeSize i j c = n
theorem RgC.neg {i j : Int} (ha : -(2 ^ 62) ≤ i) (ha' : i < 2 ^ 62) (hb : -(2 ^ 62) ≤ j) (hb' : j < 2 ^ 62) : RgC i j (-1) (i - j).toNat :=
  ⟨by decide, by decide, PySem.W.small_down ha ha' hb hb', PySem.W.rangeSize_downNat i j⟩
def iRng3 (ta : TA) : TI := fun σ H R => ta σ H fun vs H1 => ∃ (i j c : Int) (n : Nat), vs = [.int i, .int j, .int c] ∧ RgC i j c n ∧ R (Itc i c n) H1
section
variable {X : Cx} {tg : Expr}
theorem pi_range3 {a b c : Expr} {ta : TA} {p pos : Pos} (hg : Gl X "range") (hm : X.mg "range" = none) (ha : PA X [a, b, c] ta)
    (hs : starEach [a, b, c] X.env = (false, eval a X.env) :: starEach [b, c] X.env := by rfl) (hpl : (backTo pos (starEach [b, c] X.env)).any (·.1) = false := by rfl) :
    PI X tg (.Call (.Name "range" p) [a, b, c] [] pos) (iRng3 ta) := by
  intro pins s σ H R I h
  refine Call_ (ld_blt I hg hm boot_range (PyProof.Rows.callWith_type1 (thn (ha pos pins s σ H _ I h) fun us s1 ⟨vs, H1, I1, r1, q1⟩ => ?_) hs hpl))
  obtain ⟨i, j, k, n, e, ⟨c0, c1, c2, c3⟩, q⟩ := q1
  subst e
  cases r1 with
  | cons r rr =>
    cases rr with
    | cons r' rr =>
      cases rr with
      | cons r'' rr =>
        cases rr
        obtain ⟨t, rfl⟩ := r
        obtain ⟨t', rfl⟩ := r'
        obtain ⟨t'', rfl⟩ := r''
        refine call_range_3 c0 ?_ (.inl (PyProof.noPylong_small c1))
        refine wpAny_pyIter_range (IsRange.new ..) c2 ?_
        have I2 : Inv X pins σ H1 { s1 with heap := s1.heap.push { cls := .type "range", data := .fields #[.int i t, .int j t', .int k t''] } } := I1.kept (t' := s1.toks) fun b o e => Heap.get?_push_of_some _ e
        refine pi_one (tk := s1.toks) I2 _ (turn_rangeC _ i k n) ?_ q
        have e1 : i + ((0 : Nat) : Int) * k = i := by simp
        have e2 : (n : Int) - ((0 : Nat) : Int) = Builtin.Range.rangeSize i j k := by rw [c3]; simp
        show IsRangeIter _ _ (i + ((0 : Nat) : Int) * k) ((n : Int) - ((0 : Nat) : Int)) k
        rw [e1, e2]
        exact Heap.get?_push_size _ rfl
end
section
variable {X : Cx} {tg : Expr}
end

section
variable {prog : Program} {w : World} {A : Around} {E : Value → Shared → Prop} {s : Shared}
end

section
variable {X : Cx} {pins : List (Addr × Obj)} {σ : St} {H : Hp} {s : Shared} {d : Addr} {o : Obj}
end

section
variable {P : Program} {w : World} {K : PySem.W.Frag} {tg : Expr} {d : Addr} {o : Obj} {es : Array DictEntry} {ep : Nat}
end

section
variable {X : Cx} {tg e : Expr} {td : TE} {apos cpos : Pos}
end

theorem boot_zip5 : bootBuiltins "zip" = some (.type "zip") := by decide +kernel
def Itz (K : PySem.W.Frag) (a b : Addr) : It :=
  ⟨fun i H => ∃ (xs ys : List V) (x y : V), SqL K H a xs ∧ SqL K H b ys ∧ xs[i]? = some x ∧ ys[i]? = some y,
    fun i H v H' => ∃ T x y, v = .ref T ∧ H T = none ∧ H' = upd H T (.tup [x, y]) ∧ (∀ xs, SqL K H a xs → xs[i]? = some x) ∧ ∀ ys, SqL K H b ys → ys[i]? = some y,
    fun i H => ∃ xs ys : List V, SqL K H a xs ∧ SqL K H b ys ∧ (xs.length ≤ i ∨ ys.length ≤ i)⟩
theorem turn_zip {P : Program} {w : World} {K : PySem.W.Frag} {elts : List Expr} {kk : Nat} {tpos : Pos} {a b z TI TO i1 i2 : Addr} (D : ZipApart z TI TO i1 i2 a b) :
    Turn P w K (.Tuple elts kk tpos) (Itz K a b) [z, TI, TO, i1, i2] z (fun i h => IsZip h z TI TO .none ∧ IsPair h TI (.ref i1) (.ref i2) ∧ (∃ x y, IsPair h TO x y) ∧ h.IsListIter i1 a i ∧ h.IsListIter i2 b i) where
  mem := by simp
  obj := fun i h st c hc => by
    obtain ⟨hz, hTI, ⟨x, y, hTO⟩, ⟨o1, e1, _, d1⟩, ⟨o2, e2, _, d2⟩⟩ := st
    have e' : c = z ∨ c = TI ∨ c = TO ∨ c = i1 ∨ c = i2 := by simpa using hc
    rcases e' with q | q | q | q | q
    · rw [q]; exact ⟨_, hz, fun v q => nomatch q⟩
    · rw [q]; exact ⟨_, hTI, fun v q => nomatch q⟩
    · rw [q]; exact ⟨_, hTO, fun v q => nomatch q⟩
    · rw [q]; exact ⟨o1, e1, fun v q => by rw [d1] at q; cases q⟩
    · rw [q]; exact ⟨o2, e2, fun v q => by rw [d2] at q; cases q⟩
  keep := fun i h h' st k => by
    obtain ⟨hz, hTI, ⟨x, y, hTO⟩, h1, h2⟩ := st
    exact ⟨k z (by simp) _ hz, k TI (by simp) _ hTI, ⟨x, y, k TO (by simp) _ hTO⟩, h1.at fun o q => k i1 (by simp) o q, h2.at fun o q => k i2 (by simp) o q⟩
  item := by
    intro X hP hw hK hc i pins s σ H E I hf st hg
    subst hP hw hK
    obtain ⟨hz, hTI, ⟨x0, y0, hTO⟩, h1, h2⟩ := st
    obtain ⟨xs, ys, x, y, hqx, hqy, hx, hy⟩ := hg
    obtain ⟨its, rv, p, _⟩ := I.list hqx
    obtain ⟨its2, rv2, p2, _⟩ := I.list hqy
    obtain ⟨u, hu, ru⟩ := rv.get hx
    obtain ⟨u2, hu2, ru2⟩ := rv2.get hy
    have hzl : z < s.heap.objs.size := Heap.lt_size hz
    refine wpAny_pyNext_zip_item D hz hTI hTO h1 h2 p.isList p2.isList (x := u) (y := u2) (by simpa using hu) (by simpa using hu2) fun h' z' TO' h1' h2' hT hsz hk => ?_
    refine ⟨_, rfl, wpAny_letOwnedTupleGo_zip (s := { s with heap := h' }) z' fun h'' z'' sb => ?_⟩
    have hT2 : h''.get? s.heap.objs.size = some { cls := .type "tuple", data := .seq #[u, u2] } := (sb.2 _ (Nat.ne_of_gt hzl)).trans hT
    have new : ObjOk X.prog X.w (upd H s.heap.objs.size (.tup [x, y])) h'' s.heap.objs.size (.tup [x, y]) :=
      ⟨by show 2 ≤ sizeLine; decide, [u, u2], .cons ru (.cons ru2 .nil), ⟨_, hT2, rfl, _, rfl⟩⟩
    have I1 : Inv X pins σ (upd H s.heap.objs.size (.tup [x, y])) { s with heap := h'' } :=
      I.turnedNew (t' := s.toks) (ch := [z, TI, TO, i1, i2]) (fun c o hb q => (sb.2 c (fun q' => hb (by simp [q']))).trans (hk c o (fun q' => hb (by simp [q'])) (fun q' => hb (by simp [q'])) (fun q' => hb (by simp [q'])) (fun q' => hb (by simp [q'])) q)) hf (Nat.le_refl _) new
    refine ⟨.ref s.heap.objs.size, _, I1, rfl, ⟨_, x, y, rfl, I.hok.fresh (Nat.le_refl _), rfl, fun l hl => by rw [I.list_inj hl hqx]; exact hx, fun l hl => by rw [I.list_inj hl hqy]; exact hy⟩, ⟨z'', ?_, ⟨u, u2, ?_⟩, ?_, ?_⟩, fun c hcm => ?_⟩
    · exact (sb.2 _ D.TIz).trans (hk _ _ D.TIz D.TITO D.TIi1 D.TIi2 hTI)
    · exact (sb.2 _ D.TOz).trans TO'
    · exact h1'.at fun o q => (sb.2 _ D.i1z).trans q
    · exact h2'.at fun o q => (sb.2 _ D.i2z).trans q
    · have hlt : c < s.heap.objs.size := by
        have e' : c = z ∨ c = TI ∨ c = TO ∨ c = i1 ∨ c = i2 := by simpa using hcm
        rcases e' with q | q | q | q | q
        · rw [q]; exact hzl
        · rw [q]; exact Heap.lt_size hTI
        · rw [q]; exact Heap.lt_size hTO
        · rw [q]; obtain ⟨_, e1, _⟩ := h1; exact Heap.lt_size e1
        · rw [q]; obtain ⟨_, e2, _⟩ := h2; exact Heap.lt_size e2
      rw [upd_ne (Nat.ne_of_lt hlt)]
      exact (hf c hcm).1
  done := by
    intro X hP hw hK hc i pins s σ H E I hf st hg
    subst hP hw hK
    obtain ⟨hz, hTI, ⟨x0, y0, hTO⟩, h1, h2⟩ := st
    obtain ⟨xs, ys, hqx, hqy, hend⟩ := hg
    obtain ⟨its, rv, p, _⟩ := I.list hqx
    obtain ⟨its2, rv2, p2, _⟩ := I.list hqy
    have l1 := rv.length
    have l2 := rv2.length
    have he : its.toArray[i]? = none ∨ its2.toArray[i]? = none := by
      rcases hend with q | q
      · exact .inl (by simp; omega)
      · exact .inr (by simp; omega)
    exact wpAny_pyNext_zip_end (I.ok.hd hc) D hz hTI hTO h1 h2 p.isList p2.isList he fun h' hk => ⟨rfl, I.turnedL (t' := s.toks) (ch := [z, TI, TO, i1, i2]) (fun c o hb q =>
      hk c o (fun q' => hb (by simp [q'])) (fun q' => hb (by simp [q'])) (fun q' => hb (by simp [q'])) (fun q' => hb (by simp [q'])) q) hf⟩
  self := fun A i s Q E st h => wpAny_pyIter_zip st.1 h
end L2

section 
namespace Bits
open PySem PyProof.Rows

end Bits
end 

section 
namespace TL
open PySem PySem.Builtin PySem.Builtin.Str PySem.StrLaws

abbrev tl (x : Str) : List Nat := x.cps.toList
def pre (S l : List Nat) : Bool := l.take S.length == S
def par (S : List Nat) : List Nat → List Nat → Option (List Nat × List Nat)
  | _, [] => none
  | acc, c :: r => if pre S (c :: r) = true then some (acc, (c :: r).drop S.length) else par S (acc ++ [c]) r

end TL
end 

namespace L2
open PySem PySem.Spec PyProof.Rows

section
variable {X : Cx} {pins : List (Addr × Obj)} {σ : St} {H : Hp} {s : Shared} {Q : VK}
end

section
variable {X : Cx}

end

section
variable {X : Cx} {o e : Expr} {to te : TE}
end
end L2

namespace L2
open PySem PySem.Spec PyProof.Rows

section
variable {X : Cx}
end

def cutS (z : Str) (lo hi : Option Int) : Str :=
  ⟨((z.cps.toList.drop (HT.sIx z.length 0 lo)).take (HT.sIx z.length z.length hi - HT.sIx z.length 0 lo)).toArray⟩
end L2

namespace Att
open PySem PySem.W PySem.Calls PyProof.Rows

theorem ints_of_wellAll {P : Params} {h : Heap} : ∀ (ns : List Int) (vs : List Value), WellAll P h vs (ns.map WData.int) → IntsAre vs ns := by
  intro ns
  induction ns with
  | nil =>
    intro vs w
    rw [List.map_nil] at w
    cases w
    exact .nil
  | cons n ns ih =>
    intro vs w
    rw [List.map_cons] at w
    cases w with
    | cons a b =>
      cases a
      exact .cons _ _ (ih _ b)

theorem script_of {l : OpenLaw} {n : Nat} (hn : l.most = some n) {P : Params} {h : Heap} {args : List WData} {vals : List Value}
    (hpre : l.row.toRowW.claim.pre args = true) (hwl : WellAll P h vals args) :
    ∃ a vs ns, vals = [Value.ref a] ∧ args = [WData.list (ns.map WData.int)] ∧ h.get? a = some { cls := .type "list", data := .seq vs.toArray } ∧ IntsAre vs ns ∧ ns.length ≤ n := by
  have hsh : WShape.hasAll [] args [.list .int] = true := (pre_splitW hpre).1
  have hc : l.pre.holds [] { args := args } = true := (pre_splitW hpre).2
  obtain ⟨d, r, rfl, h1, h2⟩ := hasAllW_cons hsh
  obtain rfl := hasAllW_nil h2
  obtain ⟨xs, rfl, h3⟩ := hasW_list h1
  obtain ⟨ns, rfl⟩ := items_int h3
  have hlen : ns.length ≤ n := by
    unfold OpenLaw.pre at hc
    have h4 : (WTm.not (.lt (.lit (.int (n : Int))) (.len (.arg 0)))).holds [] { args := [.list (ns.map .int)] } = true := by
      have h4 := (holds_andW hc).1
      rw [hn] at h4
      exact h4
    have h5 := condW_of h4 (w_not (w_lt w_lit (w_len_list (w_arg rfl))))
    rw [List.length_map] at h5
    refine Nat.le_of_not_lt fun q => ?_
    have q' : (n : Int) < ((ns.length : Nat) : Int) := by omega
    first
      | (rw [decide_eq_true q'] at h5; exact absurd h5 (by decide))
      | (simp at h5; omega)
  cases hwl with
  | cons w1 w2 =>
    cases w2
    cases w1 with
    | list ho hall => exact ⟨_, _, ns, rfl, rfl, ho, ints_of_wellAll ns _ hall, hlen⟩

theorem post_true (l : OpenLaw) (args : List WData) : l.row.toRowW.claim.post args (.bool true) args = true :=
  postW_of (r := l.row.toRowW) (X := (true == true))
    (show WShape.has [] (.bool true) .bool = true by first | rfl | decide | simp [WShape.has, WShape.arms, WShape.armsAll])
    (show (WTm.eq .res (.lit (.bool true))).value [] { args := args, res := some (.bool true), after := args } = some (.bool (true == true)) from w_eq_bool (w_res rfl) w_lit) rfl

theorem attach_call {l : OpenLaw} {n : Nat} {q : Program} {loose : List Str} {XP : (Str → Option Value) → Heap → Prop} {YP : World → Heap → Prop} {d : DefRec}
    (hn : l.most = some n) (hdf : d.params.defaults = [])
    (call : ∀ (w : World) (s₀ s₁ : Shared) (mg mb : Str → Option Value) (fa : Addr) (o : Obj) (pm cd doc : Value) (a : Addr) (vs : List Value) (ns : List Int),
      Ground q loose [] XP w s₀ mg mb s₁.heap → YP w s₁.heap →
      s₁.heap.get? fa = some o → o.data = .func (docDef d.name d.params d.body d.scope pm cd doc) → s₁.heap.CodeRec cd d.name → mg d.name = some (.ref fa) →
      s₁.heap.get? a = some { cls := .type "list", data := .seq vs.toArray } → IntsAre vs ns → ns.length ≤ n → s₁.gens = #[] →
      codeAny (model l.prog w) callerA (.call (.ref fa) ⟨[.ref a], []⟩) (fun r s' => r = .ok (.ret (.bool true)) ∧ OldK s₁.heap s'.heap ∧ s'.os = s₁.os ∧ AllBare s'.gens) s₁) :
    WalkO q loose XP YP l.row.toRowW d [] (fun f vs => PySem.call f vs) := by
  intro w s₀ s₁ mg mb G Y fa o pm cd doc dV kV ho hd hcd hD hmg hg args vals as hpre hlay hrd hwl hlo
  obtain rfl : dV = .none := Dflts.none hD hdf
  obtain rfl : kV = .none := Dflts.noKw hD
  obtain ⟨a, vs, ns, rfl, rfl, hobj, hints, hlen⟩ := script_of hn hpre hwl
  refine enter_call (codeAny_mono (call w s₀ s₁ mg mb fa o pm cd doc a vs ns G Y ho (fd_plain hd) hcd hmg hobj hints hlen hg) fun r s' hq => ?_)
  obtain ⟨rfl, h2, h3, h4⟩ := hq
  exact ⟨.inl ⟨.bool true, .bool true, [], rfl, fun _ => rfl, .bool true, post_true l _, fun _ => ⟨List.Pairwise.nil, fun _ hm => (nomatch hm)⟩⟩, h2, h3, h4⟩

section
variable {prog : Program} {w : World} {A : Around} {E : Value → Shared → Prop} {s : Shared} {K : Frag}

end
end Att

namespace L2
open PySem PySem.Spec PyProof.Rows

theorem vals_ints : ∀ {vs : List Value} {ns : List Int}, IntsAre vs ns → Vals (ns.map V.int) vs
  | _, _, .nil => .nil
  | _, _, .cons n t h => .cons ⟨t, rfl⟩ (vals_ints h)

end L2

namespace L2
open PySem PySem.Spec PyProof.Rows

end L2


namespace L2
open PySem PySem.Spec PyProof.Rows

def defArgs (s : Stmt) : Arguments := match s with
  | .FunctionDef _ a _ _ _ _ _ _ _ _ => a
  | _ => { posonlyargs := [], args := [], vararg := none, kwonlyargs := [], kw_defaults := [], kwarg := none, defaults := [] }
def defBody (s : Stmt) : List Stmt := match s with
  | .FunctionDef _ _ b _ _ _ _ _ _ _ => b
  | _ => []
def defScope (s : Stmt) : Scope := match s with
  | .FunctionDef _ _ _ _ _ _ sc _ _ _ => sc
  | _ => { kind := .function, names := [], isGenerator := false, isCoroutine := false }

abbrev CX0 : CXT := fun _ _ _ _ _ _ => False
abbrev E0 : XK := fun _ _ _ => False
theorem pass0 {X : Cx} : Passes CX0 X E0 := fun _ _ _ _ _ _ _ h => h.elim

structure Fun (K : PySem.W.Frag) (x qual : Str) (st : Stmt) (f : Addr) (fd : FuncData) : Prop where
  ex : ∃ (oc : Value) (od : Option Addr) (kV doc pm : Value) (an : Option Addr) (cdv ct : Value) (osl : Array (Option Value)),
    fd = PySem.W.fnOf x qual (defArgs st) (defBody st) (defScope st) .none kV doc pm an cdv ct ∧ K.lookup f = some ⟨oc, od, .func fd, osl⟩ ∧ PySem.W.codeIn K cdv qual = true
  kp : PySem.W.keepIn K (.ref f) = true
section
variable {P : Program} {w : World} {K : PySem.W.Frag} {mg : Str → Option Value} {base : Heap}
theorem Fun.ok {x qual : Str} {st : Stmt} {f : Addr} {fd : FuncData} {N ps : List Str} {k : Nat} {sp : Sp} (F : Fun K x qual st f fd) (S : FnScope N ps (defScope st)) (len : ∀ vs H Q E, sp vs H Q E → vs.length = ps.length)
    (hbody : ∀ (cdv : Value) (A : Around) (outer : List Env) (s : Shared) (H : Hp) (vs : List V) (Q : VK) (E : XK), Room k (A.deeper (envOfC qual (defScope st) s.heap.objs.size f cdv)) → sp vs H Q E →
      ∃ t, PSs (cxOf CX0 P w K mg base N qual (defScope st) f cdv A outer s H E).nox (defBody st) t ∧ t { nx := fun _ H' => Q .non H', rt := Q } (start N vs) H) : FnOk P w K mg base CX0 (k + 1) f fd ps sp := by
  obtain ⟨oc, od, kV, doc, pm, an, cdv, ct, osl, rfl, lk, hcd⟩ := F.ex
  refine fn_of lk hcd S len fun A outer s H vs Q E hr hsp => ?_
  obtain ⟨t, h, q⟩ := hbody cdv A outer s H vs Q E hr hsp
  exact ⟨t, h.nox, q⟩
theorem Fun.binds {x qual : Str} {st : Stmt} {f : Addr} {fd : FuncData} {ps : List Str} (F : Fun K x qual st f fd)
    (h : ∀ (kV doc pm : Value) (an : Option Addr) (cdv ct : Value) (us : List Value), us.length = ps.length → bindArgs (PySem.W.fnOf x qual (defArgs st) (defBody st) (defScope st) .none kV doc pm an cdv ct) ⟨us, []⟩ = pure (ps.zip us)) : Binds K fd ps [] := by
  obtain ⟨oc, od, kV, doc, pm, an, cdv, ct, osl, rfl, lk, hcd⟩ := F.ex
  exact .all (h kV doc pm an cdv ct)
theorem fun_mk {x qual : Str} {st : Stmt} {f : Addr} {oc : Value} {od an : Option Addr} {osl : Array (Option Value)} {kV doc pm cdv ct : Value} (l : K.lookup f = some ⟨oc, od, .func (PySem.W.fnOf x qual (defArgs st) (defBody st) (defScope st) .none kV doc pm an cdv ct), osl⟩)
    (c : PySem.W.codeIn K cdv qual = true) (k : PySem.W.keepIn K (.ref f) = true) : Fun K x qual st f (PySem.W.fnOf x qual (defArgs st) (defBody st) (defScope st) .none kV doc pm an cdv ct) := ⟨⟨oc, od, kV, doc, pm, an, cdv, ct, osl, rfl, l, c⟩, k⟩
end
section
variable {X : Cx}
theorem pv (i : Nat) {x : Str} {pos : Pos} (hN : X.N[i]? = some x := by rfl) (hv : Vis X.env.scope x := by first | exact Or.inl rfl | exact Or.inr (Or.inl rfl) | exact Or.inr (Or.inr rfl)) (hd : (x == ("__debug__" : Str)) = false := by decide)
    (hcd : (x == ("__classdict__" : Str)) = false := by decide) : PE X (.Name x pos) (tVar i) := pe_var hN hv hd hcd
end

theorem iteF {A B : Prop} (h : B) : if false = true then A else B := by
  rw [if_neg Bool.false_ne_true]
  exact h
theorem iteT {A B : Prop} (h : A) : if true = true then A else B := by
  rw [if_pos rfl]
  exact h
def Same (H H' : Hp) : Prop := ∀ b o, H b = some o → H' b = some o
theorem Same.refl (H : Hp) : Same H H := fun _ _ h => h
theorem Same.trans {H H1 H2 : Hp} (a : Same H H1) (b : Same H1 H2) : Same H H2 := fun c o h => b c o (a c o h)
theorem Same.free {H H' : Hp} (e : Same H H') {l : Addr} (h : H' l = Option.none) : H l = Option.none := by
  cases q : H l with
  | none => rfl
  | some o =>
    rw [e l o q] at h
    cases h
theorem Same.seq {K : PySem.W.Frag} {H H' : Hp} {a : Addr} {xs : List V} (e : Same H H') (h : SqL K H a xs) : SqL K H' a xs := by
  rcases h with (h | ⟨o, h⟩) | h
  · exact .inl (.inl (e _ _ h))
  · exact .inl (.inr ⟨o, e _ _ h⟩)
  · exact .inr h

section
variable {κ : Type} [DecidableEq κ]
end
theorem nd_ix {α : Type} {l : List α} (hN : l.Nodup) {i j : Nat} {x : α} (a : l[i]? = some x) (b : l[j]? = some x) : i = j := by
  obtain ⟨h1, e1⟩ := List.getElem?_eq_some_iff.mp a
  obtain ⟨h2, e2⟩ := List.getElem?_eq_some_iff.mp b
  exact (List.getElem_inj hN).mp (e1.trans e2.symm)
theorem Same.made {H H1 : Hp} {x dx C : Addr} (nx : H x = Option.none) (nd : H dx = Option.none) (k : ∀ b o, (upd (upd H dx (.own x)) x (.ins C dx [])) b = some o → b ≠ x → H1 b = some o) : Same H H1 := fun b o e =>
  k b o (by rw [upd_ne (ne_of_none e nx), upd_ne (ne_of_none e nd)]; exact e) (ne_of_none e nx)
end L2

end
section
set_option Elab.async false
set_option linter.all false
set_option maxRecDepth 100000
set_option maxHeartbeats 1000000
namespace Gn
open PySem PySem.Spec PyProof.Rows L2
abbrev genX (X : Cx) (A' : Around) (s : Shared) (H : Hp) (cenv : Env) (fp : List Addr) : Cx :=
  { X with A := A', s_0 := s, H_0 := H, env := cenv, outer := X.stack, stack := cenv :: X.stack, ex := fp, fn := fun _ => false, calm := true, pn := [], xe := fun _ _ => False }
section
variable {X : Cx} {pins : List (Addr × Obj)} {σ : L2.St} {H : Hp} {s : Shared}
end
end Gn

end
section
set_option Elab.async false
set_option linter.all false
set_option maxRecDepth 100000
set_option maxHeartbeats 1000000
namespace Gn
open PySem PySem.Spec PyProof.Rows L2
section
variable {X : Cx} {s : Shared} {H : Hp} {cenv : Env} {fp : List Addr} {P : List (Addr × Obj)} {σ : L2.St} {H' : Hp} {s' : Shared}
theorem around {A1 A2 : Around} (I : Inv (genX X A1 s H cenv fp) P σ H' s') (h1 : A2.handled = none) (h2 : A2.frames = some (cenv :: X.stack)) : Inv (genX X A2 s H cenv fp) P σ H' s' :=
  ⟨⟨I.ok.mod, I.ok.kind, I.ok.glob, I.ok.blt, I.ok.above, I.ok.inj, I.ok.has, I.ok.cab, fun _ => h1, h2, I.ok.stk, I.ok.exf, I.ok.bs, I.ok.bsz, I.ok.noex, I.ok.exfs, I.ok.funs, I.ok.frf⟩,
    I.os, I.bare, I.base, I.loc, I.cell, I.free, I.freeC, I.pin, I.hok, I.len⟩
theorem gens_inv {Y : Cx} {g' : Array GenState} (I : Inv Y P σ H' s') (h : AllBare g') : Inv Y P σ H' { s' with gens := g' } :=
  ⟨I.ok, I.os, h, I.base, I.loc, I.cell, I.free, I.freeC, I.pin, I.hok, I.len⟩
theorem bare_set {gs : Array GenState} {g : Nat} {x : GenState} (h : AllBare gs) (hx : x.bare = true) : AllBare (gs.setIfInBounds g x) := fun y hy => by
  obtain ⟨i, hi, rfl⟩ := Array.mem_iff_getElem.mp hy
  have hi' : i < gs.size := by simpa using hi
  by_cases e : g = i
  · subst e
    rw [Array.getElem_setIfInBounds_self]; exact hx
  · rw [Array.getElem_setIfInBounds_ne hi' e]
    exact h _ (Array.getElem_mem hi')
theorem setGen_inv {Y : Cx} {g : Nat} {x : GenState} (I : Inv Y P σ H' s') (hx : x.bare = true) : Inv Y P σ H' (s'.setGen g x) := gens_inv I (bare_set I.bare hx)
end
structure Gd where
  X : Cx
  A0 : Around
  s : Shared
  H : Hp
  cenv : Env
  fp : List Addr
  it : Addr
  tn : Nat → Heap → Prop
  J : It
  a : Addr
  og : Obj
  g : Nat
  σ : L2.St
  ix : Nat
  N : Nat
  b : Nat → Bool
  Φ : Nat → Hp → Prop
def Gd.cx (G : Gd) (A : Around) : Cx := genX G.X A G.s G.H G.cenv G.fp
structure Gd.C (G : Gd) (i : Nat) (H' : Hp) (s' : Shared) : Prop where
  inv : Inv (genX G.X G.A0 G.s G.H G.cenv G.fp) [(G.a, G.og)] (wipe G.σ [G.ix]) H' s'
  st : G.tn i s'.heap
  fr : ∀ b ∈ G.fp, H' b = none
  phi : G.Φ i H'
  sz : G.g < s'.gens.size
structure Gd.D (G : Gd) (H' : Hp) (s' : Shared) : Prop where
  inv : Inv (genX G.X G.A0 G.s G.H G.cenv G.fp) [(G.a, G.og)] (wipe G.σ [G.ix]) H' s'
  phi : G.Φ G.N H'
  sz : G.g < s'.gens.size
def Gd.Y (G : Gd) : Protocol := fun n s₀ v s₁ κ => ∃ i H1, n + i + 1 = G.N ∧ v = .bool (G.b i) ∧ G.C (i + 1) H1 s₁ ∧ ∀ H2 s₂, G.C (i + 1) H2 s₂ → κ (.send .none) s₂
def Gd.P (G : Gd) : Nat → Shared → Shared → Prop := fun n _ s₁ => n = 0 ∧ ∃ H1, G.D H1 s₁
section
variable {G : Gd} {x : Str} {px pos : Pos} {elt iter : Expr} {scope : Scope} {te : TE} {k : Nat} {A : Around}
end
end Gn

end
section
set_option Elab.async false
set_option linter.all false
set_option maxRecDepth 100000
set_option maxHeartbeats 1000000
namespace Gn
open PySem PySem.Spec PyProof.Rows L2
structure Gd.At (G : Gd) (A : Around) (i : Nat) (H' : Hp) (s' : Shared) : Prop where
  c : G.C i H' s'
  gs : ∃ gs, s'.gens[G.g]? = some gs ∧ ∀ H2 s2, G.C i H2 s2 → gs.Goes (model G.X.prog G.X.w) A.in1 (fun n s₀ r s₁ => r = .ok .next ∧ G.P n s₀ s₁) G.Y (G.N - i) (.send .none) s2
section
variable {G : Gd} {A : Around} {i : Nat} {H' : Hp} {s' : Shared} {E : Value → Shared → Prop} {nm qn : Value}
theorem Gd.C.set (c : G.C i H' s') {x : GenState} (hx : x.bare = true) : G.C i H' (s'.setGen G.g x) :=
  ⟨setGen_inv c.inv hx, c.st, c.fr, c.phi, by have := c.sz; simpa [Shared.setGen] using this⟩
theorem Gd.C.isGen (c : G.C i H' s') (hog : G.og = { cls := .type "generator", data := .fields #[.int G.g 0, nm, qn] }) : s'.heap.IsGen G.a G.g := by
  have z := (c.inv.pin (G.a, G.og) (by simp)).1
  exact ⟨G.og, nm, qn, z, by rw [hog], by rw [hog], by rw [hog]⟩
theorem next_item (hog : G.og = { cls := .type "generator", data := .fields #[.int G.g 0, nm, qn] }) (hh : A.handled = none) (hroom : A.depth < recursionLimit) (h : G.At A i H' s') (hi : i < G.N) :
    wpAny (model G.X.prog G.X.w) A (pyNext (.ref G.a)) (fun r s1 => ∃ H1, r = some (.bool (G.b i)) ∧ G.At A (i + 1) H1 s1) E s' := by
  obtain ⟨gs, hgs, hgo⟩ := h.gs
  obtain ⟨m, hm⟩ : ∃ m, G.N - i = m + 1 := ⟨G.N - i - 1, by omega⟩
  rw [hm] at hgo
  refine wpAny_pyNext_genexpQ (P := G.P) hh h.c.inv.nolimit hroom (h.c.isGen hog) hgs (hgo H' _ (h.c.set rfl)) (fun v s₁ gs' hb hv => ?_) (fun s₁ hp h' hk => ?_)
  · obtain ⟨j, H1, e1, e2, C1, kap⟩ := hv
    have ej : j = i := by omega
    subst ej
    subst e2
    refine ⟨H1, rfl, C1.set hb, gs', ?_, fun H2 s2 C2 => ?_⟩
    · show (s₁.gens.setIfInBounds G.g gs')[G.g]? = some gs'
      simp [C1.sz]
    · have e : G.N - (j + 1) = m := by omega
      rw [e]
      exact kap H2 s2 C2
  · exact absurd hp.1 (Nat.succ_ne_zero m)
def Gd.F (G : Gd) (j : Nat) (H1 : Hp) (s1 : Shared) : Prop := Inv (genX G.X G.A0 G.s G.H G.cenv G.fp) [(G.a, G.og)] (wipe G.σ [G.ix]) H1 s1 ∧ G.Φ j H1
end
end Gn

end
section
set_option Elab.async false
set_option linter.all false
set_option maxRecDepth 100000
set_option maxHeartbeats 1000000
namespace Gn
open PySem PySem.Spec PyProof.Rows L2
section
variable {X : Cx} {pins : List (Addr × Obj)} {σ : L2.St} {H : Hp} {s : Shared}
end
end Gn

end
section
set_option Elab.async false
set_option linter.all false
set_option maxRecDepth 100000
set_option maxHeartbeats 1000000
namespace Gt
open PySem PySem.Spec PyProof.Rows L2 Gn
structure Gt where
  X : Cx
  A0 : Around
  s : Shared
  H : Hp
  cenv : Env
  fp : List Addr
  it : Addr
  tn : Nat → Heap → Prop
  J : It
  a : Addr
  og : Obj
  g : Nat
  σ : L2.St
  ix : Nat
  N : Nat
  Ψ : Nat → V → Hp → Prop
  Φ : Nat → Hp → Prop
def Gt.cx (G : Gt) (A : Around) : Cx := genX G.X A G.s G.H G.cenv G.fp
structure Gt.C (G : Gt) (i : Nat) (H' : Hp) (s' : Shared) : Prop where
  inv : Inv (genX G.X G.A0 G.s G.H G.cenv G.fp) [(G.a, G.og)] (wipe G.σ [G.ix]) H' s'
  st : G.tn i s'.heap
  fr : ∀ b ∈ G.fp, H' b = none
  phi : G.Φ i H'
  sz : G.g < s'.gens.size
structure Gt.D (G : Gt) (H' : Hp) (s' : Shared) : Prop where
  inv : Inv (genX G.X G.A0 G.s G.H G.cenv G.fp) [(G.a, G.og)] (wipe G.σ [G.ix]) H' s'
  phi : G.Φ G.N H'
  sz : G.g < s'.gens.size
structure Gt.B (G : Gt) (i : Nat) (y : V) (H' : Hp) (s' : Shared) : Prop where
  inv : Inv (genX G.X G.A0 G.s G.H G.cenv G.fp) [(G.a, G.og)] (wipe G.σ [G.ix]) H' s'
  st : G.tn (i + 1) s'.heap
  fr : ∀ b ∈ G.fp, H' b = none
  psi : G.Ψ i y H'
  sz : G.g < s'.gens.size
def Gt.Y (G : Gt) : Protocol := fun n s₀ v s₁ κ => ∃ i H1 y, n + i = G.N ∧ i < G.N ∧ RelV y v ∧ G.B i y H1 s₁ ∧ ∀ H2 s₂, G.C (i + 1) H2 s₂ → κ (.send .none) s₂
def Gt.P (G : Gt) : Nat → Shared → Shared → Prop := fun n _ s₁ => n = 1 ∧ ∃ H1, G.D H1 s₁
section
variable {G : Gt} {x : Str} {px pos : Pos} {elt iter : Expr} {scope : Scope} {te : TE} {k : Nat} {A : Around}
end


structure Gt.At (G : Gt) (A : Around) (i : Nat) (H' : Hp) (s' : Shared) : Prop where
  c : G.C i H' s'
  gs : ∃ gs, s'.gens[G.g]? = some gs ∧ ∀ H2 s2, G.C i H2 s2 → gs.Goes (model G.X.prog G.X.w) A.in1 (fun n s₀ r s₁ => r = .ok .next ∧ G.P n s₀ s₁) G.Y (G.N - i + 1) (.send .none) s2
section
variable {G : Gt} {A : Around} {i : Nat} {H' : Hp} {s' : Shared} {E : Value → Shared → Prop} {nm qn : Value}
theorem Gt.C.set (c : G.C i H' s') {x : GenState} (hx : x.bare = true) : G.C i H' (s'.setGen G.g x) :=
  ⟨setGen_inv c.inv hx, c.st, c.fr, c.phi, by have := c.sz; simpa [Shared.setGen] using this⟩
theorem Gt.B.set {y : V} (c : G.B i y H' s') {x : GenState} (hx : x.bare = true) : G.B i y H' (s'.setGen G.g x) :=
  ⟨setGen_inv c.inv hx, c.st, c.fr, c.psi, by have := c.sz; simpa [Shared.setGen] using this⟩
theorem Gt.C.isGen (c : G.C i H' s') (hog : G.og = { cls := .type "generator", data := .fields #[.int G.g 0, nm, qn] }) : s'.heap.IsGen G.a G.g := by
  have z := (c.inv.pin (G.a, G.og) (by simp)).1
  exact ⟨G.og, nm, qn, z, by rw [hog], by rw [hog], by rw [hog]⟩
theorem next_item (hog : G.og = { cls := .type "generator", data := .fields #[.int G.g 0, nm, qn] }) (hh : A.handled = none) (hroom : A.depth < recursionLimit) (h : G.At A i H' s') (hi : i < G.N) :
    wpAny (model G.X.prog G.X.w) A (pyNext (.ref G.a)) (fun r s1 => ∃ H1 y v, r = some v ∧ RelV y v ∧ G.B i y H1 s1 ∧ ∃ gs, s1.gens[G.g]? = some gs ∧ ∀ H2 s2, G.C (i + 1) H2 s2 → gs.Goes (model G.X.prog G.X.w) A.in1 (fun n s₀ r s₁ => r = .ok .next ∧ G.P n s₀ s₁) G.Y (G.N - (i + 1) + 1) (.send .none) s2) E s' := by
  obtain ⟨gs, hgs, hgo⟩ := h.gs
  obtain ⟨m, hm⟩ : ∃ m, G.N - i = m + 1 := ⟨G.N - i - 1, by omega⟩
  rw [hm] at hgo
  refine wpAny_pyNext_genexpQ (P := G.P) hh h.c.inv.nolimit hroom (h.c.isGen hog) hgs (hgo H' _ (h.c.set rfl)) (fun v s₁ gs' hb hv => ?_) (fun s₁ hp h' hk => ?_)
  · obtain ⟨j, H1, y, e1, e0, e2, C1, kap⟩ := hv
    have ej : j = i := by omega
    subst ej
    refine ⟨H1, y, v, rfl, e2, C1.set hb, gs', ?_, fun H2 s2 C2 => ?_⟩
    · show (s₁.gens.setIfInBounds G.g gs')[G.g]? = some gs'
      simp [C1.sz]
    · have e : G.N - (j + 1) = m := by omega
      rw [e]
      exact kap H2 s2 C2
  · exact absurd hp.1 (by omega)
end
end Gt

end
section
set_option Elab.async false
set_option linter.all false
set_option maxRecDepth 100000
set_option maxHeartbeats 1000000
namespace Gt
open PySem PySem.Spec PyProof.Rows L2 Gn
open AutoSeq1 (wpAny_loadPart')
section
variable {G : Gt} {A : Around} {i : Nat} {H' : Hp} {s' : Shared} {E : Value → Shared → Prop} {nm qn : Value} {S : Addr} {tg : Expr}
end
end Gt

end
section
set_option Elab.async false
set_option linter.all false
set_option maxRecDepth 100000
set_option maxHeartbeats 1000000
namespace Gt
open PySem PySem.Spec PyProof.Rows L2 Gn
section
variable {X : Cx} {pins : List (Addr × Obj)} {σ : L2.St} {H : Hp} {s : Shared}
end
end Gt

end
section
set_option Elab.async false
set_option linter.all false
set_option maxRecDepth 100000
set_option maxHeartbeats 2000000
namespace Ex
open PySem PySem.Spec PyProof.Rows L2
open AutoSeq1 (wpAny_loadPart')
theorem noFill_tuple_mul : fillsNumberSlot (.type "tuple") "mul" = pure false :=
  PySem.fillsNumberSlot_seq (id := "tuple.__mul__") (r := some (.builtin "tuple.__rmul__")) PySem.F.slot_tuple_mul.lookup (by decide +kernel) PySem.F.slot_tuple_rmul.lookup (by decide +kernel)
theorem repeat_tuple : seqRepeat? (.type "tuple") = pure (some (.builtin "tuple.__mul__")) := by
  unfold seqRepeat?
  rw [PySem.seqSlot_of (T := "tuple") (name := "__mul__") (id := "tuple.__mul__") PySem.F.slot_tuple_mul.lookup (by decide +kernel), PySem.seqSlot_of (T := "tuple") (name := "__rmul__") (id := "tuple.__rmul__") PySem.F.slot_tuple_rmul.lookup (by decide +kernel)]
  rfl
theorem int_rmul_tuple (a : Int) (t : Tok) (l : Addr) (items : Array Value) (n : Nat) (dd : Option Addr) (sl : Array (Option Value)) :
    Meets (Builtin.«int.__rmul__» ⟨[.int a t, .ref l], []⟩) (fun _ R s => s.heap.get? l = some { cls := .type "tuple", dict := dd, data := .seq items n, slots := sl } ∧ R (.ok (.ret Value.notImplemented)) s) :=
  .of_wp fun prog w A R s h => by obtain ⟨hp, g, d, tk, os⟩ := s; obtain ⟨hl, h⟩ := h; wp_walk; exact ⟨_, rfl, h⟩
theorem tuple_mul0 (l : Addr) (items : Array Value) (n : Nat) (dd : Option Addr) (sl : Array (Option Value)) (x : Int) (u : Tok) (h1 : ¬ (decide (x < -(2 ^ 63)) || decide (x ≥ 2 ^ 63)) = true) (h2 : (items.isEmpty || x == 1) = true) :
    Meets (Builtin.«tuple.__mul__» ⟨[.ref l, .int x u], []⟩) (fun _ R s => s.heap.get? l = some { cls := .type "tuple", dict := dd, data := .seq items n, slots := sl } ∧ R (.ok (.ret (Value.ref l))) { s with heap := s.heap, toks := s.toks }) :=
  .of_wp fun prog w A R s h => by
    obtain ⟨hp, g, d, tk, os⟩ := s; obtain ⟨hl, h⟩ := h
    have f1 := AutoSeq1.idx_int; have f2 := AutoSeq1.sub_tuple_tuple
    wp_walk using wpAny_loadPart' hl
    rw [if_neg h1]
    wp_walk using wpAny_loadPart' hl
    exact ⟨_, rfl, h⟩
theorem tuple_mul1 (l : Addr) (items : Array Value) (n : Nat) (dd : Option Addr) (sl : Array (Option Value)) (x : Int) (u : Tok) (h1 : ¬ (decide (x < -(2 ^ 63)) || decide (x ≥ 2 ^ 63)) = true) (h2 : ¬ (items.isEmpty || x == 1) = true) (h3 : (decide (x ≤ 0) || items.isEmpty) = true) :
    Meets (Builtin.«tuple.__mul__» ⟨[.ref l, .int x u], []⟩) (fun _ R s => s.heap.get? l = some { cls := .type "tuple", dict := dd, data := .seq items n, slots := sl } ∧ R (.ok (.ret (Value.ref s.heap.objs.size))) { s with heap := s.heap.push { cls := Value.type "tuple", data := Data.seq #[] }, toks := s.toks }) :=
  .of_wp fun prog w A R s h => by
    obtain ⟨hp, g, d, tk, os⟩ := s; obtain ⟨hl, h⟩ := h
    have f1 := AutoSeq1.idx_int; have f2 := AutoSeq1.sub_tuple_tuple
    wp_walk using wpAny_loadPart' hl
    rw [if_neg h1]
    wp_walk using wpAny_loadPart' hl
    exact ⟨_, rfl, h⟩
theorem tuple_mul2 (l : Addr) (items : Array Value) (n : Nat) (dd : Option Addr) (sl : Array (Option Value)) (x : Int) (u : Tok) (h1 : ¬ (decide (x < -(2 ^ 63)) || decide (x ≥ 2 ^ 63)) = true) (h2 : ¬ (items.isEmpty || x == 1) = true) (h3 : ¬ (decide (x ≤ 0) || items.isEmpty) = true)
    (h4 : ¬ (items.size : Int) * x > (2 ^ 63 - 1) / 8) (h5 : ¬ Builtin.Tuple.tupleTooMany ((items.size : Int) * x) = true) (hsz : (List.foldl (fun x1 x2 => x1 ++ x2) #[] (List.replicate x.toNat items)).size ≤ sizeLine) :
    Meets (Builtin.«tuple.__mul__» ⟨[.ref l, .int x u], []⟩) (fun _ R s => s.heap.get? l = some { cls := .type "tuple", dict := dd, data := .seq items n, slots := sl } ∧ R (.ok (.ret (Value.ref s.heap.objs.size))) { s with heap := s.heap.push { cls := Value.type "tuple", data := Data.seq (List.foldl (fun x1 x2 => x1 ++ x2) #[] (List.replicate x.toNat items)) }, toks := s.toks }) :=
  .of_wp fun prog w A R s h => by
    obtain ⟨hp, g, d, tk, os⟩ := s; obtain ⟨hl, h⟩ := h
    have f1 := AutoSeq1.idx_int; have f2 := AutoSeq1.sub_tuple_tuple
    wp_walk using wpAny_loadPart' hl
    rw [if_neg h1]
    wp_walk using wpAny_loadPart' hl
    rw [if_neg h4]
    wp_walk using wpAny_loadPart' hl
    exact ⟨_, rfl, h⟩
section
variable {X : Cx}
def rRepT (K : PySem.W.Frag) : R2 := fun x y H Q => ∃ a k xs, x = .ref a ∧ y = .int k ∧ SqT K H a xs ∧ -(2 ^ 63) ≤ k ∧ k < 2 ^ 63 ∧ xs.length * k.toNat ≤ sizeLine ∧
  (xs = [] ∨ k = 1 → Q (.ref a) H) ∧ (¬ (xs = [] ∨ k = 1) → ∀ p, H p = none → Q (.ref p) (upd H p (.tup (List.replicate k.toNat xs).flatten)))
theorem rep_sz (its : List Value) (m : Nat) : List.foldl (fun x1 x2 => x1 ++ x2) #[] (List.replicate m its.toArray) = (List.replicate m its).flatten.toArray := by
  have := foldl_rep its m []
  rw [List.nil_append] at this
  exact this
theorem op_repT : OpR X (binaryOp .Mult) (rRepT X.K) := by
  intro pins s σ H x y v u Q I rx ry h
  obtain ⟨a, k, xs, rfl, rfl, hH, h1, h2, hz, q1, q2⟩ := h
  cases rx
  obtain ⟨t, rfl⟩ := ry
  obtain ⟨its, r, ht, _⟩ := I.tuple hH
  obtain ⟨⟨cls, dd, data, sl⟩, ho, hc, n, hd⟩ := id ht
  simp only at hc hd
  subst hc hd
  have hl := r.length
  have c1 : ¬ (decide (k < -(2 ^ 63)) || decide (k ≥ 2 ^ 63)) = true := by
    simp only [Bool.or_eq_true, decide_eq_true_eq]; omega
  have road : ∀ {S : PySem.Spec}, Meets (Builtin.«tuple.__mul__» ⟨[.ref a, .int k t], []⟩) S → S X.A (wants (EP X pins σ Q) X.xe) s → wpAny (model X.prog X.w) X.A (binaryOp .Mult (.ref a) (.int k t)) (EP X pins σ Q) X.xe s := fun {S} m hS =>
    wpAny_binaryOp_repeat_ref (T := "tuple") (U := "int") (by decide) ⟨_, ho, rfl⟩ (fun s' => typeIs_int s' k t) noFill_tuple_mul PySem.F.fills_int_mul PySem.F.slot_int_rmul repeat_tuple PySem.F.slot_int_index.lookup
      (call_meets PySem.F.slot_int_rmul (typeIs_int s k t) PySem.F.entry_int_rmul (PySem.F.args_int_rmul_2 _ _) (int_rmul_tuple k t a its.toArray n dd sl) ⟨ho, rfl, ⟨_, ho, rfl⟩, call_meets PySem.F.slot_tuple_mul ⟨_, ho, rfl⟩ PySem.F.entry_tuple_mul (PySem.F.args_tuple_mul_2 _ _) m hS⟩)
  have emp : its.toArray.isEmpty = true ↔ xs = [] := by
    rw [← r.nil_iff]; cases its <;> simp
  by_cases hs : xs = [] ∨ k = 1
  · refine road (tuple_mul0 a its.toArray n dd sl k t c1 ?_) ⟨ho, ⟨.ref a, H, I, rfl, q1 hs⟩⟩
    rcases hs with hs | hs
    · rw [emp.mpr hs]; rfl
    · rw [hs]; simp
  · have c2 : ¬ (its.toArray.isEmpty || k == 1) = true := by
      simp only [Bool.or_eq_true, beq_iff_eq]
      rintro (z | z)
      · exact hs (.inl (emp.mp z))
      · exact hs (.inr z)
    have fin : ∀ its' : List Value, its' = (List.replicate k.toNat its).flatten → EP X pins σ Q (.ref s.heap.objs.size) { s with heap := s.heap.push { cls := .type "tuple", data := .seq its'.toArray } } := fun its' e => by
      have rv : Vals (List.replicate k.toNat xs).flatten its' := by rw [e]; exact r.rep k.toNat
      have hz' : (List.replicate k.toNat xs).flatten.length ≤ sizeLine := by rw [len_rep, Nat.mul_comm]; exact hz
      exact ⟨.ref s.heap.objs.size, _, I.laid (t' := s.toks) (o := .tup (List.replicate k.toNat xs).flatten) (fun b ob q => Heap.get?_push_of_some _ q) (Nat.le_refl _) ⟨hz', its', rv, IsTup.new _ _⟩, rfl, q2 hs _ (I.hok.fresh (Nat.le_refl _))⟩
    by_cases hk : k ≤ 0
    · refine road (tuple_mul1 a its.toArray n dd sl k t c1 c2 (by simp [hk])) ⟨ho, ?_⟩
      have := fin [] (by rw [show k.toNat = 0 by omega]; rfl)
      exact this
    · have hne : its.toArray.isEmpty = false := by
        cases e : its.toArray.isEmpty with
        | true => exact absurd (.inl (emp.mp e)) hs
        | false => rfl
      have hs' : sizeLine = 16777216 := sizeLine_eq
      have hm : (its.toArray.size : Int) * k = ((xs.length * k.toNat : Nat) : Int) := by
        rw [List.size_toArray, ← hl, Int.natCast_mul]
        congr 1
        omega
      have e0 := rep_sz its k.toNat
      refine road (tuple_mul2 a its.toArray n dd sl k t c1 c2 (by simp [hne]; omega) (by rw [hm]; omega) (by rw [hm]; simp only [Builtin.Tuple.tupleTooMany, decide_eq_true_eq]; omega) ?_) ⟨ho, ?_⟩
      · rw [e0, List.size_toArray, len_rep, ← hl, Nat.mul_comm]; exact hz
      · rw [e0]
        exact fin _ rfl
def rCatTT (K : PySem.W.Frag) : R2 := fun x y H Q => ∃ a b xs ys, x = .ref a ∧ y = .ref b ∧ SqT K H a xs ∧ SqT K H b ys ∧ xs.length + ys.length ≤ sizeLine ∧
  (xs = [] → Q (.ref b) H) ∧ (ys = [] → Q (.ref a) H) ∧ (xs ≠ [] → ys ≠ [] → ∀ p, H p = none → Q (.ref p) (upd H p (.tup (xs ++ ys))))
theorem op_catTT : OpR X (binaryOp .Add) (rCatTT X.K) := by
  intro pins s σ H x y v u Q I rx ry h
  obtain ⟨a, b, xs, ys, rfl, rfl, ha, hb, hz, q0, q1, q2⟩ := h
  by_cases hx : xs = []
  · cases rx
    cases ry
    obtain ⟨its, r1, p1, _⟩ := I.tuple ha
    obtain ⟨its2, r2, p2, _⟩ := I.tuple hb
    obtain ⟨⟨cls, dd, data, sl⟩, ho, hc, n, hd⟩ := id p1
    obtain ⟨⟨cls2, dd2, data2, sl2⟩, ho2, hc2, n2, hd2⟩ := id p2
    simp only at hc hd hc2 hd2
    subst hc hd hc2 hd2
    exact concat_meets ⟨_, ho, rfl⟩ ⟨_, ho2, rfl⟩ noFill_tuple_add seq_tuple_add PySem.F.slot_tuple_add PySem.F.entry_tuple_add (PySem.F.args_tuple_add_2 _ _)
      (tuple_addW0 a b its.toArray its2.toArray n n2 dd dd2 sl sl2 (by rw [r1.nil_iff.mpr hx]; rfl)) ⟨ho, ho2, ⟨.ref b, H, I, rfl, q0 hx⟩⟩
  · exact op_catT pins s σ H _ _ v u Q I rx ry ⟨a, b, xs, ys, rfl, rfl, ha, hb, hx, hz, q1, q2 hx⟩
end
end Ex

end
section
set_option Elab.async false
set_option linter.all false
set_option maxRecDepth 100000
set_option maxHeartbeats 2000000
namespace Ex
open PySem PySem.Spec PyProof.Rows L2
open Sem (wp)
open AutoSeq1 (wpAny_loadPart')
section
variable {prog : Program} {w : World} {A : Around} {E : Value → Shared → Prop} {s : Shared}
theorem nextOf_tuple_item {it l : Addr} {i : Nat} {items} {x : Value} {Q : Value → Shared → Prop} (hit : s.heap.IsTupleIter it l i)
    (hl : s.heap.IsTuple l items) (hx : items[i]? = some x)
    (hQ : ∀ h', h'.IsTupleIter it l (i + 1) → Heap.SameBut it s.heap h' → Q x { s with heap := h' }) :
    wpAny (model prog w) A (Builtin.SmallTypes.nextOf (.ref it)) Q E s := by
  obtain ⟨o, ho, hc, hd⟩ := id hit
  obtain ⟨ol, hol, _, nl, hdl⟩ := hl
  unfold Builtin.SmallTypes.nextOf
  refine wpAny_bind (wpAny_callSpecial?_slot (name := Str.ofString "__next__") hit.typeIs PySem.F.slot_tuple_iterator_next
    (wpAny_call_entry PySem.F.slot_tuple_iterator_next hit.typeIs PySem.F.entry_tuple_iterator_next ?_ (PySem.F.args_tuple_iterator_next_1 _)))
  show wpAny _ _ (field (.ref it) 0 >>= _) _ _ s
  refine wpAny_bind (wpAny_field ho hd (x := .ref l) rfl ?_)
  show wpAny _ _ (if (Value.ref l == Value.none) = true then _ else _) _ _ s
  rw [if_neg (show ¬ ((Value.ref l == Value.none) = true) from Bool.false_ne_true)]
  show wpAny _ _ (field (.ref it) 1 >>= _) _ _ s
  refine wpAny_bind (wpAny_field ho hd (x := .int i 0) rfl ?_)
  show wpAny _ _ (seqItems? (.ref l) >>= _) _ _ s
  refine wpAny_bind (wpAny_seqItems hol hdl ?_)
  simp only [Int.toNat_natCast, hx]
  refine wpAny_bind (wpAny_setField ho hd (by simp) (wpAny_pure ⟨x, rfl, wpAny_pure (hQ _ ?_ (Heap.SameBut.update ..))⟩))
  exact ⟨_, Heap.get?_update_self _ ho (Obj.isFreed_of_fields (Obj.data_mapFields hd _)), (Obj.cls_mapFields ..).trans hc, by
    rw [Obj.data_mapFields hd]; simp [rawInt]⟩
theorem nextOf_tuple_end {it l : Addr} {i : Nat} {items} {Q : Value → Shared → Prop} (hh : A.handled = none)
    (hit : s.heap.IsTupleIter it l i) (hl : s.heap.IsTuple l items) (hx : items[i]? = none)
    (hE : ∀ h' e, Heap.ExtBut it s.heap h' → (∃ o, h'.get? e = some o ∧ o.cls = .type "StopIteration") → E (.ref e) { s with heap := h' }) :
    wpAny (model prog w) A (Builtin.SmallTypes.nextOf (.ref it)) Q E s := by
  obtain ⟨o, ho, hc, hd⟩ := id hit
  obtain ⟨ol, hol, _, nl, hdl⟩ := hl
  unfold Builtin.SmallTypes.nextOf
  refine wpAny_bind (wpAny_callSpecial?_slot (name := Str.ofString "__next__") hit.typeIs PySem.F.slot_tuple_iterator_next
    (wpAny_call_entry PySem.F.slot_tuple_iterator_next hit.typeIs PySem.F.entry_tuple_iterator_next ?_ (PySem.F.args_tuple_iterator_next_1 _)))
  show wpAny _ _ (field (.ref it) 0 >>= _) _ _ s
  refine wpAny_bind (wpAny_field ho hd (x := .ref l) rfl ?_)
  show wpAny _ _ (if (Value.ref l == Value.none) = true then _ else _) _ _ s
  rw [if_neg (show ¬ ((Value.ref l == Value.none) = true) from Bool.false_ne_true)]
  show wpAny _ _ (field (.ref it) 1 >>= _) _ _ s
  refine wpAny_bind (wpAny_field ho hd (x := .int i 0) rfl ?_)
  show wpAny _ _ (seqItems? (.ref l) >>= _) _ _ s
  refine wpAny_bind (wpAny_seqItems hol hdl ?_)
  simp only [Int.toNat_natCast, hx]
  refine wpAny_bind (wpAny_rule (wpAny_bind (wpAny_setField ho hd (by simp) ?_)))
  show wpAny _ _ (newExc (.type "StopIteration") [] >>= _) _ _ _
  refine wpAny_bind ?_
  simp only [newExc, newTuple]
  refine wpAny_bind (wpAny_newObj_type ?_ (by size_fits))
  refine wpAny_bind (m := firstArgMember _ _) (wpAny_of_eq (a := Value.none) (by first | rfl | (simp only [firstArgMember]; rfl)) ?_)
  refine wpAny_newObj_type ?_ (by size_fits)
  simp only [raiseNew]
  refine wpAny_bind (wpAny_handled ?_)
  first | rw [show A.in1.handled = none from hh] | rw [hh]
  refine wpAny_bind (wpAny_pure (wpAny_throw ?_))
  exact hE _ _ (((Heap.SameBut.update ..).extBut.push _).push _) ⟨_, Heap.get?_push_size _ rfl, rfl⟩
end
end Ex

end
section
set_option Elab.async false
set_option linter.all false
set_option maxRecDepth 100000
set_option maxHeartbeats 2000000
namespace Ex
open PySem PySem.Spec PyProof.Rows L2
open Sem (wp)
section
variable {prog : Program} {w : World} {A : Around} {E : Value → Shared → Prop} {s : Shared}
end
end Ex

end
section
set_option Elab.async false
set_option linter.all false
set_option maxRecDepth 100000
set_option maxHeartbeats 2000000
namespace Ex
open PySem PySem.Spec PyProof.Rows L2
end Ex

end
section
set_option Elab.async false
set_option linter.all false
set_option maxRecDepth 100000
set_option maxHeartbeats 2000000
namespace Ex
open PySem PySem.Spec PyProof.Rows L2
section
variable {prog : Program} {w : World} {A : Around} {E : Value → Shared → Prop} {s : Shared}
end
section
variable {X : Cx}
end
end Ex

end
section
set_option Elab.async false
set_option linter.all false
set_option maxRecDepth 100000
set_option maxHeartbeats 1000000
namespace Ev
open PySem PySem.Spec PyProof.Rows L2

abbrev St := L2.St
inductive D where
  | non | bl (b : Bool) | int (i : Int) | str (x : Str)
  | tup (xs : List D) | ob (i : Nat) | gl (x : Str) | ty (n : String) | scr
inductive MO where
  | lst (xs : List D) | dic (kvs : List (Key × D)) | exc (x : Str)
abbrev Store := List MO
abbrev Ro := List (Option D)
inductive Exc where
  | mk (cls : Str) (fs : List (Str × D))
inductive R (β : Type) where
  | ok (b : β) (μ : Store) | ex (e : Exc) (μ : Store) | bad
def R.bind {β γ : Type} : R β → (β → Store → R γ) → R γ
  | .ok b μ, f => f b μ
  | .ex e μ, _ => .ex e μ
  | .bad, _ => .bad
structure Gx where
  K : PySem.W.Frag
  mg : Str → Option Value
  a0 : Addr
  ns : List Int
  tb : Addr → Prop
mutual
inductive Rv (g : Gx) (α : List Addr) (H : Hp) : D → V → Prop
  | non : Rv g α H .non .non
  | bl (b : Bool) : Rv g α H (.bl b) (.bl b)
  | int (i : Int) : Rv g α H (.int i) (.int i)
  | str (x : Str) : Rv g α H (.str x) (.str x)
  | tup {a : Addr} {xs : List D} {vs : List V} : SqT g.K H a vs → Rvs g α H xs vs → Rv g α H (.tup xs) (.ref a)
  | ob {i : Nat} {a : Addr} : α[i]? = some a → Rv g α H (.ob i) (.ref a)
  | gl {x : Str} {f : Addr} : g.mg x = some (.ref f) → Rv g α H (.gl x) (.ref f)
  | ty (n : String) : Rv g α H (.ty n) (.ty n)
  | scr : Rv g α H .scr (.ref g.a0)
inductive Rvs (g : Gx) (α : List Addr) (H : Hp) : List D → List V → Prop
  | nil : Rvs g α H [] []
  | cons {d : D} {ds : List D} {v : V} {vs : List V} : Rv g α H d v → Rvs g α H ds vs → Rvs g α H (d :: ds) (v :: vs)
end
structure Grow (g : Gx) (α : List Addr) (H : Hp) (α' : List Addr) (H' : Hp) : Prop where
  pre : ∀ (i : Nat) (a : Addr), α[i]? = some a → α'[i]? = some a
  tup : ∀ a vs, SqT g.K H a vs → SqT g.K H' a vs
section
variable {g : Gx} {α α' α'' : List Addr} {H H' H'' : Hp}
theorem Grow.refl : Grow g α H α H := ⟨fun _ _ h => h, fun _ _ h => h⟩
theorem Grow.trans (x : Grow g α H α' H') (y : Grow g α' H' α'' H'') : Grow g α H α'' H'' := ⟨fun i a h => y.pre i a (x.pre i a h), fun a vs h => y.tup a vs (x.tup a vs h)⟩
mutual
theorem Rv.grow (w : Grow g α H α' H') : ∀ (d : D) (v : V), Rv g α H d v → Rv g α' H' d v
  | .non, _, h => by cases h; exact .non
  | .bl b, _, h => by cases h; exact .bl b
  | .int i, _, h => by cases h; exact .int i
  | .str x, _, h => by cases h; exact .str x
  | .tup xs, _, h => by
    cases h with
    | tup hs hr => exact .tup (w.tup _ _ hs) (Rvs.grow w xs _ hr)
  | .ob i, _, h => by
    cases h with
    | ob e => exact .ob (w.pre _ _ e)
  | .gl x, _, h => by
    cases h with
    | gl e => exact .gl e
  | .ty n, _, h => by cases h; exact .ty n
  | .scr, _, h => by cases h; exact .scr
theorem Rvs.grow (w : Grow g α H α' H') : ∀ (ds : List D) (vs : List V), Rvs g α H ds vs → Rvs g α' H' ds vs
  | [], _, h => by cases h; exact .nil
  | d :: ds, _, h => by
    cases h with
    | cons h1 h2 => exact .cons (Rv.grow w d _ h1) (Rvs.grow w ds _ h2)
end
theorem Rv.mv {d : D} {v : V} (h : Rv g α H d v) (w : Grow g α H α' H') : Rv g α' H' d v := Rv.grow w d v h
theorem Rvs.mv {ds : List D} {vs : List V} (h : Rvs g α H ds vs) (w : Grow g α H α' H') : Rvs g α' H' ds vs := Rvs.grow w ds vs h
theorem Rvs.len : ∀ {ds : List D} {vs : List V}, Rvs g α H ds vs → ds.length = vs.length
  | _, _, .nil => rfl
  | _, _, .cons _ h => by rw [List.length_cons, List.length_cons, Rvs.len h]
theorem Rvs.get : ∀ {ds : List D} {vs : List V} {i : Nat} {d : D}, Rvs g α H ds vs → ds[i]? = some d → ∃ v, vs[i]? = some v ∧ Rv g α H d v
  | _, _, _, _, .nil, e => by simp at e
  | _, _, 0, _, .cons r _, e => by simp at e; subst e; exact ⟨_, rfl, r⟩
  | _, _, i + 1, d, .cons _ t, e => by
    obtain ⟨v, h1, h2⟩ := Rvs.get (i := i) (d := d) t (by simpa using e)
    exact ⟨v, by simpa using h1, h2⟩
theorem Rvs.app : ∀ {ds es : List D} {vs us : List V}, Rvs g α H ds vs → Rvs g α H es us → Rvs g α H (ds ++ es) (vs ++ us)
  | _, _, _, _, .nil, s => s
  | _, _, _, _, .cons r t, s => .cons r (Rvs.app t s)
theorem Rvs.take : ∀ {ds : List D} {vs : List V} (n : Nat), Rvs g α H ds vs → Rvs g α H (ds.take n) (vs.take n)
  | _, _, 0, _ => .nil
  | _, _, _ + 1, .nil => .nil
  | _, _, n + 1, .cons r t => .cons r (Rvs.take n t)
theorem Rvs.drop : ∀ {ds : List D} {vs : List V} (n : Nat), Rvs g α H ds vs → Rvs g α H (ds.drop n) (vs.drop n)
  | _, _, 0, r => r
  | _, _, _ + 1, .nil => .nil
  | _, _, n + 1, .cons _ t => Rvs.drop n t
theorem Rvs.set {d : D} {v : V} (r : Rv g α H d v) : ∀ {ds : List D} {vs : List V} (i : Nat), Rvs g α H ds vs → Rvs g α H (ds.set i d) (vs.set i v)
  | _, _, _, .nil => .nil
  | _, _, 0, .cons _ t => .cons r t
  | _, _, i + 1, .cons q t => .cons q (Rvs.set r i t)
theorem Rvs.one {d : D} {v : V} (r : Rv g α H d v) : Rvs g α H [d] [v] := .cons r .nil
theorem Rvs.rev {ds : List D} {vs : List V} (h : Rvs g α H ds vs) : Rvs g α H ds.reverse vs.reverse := by
  induction ds generalizing vs with
  | nil => cases h; exact .nil
  | cons d ds ih =>
    cases h with
    | cons r t =>
      rw [List.reverse_cons, List.reverse_cons]
      exact Rvs.app (ih t) (Rvs.one r)
end
def RoL (K : PySem.W.Frag) (H : Hp) (a : Addr) (xs : List V) : Prop :=
  (∃ o, H a = some (.frz o (.lst xs))) ∨
    ∃ (o : Obj) (its : Array Value) (n : Nat), K.lookup a = some o ∧ o.cls = .type "list" ∧ o.dict = none ∧ o.data = .seq its n ∧ its.size ≤ sizeLine ∧ Vals xs its.toList
theorem RoL.sq {K : PySem.W.Frag} {H : Hp} {a : Addr} {xs : List V} (h : RoL K H a xs) : SqL K H a xs := by
  rcases h with ⟨o, h⟩ | h
  · exact .inl (.inr ⟨o, h⟩)
  · exact .inr h
def isExc (a : Addr) (C : Value) : Heap → Prop := fun h => ∃ o, h.get? a = some o ∧ o.cls = C
def OR (g : Gx) (α : List Addr) (H : Hp) : MO → Addr → Prop
  | .lst xs, a => ∃ vs, H a = some (.lst vs) ∧ Rvs g α H xs vs
  | .dic kvs, a => ∃ vs : List V, H a = some (.dK ((kvs.map (·.1)).zip vs)) ∧ Rvs g α H (kvs.map (·.2)) vs
  | .exc x, a => ∃ C : Addr, g.mg x = some (.ref C) ∧ H a = some (.ext (isExc a (.ref C)))
structure SR (g : Gx) (μ : Store) (α : List Addr) (H : Hp) : Prop where
  len : α.length = μ.length
  nd : ∀ (i j : Nat) a, α[i]? = some a → α[j]? = some a → i = j
  at_ : ∀ (i : Nat) o, μ[i]? = some o → ∃ a, α[i]? = some a ∧ OR g α H o a
  scr : RoL g.K H g.a0 (g.ns.map V.int)
  tab : ∀ P, g.tb P → ∃ ps, H P = some (.tbl ps) ∧ TriplesOk ps.toList
theorem upd_tab {tb : Addr → Prop} {H : Hp} {a : Addr} {u : HO} (h : ∀ P, tb P → ∃ ps, H P = some (.tbl ps) ∧ TriplesOk ps.toList) (hn : ∀ ps, H a ≠ some (.tbl ps)) : ∀ P, tb P → ∃ ps, upd H a u P = some (.tbl ps) ∧ TriplesOk ps.toList := fun P hP => by
  obtain ⟨ps, e, t⟩ := h P hP
  exact ⟨ps, by rw [upd_ne (fun z => hn ps (by rw [← z]; exact e))]; exact e, t⟩
section
variable {g : Gx} {α α' : List Addr} {H H' : Hp} {μ μ' : Store}
theorem upd_tup {H : Hp} {a b : Addr} {o : HO} {vs : List V} {K : PySem.W.Frag} (h : SqT K H b vs) (hn : ∀ xs, H a ≠ some (.tup xs)) (hf : ∀ q xs, H a ≠ some (.frz q (.tup xs))) : SqT K (upd H a o) b vs := by
  rcases h with (h | ⟨q, h⟩) | h
  · refine .inl (.inl ?_)
    rw [upd_ne (fun e => hn vs (by rw [← e]; exact h))]; exact h
  · refine .inl (.inr ⟨q, ?_⟩)
    rw [upd_ne (fun e => hf q vs (by rw [← e]; exact h))]; exact h
  · exact .inr h
theorem upd_ro {H : Hp} {a b : Addr} {o : HO} {vs : List V} {K : PySem.W.Frag} (h : RoL K H b vs) (hf : ∀ q xs, H a ≠ some (.frz q (.lst xs))) : RoL K (upd H a o) b vs := by
  rcases h with ⟨q, h⟩ | h
  · refine .inl ⟨q, ?_⟩
    rw [upd_ne (fun e => hf q vs (by rw [← e]; exact h))]; exact h
  · exact .inr h
theorem OR.ho (h : ∀ (o : MO) a, OR g α H o a → True) : True := trivial
theorem OR.some {o : MO} {a : Addr} (h : OR g α H o a) : (∃ xs, H a = some (.lst xs)) ∨ (∃ kvs, H a = some (.dK kvs)) ∨ ∃ φ, H a = some (.ext φ) := by
  cases o with
  | lst xs => obtain ⟨vs, e, _⟩ := h; exact .inl ⟨vs, e⟩
  | dic kvs => obtain ⟨vs, e, _⟩ := h; exact .inr (.inl ⟨_, e⟩)
  | exc x => obtain ⟨C, _, e⟩ := h; exact .inr (.inr ⟨_, e⟩)
theorem OR.grow {o : MO} {a : Addr} (h : OR g α H o a) (w : Grow g α H α' H') (e : H' a = H a) : OR g α' H' o a := by
  cases o with
  | lst xs => obtain ⟨vs, e', r⟩ := h; exact ⟨vs, e.trans e', r.mv w⟩
  | dic kvs => obtain ⟨vs, e', r⟩ := h; exact ⟨vs, e.trans e', r.mv w⟩
  | exc x => obtain ⟨C, h1, h2⟩ := h; exact ⟨C, h1, e.trans h2⟩
theorem SR.write (S : SR g μ α H) {i : Nat} {a : Addr} {o o' : MO} {u : HO} (hi : μ[i]? = some o) (ha : α[i]? = some a) (w : Grow g α H α (upd H a u)) (hn : OR g α (upd H a u) o' a) : SR g (μ.set i o') α (upd H a u) := by
  have hH : (∃ xs, H a = some (.lst xs)) ∨ (∃ kvs, H a = some (.dK kvs)) ∨ ∃ φ, H a = some (.ext φ) := by
    obtain ⟨b, hb, r⟩ := S.at_ i o hi
    rw [ha] at hb; cases hb
    exact r.some
  refine ⟨by rw [List.length_set]; exact S.len, S.nd, fun j q hq => ?_, ?_, upd_tab S.tab fun ps z => by rcases hH with ⟨x, h⟩ | ⟨x, h⟩ | ⟨x, h⟩ <;> (rw [h] at z; cases z)⟩
  · by_cases e : i = j
    · subst e
      rw [List.getElem?_set_self (List.getElem?_eq_some_iff.mp hi).1] at hq
      cases hq
      exact ⟨a, ha, hn⟩
    · rw [List.getElem?_set_ne e] at hq
      obtain ⟨b, hb, r⟩ := S.at_ j q hq
      have ne : b ≠ a := fun z => by subst z; exact e (S.nd _ _ _ ha hb)
      exact ⟨b, hb, r.grow w (upd_ne ne)⟩
  · refine upd_ro S.scr fun q xs z => ?_
    rcases hH with ⟨x, h⟩ | ⟨x, h⟩ | ⟨x, h⟩ <;> (rw [h] at z; cases z)
theorem grow_write (S : SR g μ α H) {i : Nat} {a : Addr} {o : MO} {u : HO} (hi : μ[i]? = some o) (ha : α[i]? = some a) : Grow g α H α (upd H a u) := by
  have hH : (∃ xs, H a = some (.lst xs)) ∨ (∃ kvs, H a = some (.dK kvs)) ∨ ∃ φ, H a = some (.ext φ) := by
    obtain ⟨b, hb, r⟩ := S.at_ i o hi
    rw [ha] at hb; cases hb
    exact r.some
  refine ⟨fun _ _ h => h, fun b vs h => upd_tup h (fun xs z => ?_) fun q xs z => ?_⟩
  · rcases hH with ⟨x, h⟩ | ⟨x, h⟩ | ⟨x, h⟩ <;> (rw [h] at z; cases z)
  · rcases hH with ⟨x, h⟩ | ⟨x, h⟩ | ⟨x, h⟩ <;> (rw [h] at z; cases z)
theorem grow_new {p : Addr} {u : HO} (hp : H p = none) : Grow g α H α (upd H p u) :=
  ⟨fun _ _ h => h, fun b vs h => upd_tup h (fun xs z => by rw [hp] at z; cases z) fun q xs z => by rw [hp] at z; cases z⟩
theorem SR.keepN (S : SR g μ α H) {p : Addr} {u : HO} (hp : H p = none) : SR g μ α (upd H p u) := by
  refine ⟨S.len, S.nd, fun i o h => ?_, upd_ro S.scr fun q xs z => (by rw [hp] at z; cases z), upd_tab S.tab fun ps z => (by rw [hp] at z; cases z)⟩
  obtain ⟨a, ha, r⟩ := S.at_ i o h
  have ne : a ≠ p := fun z => by
    subst z
    rcases r.some with ⟨x, e⟩ | ⟨x, e⟩ | ⟨x, e⟩ <;> (rw [hp] at e; cases e)
  exact ⟨a, ha, r.grow (grow_new hp) (upd_ne ne)⟩
theorem SR.new (S : SR g μ α H) {p : Addr} {o : MO} {u : HO} (hp : H p = none) (hn : OR g (α ++ [p]) (upd H p u) o p) : SR g (μ ++ [o]) (α ++ [p]) (upd H p u) ∧ Grow g α H (α ++ [p]) (upd H p u) := by
  have w : Grow g α H (α ++ [p]) (upd H p u) := ⟨fun i a h => by
    rw [List.getElem?_append_left (List.getElem?_eq_some_iff.mp h).1]; exact h, (grow_new (α := α) hp).tup⟩
  have pn : ∀ i : Nat, α[i]? ≠ some p := fun i h => by
    have hi : i < μ.length := by rw [← S.len]; exact (List.getElem?_eq_some_iff.mp h).1
    obtain ⟨a, ha, r⟩ := S.at_ i μ[i] (List.getElem?_eq_getElem hi)
    rw [h] at ha; cases ha
    rcases r.some with ⟨x, e⟩ | ⟨x, e⟩ | ⟨x, e⟩ <;> (rw [hp] at e; cases e)
  refine ⟨⟨by rw [List.length_append, List.length_append, S.len]; rfl, fun i j a h1 h2 => ?_, fun i q hq => ?_, upd_ro S.scr fun q xs z => (by rw [hp] at z; cases z), upd_tab S.tab fun ps z => (by rw [hp] at z; cases z)⟩, w⟩
  · rw [List.getElem?_append] at h1 h2
    split at h1 <;> split at h2
    · exact S.nd i j a h1 h2
    · rename_i c1 c2
      have e : a = p := by
        rw [List.getElem?_singleton] at h2
        split at h2 <;> cases h2; rfl
      subst e; exact absurd h1 (pn i)
    · rename_i c1 c2
      have e : a = p := by
        rw [List.getElem?_singleton] at h1
        split at h1 <;> cases h1; rfl
      subst e; exact absurd h2 (pn j)
    · rename_i c1 c2
      rw [List.getElem?_singleton] at h1 h2
      split at h1
      · split at h2
        · omega
        · cases h2
      · cases h1
  · rw [List.getElem?_append] at hq
    split at hq
    · rename_i c
      obtain ⟨a, ha, r⟩ := S.at_ i q hq
      have ne : a ≠ p := fun z => by subst z; exact pn i ha
      exact ⟨a, by rw [List.getElem?_append_left (by rw [S.len]; exact c)]; exact ha, r.grow w (upd_ne ne)⟩
    · rename_i c
      rw [List.getElem?_singleton] at hq
      split at hq
      · rename_i c2
        cases hq
        refine ⟨p, ?_, hn⟩
        rw [List.getElem?_append_right (by rw [S.len]; omega), List.getElem?_singleton, if_pos (by rw [S.len]; omega)]
      · cases hq
end
def StR (g : Gx) (α : List Addr) (H : Hp) (ρ : Ro) (σ : St) : Prop := ρ.length = σ.length ∧ ∀ (i : Nat) d, ρ[i]? = some (some d) → ∃ v, σ[i]? = some (some v) ∧ Rv g α H d v
structure Cf (g : Gx) (ρ : Ro) (μ : Store) (α : List Addr) (σ : St) (H : Hp) : Prop where
  st : StR g α H ρ σ
  sr : SR g μ α H
abbrev XW := Exc → Store → List Addr → Hp → Prop
abbrev W0 : XW := fun _ _ _ _ => False
def Pst {β : Type} (g : Gx) (W : XW) (α : List Addr) (H : Hp) (res : R β) (k : β → Store → List Addr → Hp → Prop) : Prop :=
  match res with
  | .ok b μ' => ∀ α' H', Grow g α H α' H' → SR g μ' α' H' → k b μ' α' H'
  | .ex e μ' => ∀ α' H', Grow g α H α' H' → SR g μ' α' H' → W e μ' α' H'
  | .bad => False
section
variable {β γ : Type} {g : Gx} {W : XW} {α α' : List Addr} {H H' : Hp} {μ : Store} {ρ : Ro} {σ : St}
theorem StR.grow (h : StR g α H ρ σ) (w : Grow g α H α' H') : StR g α' H' ρ σ := ⟨h.1, fun i d e => by
  obtain ⟨v, h1, h2⟩ := h.2 i d e
  exact ⟨v, h1, h2.mv w⟩⟩
theorem StR.set (h : StR g α H ρ σ) {d : D} {v : V} (r : Rv g α H d v) (i : Nat) : StR g α H (ρ.set i (some d)) (σ.set i (some v)) := by
  refine ⟨by rw [List.length_set, List.length_set]; exact h.1, fun j e q => ?_⟩
  by_cases z : i = j
  · subst z
    rw [List.getElem?_set] at q ⊢
    simp only [if_true] at q ⊢
    split at q
    · rename_i hl
      cases q
      rw [if_pos (by rw [← h.1]; exact hl)]
      exact ⟨v, rfl, r⟩
    · cases q
  · rw [List.getElem?_set_ne z] at q ⊢
    exact h.2 j e q
theorem Pst.grow {res : R β} {k : β → Store → List Addr → Hp → Prop} (h : Pst g W α H res k) (w : Grow g α H α' H') : Pst g W α' H' res k := by
  cases res with
  | ok b μ' => exact fun a1 H1 w1 s1 => h a1 H1 (w.trans w1) s1
  | ex e μ' => exact fun a1 H1 w1 s1 => h a1 H1 (w.trans w1) s1
  | bad => exact h
theorem Pst.imp {res : R β} {k k' : β → Store → List Addr → Hp → Prop} (h : Pst g W α H res k) (f : ∀ b μ' α' H', Grow g α H α' H' → SR g μ' α' H' → k b μ' α' H' → k' b μ' α' H') : Pst g W α H res k' := by
  cases res with
  | ok b μ' => exact fun a1 H1 w1 s1 => f b μ' a1 H1 w1 s1 (h a1 H1 w1 s1)
  | ex e μ' => exact h
  | bad => exact h
theorem Pst.bind {m : R β} {f : β → Store → R γ} {k : γ → Store → List Addr → Hp → Prop} (h : Pst g W α H (m.bind f) k) : Pst g W α H m (fun b μ' α' H' => Pst g W α' H' (f b μ') k) := by
  cases m with
  | ok b μ' => exact fun a1 H1 w1 s1 => Pst.grow h w1
  | ex e μ' => exact h
  | bad => exact h
theorem Pst.out {b : β} {μ : Store} {k : β → Store → List Addr → Hp → Prop} (h : Pst g W α H (.ok b μ) k) (S : SR g μ α H) : k b μ α H := h α H .refl S
theorem Pst.out2 {b : β} {μ : Store} {k : β → Store → List Addr → Hp → Prop} (h : Pst g W α H (.ok b μ) k) (w : Grow g α H α' H') (S : SR g μ α' H') : k b μ α' H' := h α' H' w S
end
abbrev EF := Ro → Store → R D
abbrev TF := Ro → Store → R Bool
abbrev AF := Ro → Store → R (List D)
inductive Fl where
  | nx (ρ : Ro) | rt (d : D) | bk (ρ : Ro) | ct (ρ : Ro)
abbrev SF := Ro → Store → R Fl
abbrev kE (g : Gx) (Q : VK) : D → Store → List Addr → Hp → Prop := fun d _ α' H' => ∀ v, Rv g α' H' d v → Q v H'
def tEv (g : Gx) (W : XW) (r : EF) : TE := fun σ H Q => ∃ ρ μ α, Cf g ρ μ α σ H ∧ Pst g W α H (r ρ μ) (kE g Q)
def ttEv (g : Gx) (W : XW) (r : TF) : TT := fun σ H Q => ∃ ρ μ α, Cf g ρ μ α σ H ∧ Pst g W α H (r ρ μ) (fun b _ _ H' => Q b H')
def taEv (g : Gx) (W : XW) (r : AF) : TA := fun σ H Q => ∃ ρ μ α, Cf g ρ μ α σ H ∧ Pst g W α H (r ρ μ) (fun ds _ α' H' => ∀ vs, Rvs g α' H' ds vs → Q vs H')
def kS (g : Gx) (E : Ends) : Fl → Store → List Addr → Hp → Prop
  | .nx ρ, _, α', H' => ∀ σ, StR g α' H' ρ σ → E.nx σ H'
  | .rt d, _, α', H' => ∀ v, Rv g α' H' d v → E.rt v H'
  | .bk ρ, _, α', H' => ∀ σ, StR g α' H' ρ σ → E.bk σ H'
  | .ct ρ, _, α', H' => ∀ σ, StR g α' H' ρ σ → E.ct σ H'
def tsEv (g : Gx) (W : XW) (r : SF) : TS := fun E σ H => ∃ ρ μ α, Cf g ρ μ α σ H ∧ Pst g W α H (r ρ μ) (kS g E)
structure Q0 where
  a0 : Addr
  ns : List Int
  tb : Addr → Prop
abbrev gx (X : Cx) (q : Q0) : Gx := ⟨X.K, X.mg, q.a0, q.ns, q.tb⟩
structure EE (X : Cx) (q : Q0) (W : XW) (e : Expr) (r : EF) : Prop where
  p : PE X e (tEv (gx X q) W r)
structure ET (X : Cx) (q : Q0) (W : XW) (e : Expr) (r : TF) : Prop where
  p : PT X e (ttEv (gx X q) W r)
structure EW (X : Cx) (q : Q0) (W : XW) (e : Expr) (r : TF) : Prop where
  p : PW X e (ttEv (gx X q) W r)
structure EA (X : Cx) (q : Q0) (W : XW) (es : List Expr) (r : AF) : Prop where
  p : PA X es (taEv (gx X q) W r)
structure ES (X : Cx) (q : Q0) (W : XW) (st : Stmt) (r : SF) : Prop where
  p : PS X st (tsEv (gx X q) W r)
structure ESs (X : Cx) (q : Q0) (W : XW) (sts : List Stmt) (r : SF) : Prop where
  p : PSs X sts (tsEv (gx X q) W r)
end Ev

end
section
set_option Elab.async false
set_option linter.all false
set_option maxRecDepth 100000
set_option maxHeartbeats 1000000
namespace Ev
open PySem PySem.Spec PyProof.Rows L2
section
variable {X : Cx} {q : Q0} {W : XW}
theorem PE.imp {e : Expr} {t t' : TE} (h : PE X e t) (f : ∀ σ H Q, t' σ H Q → t σ H Q) : PE X e t' := fun pins s σ H Q I hq => h pins s σ H Q I (f σ H Q hq)
theorem PT.imp {e : Expr} {t t' : TT} (h : PT X e t) (f : ∀ σ H Q, t' σ H Q → t σ H Q) : PT X e t' := fun pins s σ H Q I hq => h pins s σ H Q I (f σ H Q hq)
theorem PW.imp {e : Expr} {t t' : TT} (h : PW X e t) (f : ∀ σ H Q, t' σ H Q → t σ H Q) : PW X e t' := fun wh pins s σ H Q I hq => h wh pins s σ H Q I (f σ H Q hq)
theorem PA.imp {es : List Expr} {t t' : TA} (h : PA X es t) (f : ∀ σ H Q, t' σ H Q → t σ H Q) : PA X es t' := fun pos pins s σ H Q I hq => h pos pins s σ H Q I (f σ H Q hq)
theorem PS.imp {st : Stmt} {t t' : TS} (h : PS X st t) (f : ∀ E σ H, t' E σ H → t E σ H) : PS X st t' := fun pins s σ H E I hq => h pins s σ H E I (f E σ H hq)
theorem PSs.imp {st : List Stmt} {t t' : TS} (h : PSs X st t) (f : ∀ E σ H, t' E σ H → t E σ H) : PSs X st t' := fun pins s σ H E I hq => h pins s σ H E I (f E σ H hq)
def eVar (i : Nat) : EF := fun ρ μ => match ρ[i]? with
  | some (some d) => .ok d μ
  | _ => .bad
def eC (d : D) : EF := fun _ μ => .ok d μ
theorem ee_var {i : Nat} {x : Str} {pos : Pos} (hN : X.N[i]? = some x) (hv : Vis X.env.scope x) (hd : (x == ("__debug__" : Str)) = false := by decide) (hcd : (x == ("__classdict__" : Str)) = false := by decide) : EE X q W (.Name x pos) (eVar i) := by
  refine ⟨PE.imp (pe_var hN hv hd hcd) fun σ H Q h => ?_⟩
  obtain ⟨ρ, μ, α, C, P⟩ := h
  unfold eVar at P
  split at P
  · rename_i d e
    obtain ⟨v, h1, h2⟩ := C.st.2 i d e
    exact ⟨v, h1, P.out C.sr v h2⟩
  · exact P.elim
theorem ee_const {e : Expr} {d : D} {v : V} (h : PE X e (tC v)) (r : ∀ α H, Rv (gx X q) α H d v) : EE X q W e (eC d) :=
  ⟨PE.imp h fun σ H Q ⟨ρ, μ, α, C, P⟩ => P.out C.sr v (r α H)⟩
theorem ee_int {i j pos} : EE X q W (.Constant (.int i) j pos) (eC (.int i)) := ee_const pe_int fun _ _ => .int i
theorem ee_bl {b j pos} : EE X q W (.Constant (.bool b) j pos) (eC (.bl b)) := ee_const pe_bl fun _ _ => .bl b
theorem ee_non {j pos} : EE X q W (.Constant .none j pos) (eC .non) := ee_const pe_non fun _ _ => .non
theorem ee_str {x j pos} : EE X q W (.Constant (.str x) j pos) (eC (.str x)) := ee_const pe_str fun _ _ => .str x
theorem ee_gint {x : Str} {i : Int} {t : Tok} {pos : Pos} (hg : Gl X x) (hm : X.mg x = some (.int i t)) (hd : (x == ("__debug__" : Str)) = false := by decide) : EE X q W (.Name x pos) (eC (.int i)) :=
  ee_const (v := .int i) (pe_glob hg hm ⟨t, rfl⟩ hd) fun _ _ => .int i
theorem ee_gl {x : Str} {f : Addr} {pos : Pos} (hg : Gl X x) (hm : X.mg x = some (.ref f)) (hd : (x == ("__debug__" : Str)) = false := by decide) : EE X q W (.Name x pos) (eC (.gl x)) :=
  ee_const (v := .ref f) (pe_glob hg hm rfl hd) fun _ _ => .gl hm
theorem ee_ty {x : Str} {n : String} {pos : Pos} (hg : Gl X x) (hm : X.mg x = none) (hv : bootBuiltins x = some (.type n)) (hn : x ≠ "__name__" := by decide) (hd : (x == ("__debug__" : Str)) = false := by decide) : EE X q W (.Name x pos) (eC (.ty n)) :=
  ee_const (v := .ty n) (pe_bltn hg hm hv rfl hn hd) fun _ _ => .ty n
def tG2 (g : Gx) (W : XW) (h : D → D → Store → R D) : R2 := fun x y H Q => ∃ d e μ α, Rv g α H d x ∧ Rv g α H e y ∧ SR g μ α H ∧ Pst g W α H (h d e μ) (kE g Q)
structure O2 (X : Cx) (q : Q0) (W : XW) (f : Value → Value → Sem Value) (h : D → D → Store → R D) : Prop where
  p : OpR X f (tG2 (gx X q) W h)
def eBin (h : D → D → Store → R D) (a b : EF) : EF := fun ρ μ => (a ρ μ).bind fun d μ1 => (b ρ μ1).bind fun e μ2 => h d e μ2
theorem bin_tr {h : D → D → Store → R D} {ra rb : EF} {g : Gx} {σ : St} {H : Hp} {Q : VK} (hh : tEv g W (eBin h ra rb) σ H Q) : tOp (tG2 g W h) (tEv g W ra) (tEv g W rb) σ H Q := by
  obtain ⟨ρ, μ, α, C, P⟩ := hh
  refine ⟨ρ, μ, α, C, P.bind.imp fun d μ1 α1 H1 w1 s1 P1 v rv => ?_⟩
  exact ⟨ρ, μ1, α1, ⟨C.st.grow w1, s1⟩, P1.bind.imp fun e μ2 α2 H2 w2 s2 P2 u ru => ⟨d, e, μ2, α2, rv.mv w2, ru, s2, P2⟩⟩
variable {a b c e : Expr} {es : List Expr} {ra rb rc : EF} {pos : Pos}
theorem ee_bin {op : Operator} {h : D → D → Store → R D} (ho : O2 X q W (binaryOp op) h) (ha : EE X q W a ra) (hb : EE X q W b rb) : EE X q W (.BinOp a op b pos) (eBin h ra rb) :=
  ⟨PE.imp (pe_op ho.p ha.p hb.p) fun σ H Q hh => bin_tr hh⟩
theorem ee_cmp {op : CmpOp} {h : D → D → Store → R D} (ho : O2 X q W (compareOp op) h) (ha : EE X q W a ra) (hb : EE X q W b rb) (hm : behindInMarks op b = false := by first | exact nomark _ | rfl) : EE X q W (.Compare a [op] [b] pos) (eBin h ra rb) :=
  ⟨PE.imp (pe_cmpR ho.p ha.p hb.p hm) fun σ H Q hh => bin_tr hh⟩
def tB1 (r : EF) : TF := fun ρ μ => (r ρ μ).bind fun d μ1 => match d with
  | .bl b => .ok b μ1
  | _ => .bad
theorem et_cmp {op : CmpOp} {h : D → D → Store → R D} (ho : O2 X q W (compareOp op) h) (ha : EE X q W a ra) (hb : EE X q W b rb) (hm : behindInMarks op b = false := by first | exact nomark _ | rfl) : ET X q W (.Compare a [op] [b] pos) (tB1 (eBin h ra rb)) := by
  refine ⟨PT.imp (pt_cmpR ho.p ha.p hb.p hm) fun σ H Q hh => ?_⟩
  obtain ⟨ρ, μ, α, C, P⟩ := hh
  refine bin_tr ⟨ρ, μ, α, C, P.bind.imp fun d μ1 α1 H1 w1 s1 P1 v rv => ?_⟩
  cases d with
  | bl b => cases rv; exact ⟨b, rfl, P1.out s1⟩
  | _ => exact P1.elim
def eChain (h h' : D → D → Store → R D) (a b c : EF) : EF := fun ρ μ => (a ρ μ).bind fun d μ1 => (b ρ μ1).bind fun e μ2 => (h d e μ2).bind fun z μ3 => match z with
  | .bl true => (c ρ μ3).bind fun f μ4 => h' e f μ4
  | .bl false => .ok (.bl false) μ3
  | _ => .bad
theorem chain_tr {h h' : D → D → Store → R D} {g : Gx} {σ : St} {H : Hp} {Q : VK} (hh : tEv g W (eChain h h' ra rb rc) σ H Q) : tChain (tG2 g W h) (tG2 g W h') (tEv g W ra) (tEv g W rb) (tEv g W rc) σ H Q := by
  obtain ⟨ρ, μ, α, C, P⟩ := hh
  refine ⟨ρ, μ, α, C, P.bind.imp fun d μ1 α1 H1 w1 s1 P1 v rv => ?_⟩
  refine ⟨ρ, μ1, α1, ⟨C.st.grow w1, s1⟩, P1.bind.imp fun e μ2 α2 H2 w2 s2 P2 u ru => ⟨d, e, μ2, α2, rv.mv w2, ru, s2, P2.bind.imp fun z μ3 α3 H3 w3 s3 P3 zv rz => ?_⟩⟩
  cases z with
  | bl k =>
    cases rz
    refine ⟨k, rfl, ?_⟩
    cases k with
    | true => exact iteT ⟨ρ, μ3, α3, ⟨((C.st.grow w1).grow w2).grow w3, s3⟩, P3.bind.imp fun f μ4 α4 H4 w4 s4 P4 y ry => ⟨e, f, μ4, α4, (ru.mv w3).mv w4, ry, s4, P4⟩⟩
    | false => exact iteF (P3.out s3 _ (.bl false))
  | _ => exact P3.elim
theorem ee_chain {op op' : CmpOp} {h h' : D → D → Store → R D} (ho : O2 X q W (compareOp op) h) (ho' : O2 X q W (compareOp op') h') (ha : EE X q W a ra) (hb : EE X q W b rb) (hc : EE X q W c rc)
    (hm : lastMarks [op, op'] [b, c] = false := by with_unfolding_all rfl) : EE X q W (.Compare a [op, op'] [b, c] pos) (eChain h h' ra rb rc) :=
  ⟨PE.imp (pe_chain ho.p ho'.p ha.p hb.p hc.p hm) fun σ H Q hh => chain_tr hh⟩
def eAnd (a b : EF) : EF := fun ρ μ => (a ρ μ).bind fun d μ1 => match d with
  | .bl true => b ρ μ1
  | .bl false => .ok (.bl false) μ1
  | _ => .bad
def eOr (a b : EF) : EF := fun ρ μ => (a ρ μ).bind fun d μ1 => match d with
  | .bl true => .ok (.bl true) μ1
  | .bl false => b ρ μ1
  | _ => .bad
variable {rest : List Expr} {ta tb tc : TF}
theorem ee_one {op} (h : EE X q W a ra) : EE X q W (.BoolOp op [a] pos) ra := ⟨pe_one h.p⟩
theorem ee_and (ha : EE X q W a ra) (hb : EE X q W (.BoolOp .And (b :: rest) pos) rb) : EE X q W (.BoolOp .And (a :: b :: rest) pos) (eAnd ra rb) := by
  refine ⟨PE.imp (pe_and ha.p hb.p) fun σ H Q hh => ?_⟩
  obtain ⟨ρ, μ, α, C, P⟩ := hh
  refine ⟨ρ, μ, α, C, P.bind.imp fun d μ1 α1 H1 w1 s1 P1 v rv => ?_⟩
  cases d with
  | bl k =>
    cases rv
    refine ⟨k, rfl, ?_⟩
    cases k with
    | true => exact iteT ⟨ρ, μ1, α1, ⟨C.st.grow w1, s1⟩, P1⟩
    | false => exact iteF (P1.out s1 _ (.bl false))
  | _ => exact P1.elim
def eNotB (a : EF) : EF := fun ρ μ => (a ρ μ).bind fun d μ1 => match d with
  | .bl c => .ok (.bl (!c)) μ1
  | _ => .bad
theorem ee_not (ha : EE X q W a ra) : EE X q W (.UnaryOp .Not a pos) (eNotB ra) := by
  refine ⟨PE.imp (pe_not ha.p) fun σ H Q hh => ?_⟩
  obtain ⟨ρ, μ, α, C, P⟩ := hh
  refine ⟨ρ, μ, α, C, P.bind.imp fun d μ1 α1 H1 w1 s1 P1 v rv => ?_⟩
  cases d with
  | bl k => cases rv; exact ⟨k, rfl, P1.out s1 _ (.bl _)⟩
  | _ => exact P1.elim
def tNotF (a : TF) : TF := fun ρ μ => (a ρ μ).bind fun c μ1 => .ok (!c) μ1
def tAndF (a b : TF) : TF := fun ρ μ => (a ρ μ).bind fun c μ1 => match c with
  | true => b ρ μ1
  | false => .ok false μ1
def tOrF (a b : TF) : TF := fun ρ μ => (a ρ μ).bind fun c μ1 => match c with
  | true => .ok true μ1
  | false => b ρ μ1
theorem et_not (ha : ET X q W a ta) : ET X q W (.UnaryOp .Not a pos) (tNotF ta) := by
  refine ⟨PT.imp (pt_not ha.p) fun σ H Q hh => ?_⟩
  obtain ⟨ρ, μ, α, C, P⟩ := hh
  exact ⟨ρ, μ, α, C, P.bind.imp fun d μ1 α1 H1 w1 s1 P1 => P1.out s1⟩
theorem ew_and1 (ha : ET X q W a ta) : EW X q W (.BoolOp .And [a] pos) ta := ⟨pw_and1 ha.p⟩
theorem ew_or1 (ha : ET X q W a ta) : EW X q W (.BoolOp .Or [a] pos) ta := ⟨pw_or1 ha.p⟩
theorem ew_and (ha : ET X q W a ta) (hb : EW X q W (.BoolOp .And (b :: rest) pos) tb) : EW X q W (.BoolOp .And (a :: b :: rest) pos) (tAndF ta tb) := by
  refine ⟨PW.imp (pw_and ha.p hb.p) fun σ H Q hh => ?_⟩
  obtain ⟨ρ, μ, α, C, P⟩ := hh
  refine ⟨ρ, μ, α, C, P.bind.imp fun k μ1 α1 H1 w1 s1 P1 => ?_⟩
  cases k with
  | true => exact iteT ⟨ρ, μ1, α1, ⟨C.st.grow w1, s1⟩, P1⟩
  | false => exact iteF (P1.out s1)
theorem ew_or (ha : ET X q W a ta) (hb : EW X q W (.BoolOp .Or (b :: rest) pos) tb) : EW X q W (.BoolOp .Or (a :: b :: rest) pos) (tOrF ta tb) := by
  refine ⟨PW.imp (pw_or ha.p hb.p) fun σ H Q hh => ?_⟩
  obtain ⟨ρ, μ, α, C, P⟩ := hh
  refine ⟨ρ, μ, α, C, P.bind.imp fun k μ1 α1 H1 w1 s1 P1 => ?_⟩
  cases k with
  | true => exact iteT (P1.out s1)
  | false => exact iteF ⟨ρ, μ1, α1, ⟨C.st.grow w1, s1⟩, P1⟩
theorem et_w (h : EW X q W a ta) : ET X q W a ta := ⟨h.p.pt⟩
def eIf (t : TF) (a b : EF) : EF := fun ρ μ => (t ρ μ).bind fun c μ1 => match c with
  | true => a ρ μ1
  | false => b ρ μ1
def lstOf (ns : List Int) (μ : Store) : D → Option (List D)
  | .ob i => match μ[i]? with
    | some (.lst xs) => some xs
    | _ => none
  | .scr => some (ns.map D.int)
  | _ => none
theorem Rvs.ints {g : Gx} {α : List Addr} {H : Hp} : ∀ ns : List Int, Rvs g α H (ns.map D.int) (ns.map V.int)
  | [] => .nil
  | n :: ns => .cons (.int n) (Rvs.ints ns)
theorem lst_sq {g : Gx} {α : List Addr} {H : Hp} {μ : Store} {d : D} {v : V} {xs : List D} (S : SR g μ α H) (r : Rv g α H d v) (h : lstOf g.ns μ d = some xs) : ∃ a vs, v = .ref a ∧ SqL g.K H a vs ∧ Rvs g α H xs vs := by
  cases d with
  | ob i =>
    cases r with
    | ob e =>
      unfold lstOf at h
      dsimp only at h
      split at h
      · rename_i ys hi
        cases h
        obtain ⟨a, ha, vs, h1, h2⟩ := S.at_ i _ hi
        rw [e] at ha; cases ha
        exact ⟨_, vs, rfl, SqL.of h1, h2⟩
      · cases h
  | scr =>
    cases r
    cases h
    exact ⟨_, _, rfl, S.scr.sq, Rvs.ints _⟩
  | _ => cases h
def truD (ns : List Int) (μ : Store) : D → Option Bool
  | .non => some false
  | .bl b => some b
  | .int i => some (i != 0)
  | .str y => if y.length ≤ sizeLine then some ((y.length : Int) != 0) else none
  | .tup xs => some (!xs.isEmpty)
  | .ob i => match μ[i]? with
    | some (.lst xs) => some (!xs.isEmpty)
    | some (.dic kvs) => some (!kvs.isEmpty)
    | _ => none
  | .scr => some (!ns.isEmpty)
  | _ => none
theorem emp_of {g : Gx} {α : List Addr} {H : Hp} {xs : List D} {vs : List V} (r : Rvs g α H xs vs) : xs.isEmpty = vs.isEmpty := by cases r <;> rfl
theorem tru_tr {α : List Addr} {H : Hp} {μ : Store} {d : D} {v : V} {k : Bool} (S : SR (gx X q) μ α H) (r : Rv (gx X q) α H d v) (h : truD q.ns μ d = some k) : TruV X.K v H k := by
  cases d with
  | non => cases r; cases h; rfl
  | bl b => cases r; cases h; rfl
  | int i => cases r; cases h; rfl
  | str y =>
    cases r
    unfold truD at h
    dsimp only at h
    split at h
    · cases h; exact ⟨by assumption, rfl⟩
    · cases h
  | tup xs =>
    cases r with
    | tup hs hr => cases h; exact .inr (.inl ⟨_, hs, by rw [emp_of hr]⟩)
  | ob i =>
    cases r with
    | ob e =>
      unfold truD at h
      dsimp only at h
      split at h
      · rename_i ys hi
        cases h
        obtain ⟨a, ha, vs, h1, h2⟩ := S.at_ i _ hi
        rw [e] at ha; cases ha
        exact .inl ⟨vs, SqL.of h1, by rw [emp_of h2]⟩
      · rename_i kvs hi
        cases h
        obtain ⟨a, ha, vs, h1, h2⟩ := S.at_ i _ hi
        rw [e] at ha; cases ha
        refine .inr (.inr ⟨_, h1, ?_⟩)
        have z := h2.len
        rw [List.length_map] at z
        cases kvs with
        | nil => cases vs with
          | nil => rfl
          | cons _ _ => cases z
        | cons _ _ => cases vs with
          | nil => cases z
          | cons _ _ => rfl
      · cases h
  | scr =>
    cases r
    cases h
    refine .inl ⟨_, S.scr.sq, ?_⟩
    cases hq : q.ns <;> simp [gx, hq]
  | _ => cases h
def tTru (ns : List Int) (r : EF) : TF := fun ρ μ => (r ρ μ).bind fun d μ1 => match truD ns μ1 d with
  | some k => .ok k μ1
  | none => .bad
theorem et_tru (ha : EE X q W a ra) (he : ∀ whole, isTrue a X.env whole = (do let v ← whole; standAt a.pos; holding [v] (truthy v)) := by intro _; rfl) : ET X q W a (tTru q.ns ra) := by
  refine ⟨PT.imp (pt_truth ha.p he) fun σ H Q hh => ?_⟩
  obtain ⟨ρ, μ, α, C, P⟩ := hh
  refine ⟨ρ, μ, α, C, P.bind.imp fun d μ1 α1 H1 w1 s1 P1 v rv => ?_⟩
  split at P1
  · rename_i k hk
    exact ⟨k, tru_tr s1 rv hk, P1.out s1⟩
  · exact P1.elim
def aNil : AF := fun _ μ => .ok [] μ
def aCons (a : EF) (r : AF) : AF := fun ρ μ => (a ρ μ).bind fun d μ1 => (r ρ μ1).bind fun ds μ2 => .ok (d :: ds) μ2
variable {rs : AF}
theorem ea_nil : EA X q W [] aNil := ⟨PA.imp pa_nil fun σ H Q ⟨ρ, μ, α, C, P⟩ => P.out C.sr [] .nil⟩
theorem ea_cons (ha : EE X q W e ra) (hr : EA X q W es rs) (hs : starEach (e :: es) X.env = (false, eval e X.env) :: starEach es X.env := by rfl) : EA X q W (e :: es) (aCons ra rs) := by
  refine ⟨PA.imp (pa_cons ha.p hr.p hs) fun σ H Q hh => ?_⟩
  obtain ⟨ρ, μ, α, C, P⟩ := hh
  refine ⟨ρ, μ, α, C, P.bind.imp fun d μ1 α1 H1 w1 s1 P1 v rv => ?_⟩
  exact ⟨ρ, μ1, α1, ⟨C.st.grow w1, s1⟩, P1.bind.imp fun ds μ2 α2 H2 w2 s2 P2 vs rvs => P2.out s2 _ (.cons (rv.mv w2) rvs)⟩
def mkTup (ds : List D) (μ : Store) : R D := if ds.length ≤ sizeLine then .ok (.tup ds) μ else .bad
def mkLst (ds : List D) (μ : Store) : R D := if ds.length ≤ sizeLine then .ok (.ob μ.length) (μ ++ [.lst ds]) else .bad
def eTup (r : AF) : EF := fun ρ μ => (r ρ μ).bind mkTup
def eLst (r : AF) : EF := fun ρ μ => (r ρ μ).bind mkLst
theorem tup_tr {g : Gx} {α : List Addr} {H : Hp} {μ : Store} {ds : List D} {vs : List V} {Q : VK} (S : SR g μ α H) (P : Pst g W α H (mkTup ds μ) (kE g Q)) (r : Rvs g α H ds vs) : vs.length ≤ sizeLine ∧ ∀ p, H p = none → Q (.ref p) (upd H p (.tup vs)) := by
  unfold mkTup at P
  split at P
  · rename_i hl
    refine ⟨by rw [← r.len]; exact hl, fun p hp => ?_⟩
    exact P.out2 (grow_new hp) (S.keepN hp) _ (.tup (.of upd_same) (r.mv (grow_new hp)))
  · exact P.elim
theorem new_lst {g : Gx} {α : List Addr} {H : Hp} {μ : Store} {ds : List D} {vs : List V} {p : Addr} (S : SR g μ α H) (r : Rvs g α H ds vs) (hp : H p = none) :
    SR g (μ ++ [.lst ds]) (α ++ [p]) (upd H p (.lst vs)) ∧ Grow g α H (α ++ [p]) (upd H p (.lst vs)) ∧ Rv g (α ++ [p]) (upd H p (.lst vs)) (.ob μ.length) (.ref p) := by
  have w : Grow g α H (α ++ [p]) (upd H p (.lst vs)) := ⟨fun i a h => by
    rw [List.getElem?_append_left (List.getElem?_eq_some_iff.mp h).1]; exact h, (grow_new (α := α) hp).tup⟩
  obtain ⟨h1, h2⟩ := S.new (o := .lst ds) (u := .lst vs) hp ⟨vs, upd_same, r.mv w⟩
  refine ⟨h1, h2, .ob ?_⟩
  rw [List.getElem?_append_right (by rw [S.len]; exact Nat.le_refl _), S.len, Nat.sub_self]; rfl
theorem lst_tr {g : Gx} {α : List Addr} {H : Hp} {μ : Store} {ds : List D} {vs : List V} {Q : VK} (S : SR g μ α H) (P : Pst g W α H (mkLst ds μ) (kE g Q)) (r : Rvs g α H ds vs) : vs.length ≤ sizeLine ∧ ∀ p, H p = none → Q (.ref p) (upd H p (.lst vs)) := by
  unfold mkLst at P
  split at P
  · rename_i hl
    refine ⟨by rw [← r.len]; exact hl, fun p hp => ?_⟩
    obtain ⟨h1, h2, h3⟩ := new_lst S r hp
    exact P.out2 h2 h1 _ h3
  · exact P.elim
theorem ee_tup {x1} (h : EA X q W es rs) : EE X q W (.Tuple es x1 pos) (eTup rs) := by
  refine ⟨PE.imp (pe_tup h.p) fun σ H Q hh => ?_⟩
  obtain ⟨ρ, μ, α, C, P⟩ := hh
  exact ⟨ρ, μ, α, C, P.bind.imp fun ds μ1 α1 H1 w1 s1 P1 vs rv => tup_tr s1 P1 rv⟩
theorem ee_lst (h : EA X q W es rs) : EE X q W (.List es pos) (eLst rs) := by
  refine ⟨PE.imp (pe_lst h.p) fun σ H Q hh => ?_⟩
  obtain ⟨ρ, μ, α, C, P⟩ := hh
  exact ⟨ρ, μ, α, C, P.bind.imp fun ds μ1 α1 H1 w1 s1 P1 vs rv => lst_tr s1 P1 rv⟩
def seqOf (ns : List Int) (μ : Store) : D → Option (List D)
  | .tup xs => some xs
  | d => lstOf ns μ d
def ixD (ns : List Int) (d e : D) (μ : Store) : R D := match e with
  | .int i => match seqOf ns μ d with
    | some xs => match atI xs i with
      | some y => .ok y μ
      | none => .bad
    | none => .bad
  | _ => .bad
theorem atI_rv {g : Gx} {α : List Addr} {H : Hp} {xs : List D} {vs : List V} {i : Int} {y : D} (r : Rvs g α H xs vs) (h : atI xs i = some y) : ∃ v, atI vs i = some v ∧ Rv g α H y v := by
  unfold atI at h ⊢
  rw [← r.len]
  cases hi : ixN xs.length i with
  | none => rw [hi] at h; cases h
  | some j =>
    rw [hi] at h
    obtain ⟨v, h1, h2⟩ := r.get (show xs[j]? = some y from h)
    exact ⟨v, h1, h2⟩
theorem ix_tr {x y : V} {H : Hp} {Q : VK} (hh : tG2 (gx X q) W (ixD q.ns) x y H Q) : rIx X.K x y H Q := by
  obtain ⟨d, e, μ, α, rd, re, S, P⟩ := hh
  unfold ixD at P
  cases e with
  | int i =>
    cases re
    dsimp only at P
    split at P
    · rename_i xs hx
      split at P
      · rename_i z hz
        by_cases ht : ∃ ys, d = .tup ys
        · obtain ⟨ys, rfl⟩ := ht
          cases hx
          cases rd with
          | tup hs hr =>
            obtain ⟨v, h1, h2⟩ := atI_rv hr hz
            exact .inr (.inl ⟨_, _, i, v, rfl, rfl, hs, h1, P.out S v h2⟩)
        · have hx' : lstOf (gx X q).ns μ d = some xs := by
            cases d with
            | tup ys => exact absurd ⟨ys, rfl⟩ ht
            | _ => exact hx
          obtain ⟨a, vs, rfl, hs, hr⟩ := lst_sq S rd hx'
          obtain ⟨v, h1, h2⟩ := atI_rv hr hz
          exact .inl ⟨_, _, i, v, rfl, rfl, hs, h1, P.out S v h2⟩
      · exact P.elim
    · exact P.elim
  | _ => exact P.elim
theorem IxR.imp {r r' : R2} (h : IxR X r) (f : ∀ x y H Q, r' x y H Q → r x y H Q) : IxR X r' := fun value slice pins s σ H x y v u Q I rx ry hq hs => h value slice pins s σ H x y v u Q I rx ry (f _ _ _ _ hq) hs
theorem ee_ix (ha : EE X q W a ra) (hb : EE X q W b rb) (hs : PlainIx b := by intro _ _; rfl) : EE X q W (.Subscript a b pos) (eBin (ixD q.ns) ra rb) :=
  ⟨PE.imp (pe_ix (IxR.imp ix_seq fun _ _ _ _ h => ix_tr (W := W) h) ha.p hb.p hs) fun σ H Q hh => bin_tr hh⟩
end
end Ev

end
section
set_option Elab.async false
set_option linter.all false
set_option maxRecDepth 100000
set_option maxHeartbeats 1000000
namespace Ev
open PySem PySem.Spec PyProof.Rows L2
section
variable {X : Cx} {q : Q0} {W : XW} {st : Stmt} {rest sts : List Stmt} {r u : SF} {a b c e tg : Expr} {es : List Expr} {ra rb : EF} {ta : TF} {rs : AF} {pos : Pos}
def sNext : SF := fun ρ μ => .ok (.nx ρ) μ
def sSeq (r u : SF) : SF := fun ρ μ => (r ρ μ).bind fun f μ1 => match f with
  | .nx ρ1 => u ρ1 μ1
  | f => .ok f μ1
theorem ess_nil : ESs X q W [] sNext := ⟨PSs.imp pss_nil fun E σ H ⟨ρ, μ, α, C, P⟩ => P.out C.sr σ C.st⟩
theorem ess_cons (h1 : ES X q W st r) (h2 : ESs X q W rest u) : ESs X q W (st :: rest) (sSeq r u) := by
  refine ⟨PSs.imp (pss_cons h1.p h2.p) fun E σ H hh => ?_⟩
  obtain ⟨ρ, μ, α, C, P⟩ := hh
  refine ⟨ρ, μ, α, C, P.bind.imp fun f μ1 α1 H1 w1 s1 P1 => ?_⟩
  cases f with
  | nx ρ1 => exact fun σ1 hs => ⟨ρ1, μ1, α1, ⟨hs, s1⟩, P1⟩
  | rt d => exact P1.out s1
  | bk ρ1 => exact P1.out s1
  | ct ρ1 => exact P1.out s1
theorem ess_one (h1 : ES X q W st r) : ESs X q W [st] r := ⟨pss_one h1.p⟩
def sBreak : SF := fun ρ μ => .ok (.bk ρ) μ
def sCont : SF := fun ρ μ => .ok (.ct ρ) μ
def sNever : SF := fun _ _ => .bad
def sDrop (r : EF) : SF := fun ρ μ => (r ρ μ).bind fun _ μ1 => .ok (.nx ρ) μ1
theorem Pst.vals {β : Type} {g : Gx} {α : List Addr} {H : Hp} {res : R D} {k : D → Store → List Addr → Hp → Prop} (h : Pst g W α H res k) (f : ∀ d μ' α' H', Grow g α H α' H' → SR g μ' α' H' → k d μ' α' H' → ∀ v, Rv g α' H' d v → True) : True := trivial
theorem es_expr (he : EE X q W e ra) (hs : swapsWith e none pos.line X.env = pure false := by rfl) : ES X q W (.Expr e pos) (sDrop ra) := by
  refine ⟨PS.imp (ps_expr he.p hs) fun E σ H hh => ?_⟩
  obtain ⟨ρ, μ, α, C, P⟩ := hh
  exact ⟨ρ, μ, α, C, P.bind.imp fun d μ1 α1 H1 w1 s1 P1 v rv => P1.out s1 σ (C.st.grow w1)⟩
def sRet (r : EF) : SF := fun ρ μ => (r ρ μ).bind fun d μ1 => .ok (.rt d) μ1
theorem es_ret (he : EE X q W e ra) : ES X q W (.Return (some e) pos) (sRet ra) := by
  refine ⟨PS.imp (ps_ret he.p) fun E σ H hh => ?_⟩
  obtain ⟨ρ, μ, α, C, P⟩ := hh
  exact ⟨ρ, μ, α, C, P.bind.imp fun d μ1 α1 H1 w1 s1 P1 v rv => P1.out s1 v rv⟩
def sRetN : SF := fun ρ μ => .ok (.rt .non) μ
def sIf (t : TF) (r u : SF) : SF := fun ρ μ => (t ρ μ).bind fun c μ1 => match c with
  | true => r ρ μ1
  | false => u ρ μ1
theorem es_if {x y : List Stmt} (hc : ET X q W c ta) (ha : ESs X q W x r) (hb : ESs X q W y u) : ES X q W (.If c x y pos) (sIf ta r u) := by
  refine ⟨PS.imp (ps_if hc.p ha.p hb.p) fun E σ H hh => ?_⟩
  obtain ⟨ρ, μ, α, C, P⟩ := hh
  refine ⟨ρ, μ, α, C, P.bind.imp fun k μ1 α1 H1 w1 s1 P1 => ?_⟩
  cases k with
  | true => exact iteT ⟨ρ, μ1, α1, ⟨C.st.grow w1, s1⟩, P1⟩
  | false => exact iteF ⟨ρ, μ1, α1, ⟨C.st.grow w1, s1⟩, P1⟩
abbrev GF := D → Ro → Store → R Ro
def kG (g : Gx) (Q : St → Hp → Prop) : Ro → Store → List Addr → Hp → Prop := fun ρ _ α' H' => ∀ σ, StR g α' H' ρ σ → Q σ H'
def tgEv (g : Gx) (W : XW) (r : GF) : TG := fun v σ H Q => ∃ d ρ μ α, Rv g α H d v ∧ Cf g ρ μ α σ H ∧ Pst g W α H (r d ρ μ) (kG g Q)
def tgsEv (g : Gx) (W : XW) (r : List D → Ro → Store → R Ro) : TGs := fun vs σ H Q => ∃ ds ρ μ α, Rvs g α H ds vs ∧ Cf g ρ μ α σ H ∧ Pst g W α H (r ds ρ μ) (kG g Q)
structure EG (X : Cx) (q : Q0) (W : XW) (e : Expr) (r : GF) : Prop where
  p : PG X e (tgEv (gx X q) W r)
structure EGs (X : Cx) (q : Q0) (W : XW) (es : List Expr) (r : List D → Ro → Store → R Ro) : Prop where
  p : PGs X es (tgsEv (gx X q) W r)
theorem PG.imp {t t' : TG} (h : PG X tg t) (f : ∀ v σ H Q, t' v σ H Q → t v σ H Q) : PG X tg t' := fun pins s σ H v u Q I rv hq => h pins s σ H v u Q I rv (f _ _ _ _ hq)
theorem PGs.imp {t t' : TGs} (h : PGs X es t) (f : ∀ v σ H Q, t' v σ H Q → t v σ H Q) : PGs X es t' := fun pins s σ H v u Q I rv hq => h pins s σ H v u Q I rv (f _ _ _ _ hq)
def gN (i : Nat) : GF := fun d ρ μ => .ok (ρ.set i (some d)) μ
theorem eg_name {i : Nat} {x : Str} (hN : X.N.Nodup) (hi : X.N[i]? = some x) (hx : Loc X.env.scope x) (hf : X.fn x = true ∨ X.env.scope.names.lookup x = some .local := by first | exact .inl rfl | exact .inr rfl | assumption) : EG X q W (.Name x pos) (gN i) := by
  refine ⟨PG.imp (pg_name hN hi hx hf) fun v σ H Q hh => ?_⟩
  obtain ⟨d, ρ, μ, α, rd, C, P⟩ := hh
  exact P.out C.sr _ (C.st.set rd i)
def gNil' : List D → Ro → Store → R Ro
  | [], ρ, μ => .ok ρ μ
  | _ :: _, _, _ => .bad
def gCons' (r : GF) (t : List D → Ro → Store → R Ro) : List D → Ro → Store → R Ro
  | [], _, _ => .bad
  | d :: ds, ρ, μ => (r d ρ μ).bind fun ρ1 μ1 => t ds ρ1 μ1
theorem egs_nil : EGs X q W [] gNil' := by
  refine ⟨PGs.imp pgs_nil fun v σ H Q hh => ?_⟩
  obtain ⟨ds, ρ, μ, α, rd, C, P⟩ := hh
  cases ds with
  | nil => cases rd; exact ⟨rfl, P.out C.sr _ C.st⟩
  | cons _ _ => exact P.elim
theorem egs_cons {g1 : GF} {gs : List D → Ro → Store → R Ro} (h1 : EG X q W e g1) (h2 : EGs X q W es gs)
    (hs : (assignEach (e :: es) X.env).map (·.2) = assign e X.env :: (assignEach es X.env).map (·.2) := by rfl) : EGs X q W (e :: es) (gCons' g1 gs) := by
  refine ⟨PGs.imp (pgs_cons h1.p h2.p hs) fun v σ H Q hh => ?_⟩
  obtain ⟨ds, ρ, μ, α, rd, C, P⟩ := hh
  cases ds with
  | nil => exact P.elim
  | cons d ds =>
    cases rd with
    | cons r1 r2 =>
      exact ⟨_, _, rfl, d, ρ, μ, α, r1, C, P.bind.imp fun ρ1 μ1 α1 H1 w1 s1 P1 σ1 hs1 => ⟨ds, ρ1, μ1, α1, r2.mv w1, ⟨hs1, s1⟩, P1⟩⟩
def gT (n : Nat) (t : List D → Ro → Store → R Ro) : GF := fun d ρ μ => match d with
  | .tup xs => if xs.length = n then t xs ρ μ else .bad
  | _ => .bad
theorem eg_tup {k n : Nat} {gs : List D → Ro → Store → R Ro} (hc : X.calm = true) (h : EGs X q W es gs)
    (hn : (assignEach es X.env).length = n := by rfl) (hst : (assignEach es X.env).findIdx? (·.1) = none := by rfl) : EG X q W (.Tuple es k pos) (gT n gs) := by
  refine ⟨PG.imp (pg_tup hc h.p hn hst) fun v σ H Q hh => ?_⟩
  obtain ⟨d, ρ, μ, α, rd, C, P⟩ := hh
  cases d with
  | tup xs =>
    cases rd with
    | tup hs hr =>
      unfold gT at P
      dsimp only at P
      split at P
      · rename_i hl
        exact ⟨_, _, rfl, hs, by rw [← hr.len]; exact hl, xs, ρ, μ, α, hr, C, P⟩
      · exact P.elim
  | _ => exact P.elim
def setD (o i d : D) (μ : Store) : R Unit := match o, i with
  | .ob j, .int k => match μ[j]? with
    | some (.lst xs) => match ixN xs.length k with
      | some m => .ok () (μ.set j (.lst (xs.set m d)))
      | none => .bad
    | _ => .bad
  | _, _ => .bad
def gIx (o i : EF) : GF := fun d ρ μ => (o ρ μ).bind fun od μ1 => (i ρ μ1).bind fun id μ2 => (setD od id d μ2).bind fun _ μ3 => .ok ρ μ3
theorem set_tr {g : Gx} {α : List Addr} {H : Hp} {μ : Store} {o i d : D} {ov iv v : V} {Q : Hp → Prop} (S : SR g μ α H) (ro : Rv g α H o ov) (ri : Rv g α H i iv) (rd : Rv g α H d v)
    (P : Pst g W α H (setD o i d μ) (fun _ _ _ H' => Q H')) : rSetL ov iv v H Q := by
  unfold setD at P
  split at P
  · rename_i j k
    cases ri
    cases ro with
    | ob e =>
      split at P
      · rename_i xs hj
        split at P
        · rename_i m hm
          obtain ⟨a, ha, vs, h1, h2⟩ := S.at_ j _ hj
          rw [e] at ha; cases ha
          refine ⟨_, vs, k, m, rfl, rfl, h1, by rw [← h2.len]; exact hm, ?_⟩
          have w : Grow g α H α (upd H _ (.lst (vs.set m v))) := grow_write S hj e
          exact P.out2 w (S.write hj e w ⟨_, upd_same, (h2.set rd m).mv w⟩)
        · exact P.elim
      · exact P.elim
  · exact P.elim
theorem eg_ix {o i : Expr} {ro ri : EF} (ho : EE X q W o ro) (hi : EE X q W i ri)
    (ha : ∀ v, assign (.Subscript o i pos) X.env v = (do
      let ov ← holding [v] (eval o X.env)
      let iv ← holding [v, ov] (eval i X.env)
      standAt pos
      holding [v, ov, iv] (setItem ov iv v)
      release [v, ov, iv] []) := by intro _; rfl) : EG X q W (.Subscript o i pos) (gIx ro ri) := by
  refine ⟨PG.imp (pg_sub ho.p hi.p set_list ha) fun v σ H Q hh => ?_⟩
  obtain ⟨d, ρ, μ, α, rd, C, P⟩ := hh
  refine ⟨ρ, μ, α, C, P.bind.imp fun od μ1 α1 H1 w1 s1 P1 ov rov => ?_⟩
  refine ⟨ρ, μ1, α1, ⟨C.st.grow w1, s1⟩, P1.bind.imp fun id μ2 α2 H2 w2 s2 P2 iv riv => ?_⟩
  refine set_tr s2 (rov.mv w2) riv ((rd.mv w1).mv w2) (P2.bind.imp fun _ μ3 α3 H3 w3 s3 P3 => ?_)
  exact P3.out s3 σ (((C.st.grow w1).grow w2).grow w3)
def sAsg (r : EF) (g : GF) : SF := fun ρ μ => (r ρ μ).bind fun d μ1 => (g d ρ μ1).bind fun ρ1 μ2 => .ok (.nx ρ1) μ2
theorem asg_tr {g : Gx} {g1 : GF} {E : Ends} {σ : St} {H : Hp} (hh : tsEv g W (sAsg ra g1) E σ H) : tAsg (tEv g W ra) (tgEv g W g1) E σ H := by
  obtain ⟨ρ, μ, α, C, P⟩ := hh
  refine ⟨ρ, μ, α, C, P.bind.imp fun d μ1 α1 H1 w1 s1 P1 v rv => ?_⟩
  exact ⟨d, ρ, μ1, α1, rv, ⟨C.st.grow w1, s1⟩, P1.bind.imp fun ρ1 μ2 α2 H2 w2 s2 P2 => P2.out s2⟩
theorem es_asg {g1 : GF} (he : EE X q W e ra) (hg : EG X q W tg g1) (hs : swapsWithSole [tg] e pos.line X.env = pure false := by rfl) (hw : swappedStores [tg] e X.env = pure none := by rfl)
    (h1 : (assignEach [tg] X.env).map (·.2) = [assign tg X.env] := by rfl) : ES X q W (.Assign [tg] e pos) (sAsg ra g1) :=
  ⟨PS.imp (ps_asg he.p hg.p hs hw h1) fun E σ H hh => asg_tr hh⟩
theorem es_set {i : Nat} {x : Str} {pos' : Pos} (hN : X.N.Nodup) (hi : X.N[i]? = some x) (hx : Loc X.env.scope x) (he : EE X q W e ra) (hs : swapsWith e (some (.Name x pos')) pos.line X.env = pure false := by rfl) (hf : X.fn x = true ∨ X.env.scope.names.lookup x = some .local := by first | exact .inl rfl | exact .inr rfl | assumption) :
    ES X q W (.Assign [.Name x pos'] e pos) (sAsg ra (gN i)) := by
  refine ⟨PS.imp (ps_set hN hi hx he.p hs hf) fun E σ H hh => ?_⟩
  obtain ⟨ρ, μ, α, C, P⟩ := hh
  exact ⟨ρ, μ, α, C, P.bind.imp fun d μ1 α1 H1 w1 s1 P1 v rv => P1.out s1 _ ((C.st.grow w1).set rv i)⟩
def sAug (i : Nat) (r : EF) (f : Int → Int → Int) : SF := fun ρ μ => match ρ[i]? with
  | some (some (.int k)) => (r ρ μ).bind fun d μ1 => match d with
    | .int m => .ok (.nx (ρ.set i (some (.int (f k m))))) μ1
    | _ => .bad
  | _ => .bad
def sLoop (g : GF) (body : SF) : List D → SF
  | [], ρ, μ => .ok (.nx ρ) μ
  | d :: ds, ρ, μ => (g d ρ μ).bind fun ρ1 μ1 => (body ρ1 μ1).bind fun f μ2 => match f with
    | .nx ρ2 => sLoop g body ds ρ2 μ2
    | .ct ρ2 => sLoop g body ds ρ2 μ2
    | .bk ρ2 => .ok (.nx ρ2) μ2
    | .rt d => .ok (.rt d) μ2
abbrev IF_ := Ro → Store → R (List D)
structure Items (g : Gx) (α0 : List Addr) (H0 : Hp) (J : It) (ds : List D) : Prop where
  go : ∀ (i : Nat) α H, Grow g α0 H0 α H → i < ds.length → J.go i H
  yld : ∀ (i : Nat) α H μ x H', Grow g α0 H0 α H → SR g μ α H → J.yld i H x H' → i < ds.length → SR g μ α H' ∧ Grow g α H α H' ∧ ∃ d, ds[i]? = some d ∧ Rv g α H' d x
  stop : ∀ (i : Nat) α H, Grow g α0 H0 α H → ds.length ≤ i → J.stop i H
def tiEv (g : Gx) (W : XW) (r : IF_) : TI := fun σ H Q => ∃ ρ μ α, Cf g ρ μ α σ H ∧ Pst g W α H (r ρ μ) (fun ds _ α' H' => ∀ J, Items g α' H' J ds → Q J H')
structure EI (X : Cx) (q : Q0) (W : XW) (tg it : Expr) (r : IF_) : Prop where
  p : PI X tg it (tiEv (gx X q) W r)
theorem PI.imp {it : Expr} {t t' : TI} (h : PI X tg it t) (f : ∀ σ H Q, t' σ H Q → t σ H Q) : PI X tg it t' := fun pins s σ H Q I hq => h pins s σ H Q I (f _ _ _ hq)
def sFor (it : IF_) (g : GF) (body : SF) : SF := fun ρ μ => (it ρ μ).bind fun ds μ1 => sLoop g body ds ρ μ1
theorem loop_tr {g : Gx} {g1 : GF} {body : SF} {E : Ends} {J : It} {ds : List D} {α0 : List Addr} {H0 : Hp} (hI : Items g α0 H0 J ds) {ρ : Ro} {μ : Store} {σ : St} (C : Cf g ρ μ α0 σ H0)
    (P : Pst g W α0 H0 (sLoop g1 body ds ρ μ) (kS g E)) : ∃ Wv : Nat → Nat → St → Hp → Prop, (∃ m, Wv 0 m σ H0) ∧ ∀ i m σ H, Wv i m σ H →
      (J.stop i H ∧ E.nx σ H) ∨ (J.go i H ∧ ∃ N : St → Hp → Prop, (∀ σ' H', N σ' H' → ∃ m', m' < m ∧ Wv (i + 1) m' σ' H') ∧ ∀ x H', J.yld i H x H' → tgEv g W g1 x σ H' fun σ2 H2 => tsEv g W body { E with nx := N, ct := N, bk := E.nx } σ2 H2) := by
  let Inv' : Nat → St → Hp → Prop := fun i σ H => ∃ ρ μ α, Grow g α0 H0 α H ∧ Cf g ρ μ α σ H ∧ Pst g W α H (sLoop g1 body (ds.drop i) ρ μ) (kS g E)
  refine ⟨fun i m σ H => m = ds.length - i ∧ i ≤ ds.length ∧ Inv' i σ H, ⟨ds.length, by simp, Nat.zero_le _, ρ, μ, α0, .refl, C, by simpa using P⟩, ?_⟩
  rintro i m σ H ⟨rfl, hi, ρ, μ, α, w, C, P⟩
  by_cases hlt : i < ds.length
  · refine .inr ⟨hI.go i α H w hlt, Inv' (i + 1), fun σ' H' p' => ⟨ds.length - (i + 1), by omega, rfl, hlt, p'⟩, fun x H' y => ?_⟩
    obtain ⟨S', w', d, hd, rd⟩ := hI.yld i α H μ x H' w C.sr y hlt
    have e : ds.drop i = d :: ds.drop (i + 1) := by
      rw [List.drop_eq_getElem_cons hlt]
      rw [List.getElem?_eq_getElem hlt] at hd
      cases hd; rfl
    rw [e] at P
    have P' := Pst.grow P w'
    refine ⟨d, ρ, μ, α, rd, ⟨C.st.grow w', S'⟩, P'.bind.imp fun ρ1 μ1 α1 H1 w1 s1 P1 σ1 hs1 => ?_⟩
    refine ⟨ρ1, μ1, α1, ⟨hs1, s1⟩, P1.bind.imp fun f μ2 α2 H2 w2 s2 P2 => ?_⟩
    have wa : Grow g α0 H0 α2 H2 := ((w.trans w').trans w1).trans w2
    cases f with
    | nx ρ2 => exact fun σ2 hs2 => ⟨ρ2, μ2, α2, wa, ⟨hs2, s2⟩, P2⟩
    | ct ρ2 => exact fun σ2 hs2 => ⟨ρ2, μ2, α2, wa, ⟨hs2, s2⟩, P2⟩
    | bk ρ2 => exact P2.out s2
    | rt d2 => exact P2.out s2
  · have e : i = ds.length := by omega
    subst e
    rw [List.drop_length] at P
    exact .inl ⟨hI.stop _ α H w (Nat.le_refl _), P.out C.sr σ C.st⟩
theorem es_for {it : Expr} {ri : IF_} {g1 : GF} {body : List Stmt} (hp : PassesOwn (model X.prog X.w) X.A X.env X.xe) (hc : X.calm = true) (hi : EI X q W tg it ri) (hg : EG X q W tg g1) (hb : ESs X q W body r) (hs : ∀ x, foldedSetIterable it X.env x = pure x := by intro _; rfl) : ES X q W (.For tg it body [] pos) (sFor ri g1 r) := by
  refine ⟨PS.imp (ps_for hp hc hi.p hg.p hb.p hs) fun E σ H hh => ?_⟩
  obtain ⟨ρ, μ, α, C, P⟩ := hh
  exact ⟨ρ, μ, α, C, P.bind.imp fun ds μ1 α1 H1 w1 s1 P1 J hJ => loop_tr hJ ⟨C.st.grow w1, s1⟩ P1⟩
def sLoopL (ns : List Int) (l : D) (n : Nat) (g : GF) (body : SF) : Nat → SF
  | 0, ρ, μ => match lstOf ns μ l with
    | some xs => if xs.length = n then .ok (.nx ρ) μ else .bad
    | none => .bad
  | k + 1, ρ, μ => match lstOf ns μ l with
    | some xs => if xs.length = n then match xs[n - (k + 1)]? with
      | some d => (g d ρ μ).bind fun ρ1 μ1 => (body ρ1 μ1).bind fun f μ2 => match f with
        | .nx ρ2 => sLoopL ns l n g body k ρ2 μ2
        | .ct ρ2 => sLoopL ns l n g body k ρ2 μ2
        | .bk ρ2 => .ok (.nx ρ2) μ2
        | .rt d => .ok (.rt d) μ2
      | none => .bad
      else .bad
    | none => .bad
def sForL (ns : List Int) (it : EF) (g : GF) (body : SF) : SF := fun ρ μ => (it ρ μ).bind fun l μ1 => match lstOf ns μ1 l with
  | some xs => sLoopL ns l xs.length g body xs.length ρ μ1
  | none => .bad
theorem loopL_tr {g1 : GF} {body : SF} {E : Ends} {l : D} {a : Addr} {n : Nat} {α0 : List Addr} {H0 : Hp} (hl : Rv (gx X q) α0 H0 l (.ref a)) {ρ : Ro} {μ : Store} {σ : St} (C : Cf (gx X q) ρ μ α0 σ H0)
    (P : Pst (gx X q) W α0 H0 (sLoopL q.ns l n g1 body n ρ μ) (kS (gx X q) E)) : ∃ Wv : Nat → Nat → St → Hp → Prop, (∃ m, Wv 0 m σ H0) ∧ ∀ i m σ H, Wv i m σ H →
      ((Itl X.K a).stop i H ∧ E.nx σ H) ∨ ((Itl X.K a).go i H ∧ ∃ N : St → Hp → Prop, (∀ σ' H', N σ' H' → ∃ m', m' < m ∧ Wv (i + 1) m' σ' H') ∧ ∀ x H', (Itl X.K a).yld i H x H' → tgEv (gx X q) W g1 x σ H' fun σ2 H2 => tsEv (gx X q) W body { E with nx := N, ct := N, bk := E.nx } σ2 H2) := by
  let Inv' : Nat → St → Hp → Prop := fun i σ H => ∃ ρ μ α, Grow (gx X q) α0 H0 α H ∧ Cf (gx X q) ρ μ α σ H ∧ Pst (gx X q) W α H (sLoopL q.ns l n g1 body (n - i) ρ μ) (kS (gx X q) E)
  refine ⟨fun i m σ H => m = n - i ∧ i ≤ n ∧ Inv' i σ H, ⟨n, by simp, Nat.zero_le _, ρ, μ, α0, .refl, C, by simpa using P⟩, ?_⟩
  rintro i m σ H ⟨rfl, hi, ρ, μ, α, w, C, P⟩
  have rl := hl.mv w
  by_cases hlt : i < n
  · have e : n - i = (n - (i + 1)) + 1 := by omega
    rw [e] at P
    unfold sLoopL at P
    split at P
    · rename_i xs hx
      obtain ⟨a', vs, ea, hq, hr⟩ := lst_sq C.sr rl hx
      cases ea
      split at P
      · rename_i hn
        split at P
        · rename_i d hd
          have ei : n - (n - (i + 1) + 1) = i := by omega
          rw [ei] at hd
          obtain ⟨v, hv, rd⟩ := hr.get hd
          refine .inr ⟨⟨vs, v, hq, hv⟩, Inv' (i + 1), fun σ' H' p' => ⟨n - (i + 1), by omega, rfl, hlt, p'⟩, fun x H' y => ?_⟩
          obtain ⟨e1, y⟩ := y
          subst e1
          have ev : v = x := by
            have z := y vs hq
            rw [hv] at z; cases z; rfl
          subst ev
          refine ⟨d, ρ, μ, α, rd, C, P.bind.imp fun ρ1 μ1 α1 H1 w1 s1 P1 σ1 hs1 => ?_⟩
          refine ⟨ρ1, μ1, α1, ⟨hs1, s1⟩, P1.bind.imp fun f μ2 α2 H2 w2 s2 P2 => ?_⟩
          have wa : Grow (gx X q) α0 H0 α2 H2 := (w.trans w1).trans w2
          cases f with
          | nx ρ2 => exact fun σ2 hs2 => ⟨ρ2, μ2, α2, wa, ⟨hs2, s2⟩, P2⟩
          | ct ρ2 => exact fun σ2 hs2 => ⟨ρ2, μ2, α2, wa, ⟨hs2, s2⟩, P2⟩
          | bk ρ2 => exact P2.out s2
          | rt d2 => exact P2.out s2
        · exact P.elim
      · exact P.elim
    · exact P.elim
  · have e : n - i = 0 := by omega
    rw [e] at P
    unfold sLoopL at P
    split at P
    · rename_i xs hx
      obtain ⟨a', vs, ea, hq, hr⟩ := lst_sq C.sr rl hx
      cases ea
      split at P
      · rename_i hn
        exact .inl ⟨⟨vs, hq, by rw [← hr.len]; omega⟩, P.out C.sr σ C.st⟩
      · exact P.elim
    · exact P.elim
theorem es_forL {it : Expr} {g1 : GF} {body : List Stmt} (hp : PassesOwn (model X.prog X.w) X.A X.env X.xe) (hc : X.calm = true) (hi : EE X q W it ra) (hg : EG X q W tg g1) (hb : ESs X q W body r) (hs : ∀ x, foldedSetIterable it X.env x = pure x := by intro _; rfl) : ES X q W (.For tg it body [] pos) (sForL q.ns ra g1 r) := by
  refine ⟨PS.imp (ps_for hp hc (pi_list hi.p) hg.p hb.p hs) fun E σ H hh => ?_⟩
  obtain ⟨ρ, μ, α, C, P⟩ := hh
  refine ⟨ρ, μ, α, C, P.bind.imp fun l μ1 α1 H1 w1 s1 P1 v rv => ?_⟩
  split at P1
  · rename_i xs hx
    obtain ⟨a, vs, rfl, hq, hr⟩ := lst_sq s1 rv hx
    exact ⟨a, rfl, ⟨vs, hq⟩, loopL_tr rv ⟨C.st.grow w1, s1⟩ P1⟩
  · exact P1.elim
def sWhile (t : TF) (body : SF) : Nat → SF
  | 0, _, _ => .bad
  | n + 1, ρ, μ => (t ρ μ).bind fun c μ1 => match c with
    | false => .ok (.nx ρ) μ1
    | true => (body ρ μ1).bind fun f μ2 => match f with
      | .nx ρ2 => sWhile t body n ρ2 μ2
      | .ct ρ2 => sWhile t body n ρ2 μ2
      | .bk ρ2 => .ok (.nx ρ2) μ2
      | .rt d => .ok (.rt d) μ2
theorem es_while {n : Nat} {body : List Stmt} (hp : PassesOwn (model X.prog X.w) X.A X.env X.xe) (hc : ET X q W c ta) (hb : ESs X q W body r) : ES X q W (.While c body [] pos) (sWhile ta r n) := by
  refine ⟨PS.imp (ps_while hp hc.p hb.p) fun E σ H hh => ?_⟩
  obtain ⟨ρ, μ, α, C, P⟩ := hh
  refine ⟨fun m σ H => ∃ ρ μ α, Cf (gx X q) ρ μ α σ H ∧ Pst (gx X q) W α H (sWhile ta r m ρ μ) (kS (gx X q) E), ⟨n, ρ, μ, α, C, P⟩, ?_⟩
  rintro m σ H ⟨ρ, μ, α, C, P⟩
  cases m with
  | zero => exact P.elim
  | succ m =>
    refine ⟨ρ, μ, α, C, P.bind.imp fun k μ1 α1 H1 w1 s1 P1 => ?_⟩
    cases k with
    | false => exact iteF (P1.out s1 σ (C.st.grow w1))
    | true =>
      refine iteT ⟨fun σ' H' => ∃ ρ μ α, Cf (gx X q) ρ μ α σ' H' ∧ Pst (gx X q) W α H' (sWhile ta r m ρ μ) (kS (gx X q) E), fun σ' H' p => ⟨m, Nat.lt_succ_self m, p⟩, ?_⟩
      refine ⟨ρ, μ1, α1, ⟨C.st.grow w1, s1⟩, P1.bind.imp fun f μ2 α2 H2 w2 s2 P2 => ?_⟩
      cases f with
      | nx ρ2 => exact fun σ2 hs2 => ⟨ρ2, μ2, α2, ⟨hs2, s2⟩, P2⟩
      | ct ρ2 => exact fun σ2 hs2 => ⟨ρ2, μ2, α2, ⟨hs2, s2⟩, P2⟩
      | bk ρ2 => exact P2.out s2
      | rt d2 => exact P2.out s2
def iTupF (r : EF) : IF_ := fun ρ μ => (r ρ μ).bind fun d μ1 => match d with
  | .tup xs => .ok xs μ1
  | _ => .bad
def iR1 (r : EF) : IF_ := fun ρ μ => (r ρ μ).bind fun d μ1 => match d with
  | .int j => if -(2 ^ 62) ≤ j ∧ j < 2 ^ 62 then .ok ((List.range j.toNat).map fun (k : Nat) => D.int (k : Nat)) μ1 else .bad
  | _ => .bad
theorem items_range {g : Gx} {α0 : List Addr} {H0 : Hp} (lo : Int) (n : Nat) : Items g α0 H0 (Itr lo n) ((List.range n).map fun (k : Nat) => D.int (lo + (k : Nat))) := by
  refine ⟨fun i α H w hl => (by simpa using hl : i < n), fun i α H μ x H' w S y hl => ?_, fun i α H w hl => (by simpa using hl : n ≤ i)⟩
  obtain ⟨e1, e2⟩ := y
  subst e1; subst e2
  refine ⟨S, .refl, .int (lo + i), ?_, .int _⟩
  have hi : i < n := by simpa using hl
  simp [hi]
theorem ei_range1 {a : Expr} {p : Pos} (hg : Gl X "range") (hm : X.mg "range" = none) (ha : EE X q W a ra) (hs : starEach [a] X.env = [(false, eval a X.env)] := by rfl) : EI X q W tg (.Call (.Name "range" p) [a] [] pos) (iR1 ra) := by
  refine ⟨PI.imp (pi_range1 hg hm (pa_cons ha.p pa_nil hs) hs) fun σ H Q hh => ?_⟩
  obtain ⟨ρ, μ, α, C, P⟩ := hh
  refine ⟨ρ, μ, α, C, P.bind.imp fun d μ1 α1 H1 w1 s1 P1 v rv => ?_⟩
  cases d with
  | int j =>
    cases rv
    dsimp only at P1
    split at P1
    · rename_i hj
      refine ⟨j, rfl, hj.1, hj.2, P1.out s1 _ ?_⟩
      have := items_range (g := gx X q) (α0 := α1) (H0 := H1) 0 j.toNat
      simpa using this
    · exact P1.elim
  | _ => exact P1.elim
def iR2 (r u : EF) : IF_ := fun ρ μ => (r ρ μ).bind fun d μ1 => (u ρ μ1).bind fun e μ2 => match d, e with
  | .int i, .int j => if -(2 ^ 62) ≤ i ∧ i < 2 ^ 62 ∧ -(2 ^ 62) ≤ j ∧ j < 2 ^ 62 then .ok ((List.range (j - i).toNat).map fun (k : Nat) => D.int (i + (k : Nat))) μ2 else .bad
  | _, _ => .bad
end
end Ev

end
section
set_option Elab.async false
set_option linter.all false
set_option maxRecDepth 100000
set_option maxHeartbeats 1000000
namespace Ev
open PySem PySem.Spec PyProof.Rows L2
section
variable {X : Cx} {q : Q0} {W : XW} {a b c e : Expr} {es : List Expr} {ra rb : EF} {rs : AF} {pos : Pos}
def opSub (d e : D) (μ : Store) : R D := match d, e with
  | .int i, .int j => .ok (.int (i - j)) μ
  | _, _ => .bad
def opMod (d e : D) (μ : Store) : R D := match d, e with
  | .int i, .int j => if 0 < j then .ok (.int (i % j)) μ else .bad
  | _, _ => .bad
def opDiv (d e : D) (μ : Store) : R D := match d, e with
  | .int i, .int j => if 0 < j ∧ j < 1073741824 then .ok (.int (i / j)) μ else .bad
  | _, _ => .bad
def opPow (d e : D) (μ : Store) : R D := match d, e with
  | .int i, .int j => if 0 ≤ j ∧ j ≤ 1000000 ∧ i.natAbs < 2 ^ 64 then .ok (.int (i ^ j.toNat)) μ else .bad
  | _, _ => .bad
def opShl (d e : D) (μ : Store) : R D := match d, e with
  | .int i, .int j => if 0 ≤ j ∧ j ≤ 1000000 ∧ i.natAbs < 2 ^ 64 then .ok (.int (i * 2 ^ j.toNat)) μ else .bad
  | _, _ => .bad
def opCmp (p : Int → Int → Bool) (d e : D) (μ : Store) : R D := match d, e with
  | .int i, .int j => .ok (.bl (p i j)) μ
  | _, _ => .bad
theorem o2_int0 {f : Value → Value → Sem Value} {h : D → D → Store → R D} {k : Int → Int → V} {m : Int → Int → D} (ho : OpR X f (rI0 k)) (hm : ∀ i j α H, Rv (gx X q) α H (m i j) (k i j))
    (h1 : ∀ d e μ, (∃ i j, d = .int i ∧ e = .int j ∧ h d e μ = .ok (m i j) μ) ∨ h d e μ = .bad) : O2 X q W f h := by
  refine ⟨fun pins s σ H x y v u Q I rx ry hh => ho pins s σ H x y v u Q I rx ry ?_⟩
  obtain ⟨d, e, μ, α, rd, re, S, P⟩ := hh
  rcases h1 d e μ with ⟨i, j, rfl, rfl, z⟩ | z
  · cases rd; cases re
    rw [z] at P
    exact ⟨i, j, rfl, rfl, P.out S _ (hm i j α H)⟩
  · rw [z] at P; exact P.elim
theorem o2_intC {f : Value → Value → Sem Value} {h : D → D → Store → R D} {C : Int → Int → Prop} {k : Int → Int → V} {m : Int → Int → D} (ho : OpR X f (rI C k)) (hm : ∀ i j α H, Rv (gx X q) α H (m i j) (k i j))
    (h1 : ∀ d e μ, (∃ i j, d = .int i ∧ e = .int j ∧ C i j ∧ h d e μ = .ok (m i j) μ) ∨ h d e μ = .bad) : O2 X q W f h := by
  refine ⟨fun pins s σ H x y v u Q I rx ry hh => ho pins s σ H x y v u Q I rx ry ?_⟩
  obtain ⟨d, e, μ, α, rd, re, S, P⟩ := hh
  rcases h1 d e μ with ⟨i, j, rfl, rfl, hc, z⟩ | z
  · cases rd; cases re
    rw [z] at P
    exact ⟨i, j, rfl, rfl, hc, P.out S _ (hm i j α H)⟩
  · rw [z] at P; exact P.elim
theorem o_sub : O2 X q W (binaryOp .Sub) opSub := o2_int0 (m := fun i j => .int (i - j)) op_sub (fun _ _ _ _ => .int _) fun d e μ => by
  unfold opSub; split
  · exact .inl ⟨_, _, rfl, rfl, rfl⟩
  · exact .inr rfl
theorem o_mod : O2 X q W (binaryOp .Mod) opMod := o2_intC (m := fun i j => .int (i % j)) op_mod (fun _ _ _ _ => .int _) fun d e μ => by
  unfold opMod; split
  · split
    · exact .inl ⟨_, _, rfl, rfl, by assumption, rfl⟩
    · exact .inr rfl
  · exact .inr rfl
theorem o_pow : O2 X q W (binaryOp .Pow) opPow := o2_intC (m := fun i j => .int (i ^ j.toNat)) op_pow (fun _ _ _ _ => .int _) fun d e μ => by
  unfold opPow; split
  · split
    · exact .inl ⟨_, _, rfl, rfl, by assumption, rfl⟩
    · exact .inr rfl
  · exact .inr rfl
theorem cmp_case (p : Int → Int → Bool) : ∀ d e μ, (∃ i j, d = D.int i ∧ e = D.int j ∧ opCmp p d e μ = .ok (.bl (p i j)) μ) ∨ opCmp p d e μ = .bad := fun d e μ => by
  unfold opCmp; split
  · exact .inl ⟨_, _, rfl, rfl, rfl⟩
  · exact .inr rfl
theorem o_lt : O2 X q W (compareOp .Lt) (opCmp fun i j => decide (i < j)) := o2_int0 (m := fun i j => .bl (decide (i < j))) op_lt (fun _ _ _ _ => .bl _) (cmp_case _)
theorem o_le : O2 X q W (compareOp .LtE) (opCmp fun i j => decide (i ≤ j)) := o2_int0 (m := fun i j => .bl (decide (i ≤ j))) op_le (fun _ _ _ _ => .bl _) (cmp_case _)
theorem o_gt : O2 X q W (compareOp .Gt) (opCmp fun i j => decide (j < i)) := o2_int0 (m := fun i j => .bl (decide (j < i))) op_gt (fun _ _ _ _ => .bl _) (cmp_case _)
theorem o_ge : O2 X q W (compareOp .GtE) (opCmp fun i j => decide (j ≤ i)) := o2_int0 (m := fun i j => .bl (decide (j ≤ i))) op_ge (fun _ _ _ _ => .bl _) (cmp_case _)
mutual
def toPy (ns : List Int) (μ : Store) : Nat → D → Option PyData
  | 0, _ => none
  | _ + 1, .non => some .none
  | _ + 1, .bl b => some (.bool b)
  | _ + 1, .int i => some (.int i)
  | _ + 1, .str x => some (.str x)
  | n + 1, .tup xs => (toPys ns μ n xs).map .tuple
  | n + 1, .ob i => match μ[i]? with
    | some (.lst xs) => (toPys ns μ n xs).map .list
    | _ => none
  | _ + 1, .scr => some (.list (ns.map .int))
  | _ + 1, _ => none
def toPys (ns : List Int) (μ : Store) : Nat → List D → Option (List PyData)
  | 0, _ => none
  | _ + 1, [] => some []
  | n + 1, d :: ds => match toPy ns μ n d, toPys ns μ n ds with
    | some p, some ps => some (p :: ps)
    | _, _ => none
end
theorem dpInts {K : PySem.W.Frag} {H : Hp} : ∀ ns : List Int, DpAll K H (ns.map V.int) (ns.map PyData.int)
  | [] => .nil
  | n :: ns => .cons (.int n) (dpInts ns)
mutual
theorem toPy_dp {g : Gx} {α : List Addr} {H : Hp} {μ : Store} (S : SR g μ α H) : ∀ (n : Nat) (d : D) (v : V) (p : PyData), Rv g α H d v → toPy g.ns μ n d = some p → Dp g.K H v p
  | 0, _, _, _, _, h => by unfold toPy at h; cases h
  | n + 1, d, v, p, r, h => by
    cases d with
    | non => unfold toPy at h; cases h; cases r; exact .non
    | bl b => unfold toPy at h; cases h; cases r; exact .bl b
    | int i => unfold toPy at h; cases h; cases r; exact .int i
    | str x => unfold toPy at h; cases h; cases r; exact .str x
    | tup xs =>
      unfold toPy at h
      obtain ⟨ps, h1, rfl⟩ := Option.map_eq_some_iff.mp h
      cases r with
      | tup hs hr => exact .tup hs (toPys_dp S n xs _ _ hr h1)
    | ob i =>
      unfold toPy at h
      split at h
      · rename_i xs hi
        obtain ⟨ps, h1, rfl⟩ := Option.map_eq_some_iff.mp h
        cases r with
        | ob e =>
          obtain ⟨a, ha, vs, h2, h3⟩ := S.at_ i _ hi
          rw [e] at ha; cases ha
          exact .lst (SqL.of h2) (toPys_dp S n xs _ _ h3 h1)
      · cases h
    | scr => unfold toPy at h; cases h; cases r; exact .lst S.scr.sq (dpInts _)
    | gl x => unfold toPy at h; cases h
    | ty x => unfold toPy at h; cases h
theorem toPys_dp {g : Gx} {α : List Addr} {H : Hp} {μ : Store} (S : SR g μ α H) : ∀ (n : Nat) (ds : List D) (vs : List V) (ps : List PyData), Rvs g α H ds vs → toPys g.ns μ n ds = some ps → DpAll g.K H vs ps
  | 0, _, _, _, _, h => by unfold toPys at h; cases h
  | n + 1, [], _, _, r, h => by unfold toPys at h; cases h; cases r; exact .nil
  | n + 1, d :: ds, _, _, r, h => by
    unfold toPys at h
    split at h
    · rename_i p ps h1 h2
      cases h
      cases r with
      | cons r1 r2 => exact .cons (toPy_dp S n d _ p r1 h1) (toPys_dp S n ds _ ps r2 h2)
    · cases h
end
def fuel : Nat := 4000
def eqD (ns : List Int) (μ : Store) (d e : D) : Option Bool := match toPy ns μ fuel d, toPy ns μ fuel e with
  | some p, some s => if SeqAt.shaped p = true ∧ SeqAt.shaped s = true then some (PyData.eqv p s) else none
  | _, _ => none
def opEq (ns : List Int) (d e : D) (μ : Store) : R D := match eqD ns μ d e with
  | some k => .ok (.bl k) μ
  | none => .bad
def opNe (ns : List Int) (d e : D) (μ : Store) : R D := match eqD ns μ d e with
  | some k => .ok (.bl (!k)) μ
  | none => .bad
theorem eqD_dp {g : Gx} {α : List Addr} {H : Hp} {μ : Store} {d e : D} {x y : V} {k : Bool} (S : SR g μ α H) (rd : Rv g α H d x) (re : Rv g α H e y) (h : eqD g.ns μ d e = some k) :
    ∃ p s, Dp g.K H x p ∧ Dp g.K H y s ∧ SeqAt.shaped p = true ∧ SeqAt.shaped s = true ∧ PyData.eqv p s = k := by
  unfold eqD at h
  split at h
  · rename_i p s h1 h2
    split at h
    · rename_i hs
      cases h
      exact ⟨p, s, toPy_dp S _ d x p rd h1, toPy_dp S _ e y s re h2, hs.1, hs.2, rfl⟩
    · cases h
  · cases h
theorem o_eq (hu : X.A.units + 64 < cLine) : O2 X q W (compareOp .Eq) (opEq q.ns) := by
  refine ⟨fun pins s σ H x y v u Q I rx ry hh => op_eqD hu pins s σ H x y v u Q I rx ry ?_⟩
  obtain ⟨d, e, μ, α, rd, re, S, P⟩ := hh
  unfold opEq at P
  split at P
  · rename_i k hk
    obtain ⟨p, t, h1, h2, h3, h4, h5⟩ := eqD_dp S rd re hk
    exact ⟨p, t, h1, h2, h3, h4, by rw [h5]; exact P.out S _ (.bl k)⟩
  · exact P.elim
theorem o_ne (hu : X.A.units + 64 < cLine) : O2 X q W (compareOp .NotEq) (opNe q.ns) := by
  refine ⟨fun pins s σ H x y v u Q I rx ry hh => op_neD hu pins s σ H x y v u Q I rx ry ?_⟩
  obtain ⟨d, e, μ, α, rd, re, S, P⟩ := hh
  unfold opNe at P
  split at P
  · rename_i k hk
    obtain ⟨p, t, h1, h2, h3, h4, h5⟩ := eqD_dp S rd re hk
    exact ⟨p, t, h1, h2, h3, h4, by rw [h5]; exact P.out S _ (.bl !k)⟩
  · exact P.elim
def isD (d e : D) : Option Bool := match e with
  | .non => some (match d with | .non => true | _ => false)
  | .bl b => some (match d with | .bl c => c == b | _ => false)
  | _ => none
def opIs (neg : Bool) (d e : D) (μ : Store) : R D := match isD d e with
  | some k => .ok (.bl (if neg then !k else k)) μ
  | none => .bad
def tGc (g : Gx) (W : XW) (h : List D → Store → R D) : List V → Hp → VK → Prop := fun xs H Q => ∃ ds μ α, Rvs g α H ds xs ∧ SR g μ α H ∧ Pst g W α H (h ds μ) (kE g Q)
structure B1 (X : Cx) (q : Q0) (W : XW) (f : Value) (h : List D → Store → R D) : Prop where
  p : CallR X f (tGc (gx X q) W h)
def eBi (h : List D → Store → R D) (r : AF) : EF := fun ρ μ => (r ρ μ).bind h
theorem bi_tr {g : Gx} {h : List D → Store → R D} {σ : St} {H : Hp} {Q : VK} (hh : tEv g W (eBi h rs) σ H Q) : tCB (tGc g W h) (taEv g W rs) σ H Q := by
  obtain ⟨ρ, μ, α, C, P⟩ := hh
  exact ⟨ρ, μ, α, C, P.bind.imp fun ds μ1 α1 H1 w1 s1 P1 vs rv => ⟨ds, μ1, α1, rv, s1, P1⟩⟩
theorem ee_bi {x : Str} {p : Pos} {id : String} {h : List D → Store → R D} (hc : B1 X q W (.builtin id) h) (hg : Gl X x) (hm : X.mg x = none) (hv : bootBuiltins x = some (.builtin id)) (ha : EA X q W (e :: es) rs) (hn : x ≠ "__name__" := by decide) (hdb : (x == ("__debug__" : Str)) = false := by decide)
    (he : starEach (e :: es) X.env = (false, eval e X.env) :: starEach es X.env := by rfl) (hpl : (backTo pos (starEach es X.env)).any (·.1) = false := by rfl) : EE X q W (.Call (.Name x p) (e :: es) [] pos) (eBi h rs) :=
  ⟨PE.imp (pe_callB hc.p hg hm hv ha.p hn hdb he hpl) fun σ H Q hh => bi_tr hh⟩
theorem ee_bt {x : Str} {p : Pos} {T : String} {h : List D → Store → R D} (hc : B1 X q W (.type T) h) (hg : Gl X x) (hm : X.mg x = none) (hv : bootBuiltins x = some (.type T)) (ha : EA X q W (e :: es) rs) (hn : x ≠ "__name__" := by decide) (hdb : (x == ("__debug__" : Str)) = false := by decide)
    (he : starEach (e :: es) X.env = (false, eval e X.env) :: starEach es X.env := by rfl) (hpl : (backTo pos (starEach es X.env)).any (·.1) = false := by rfl) : EE X q W (.Call (.Name x p) (e :: es) [] pos) (eBi h rs) :=
  ⟨PE.imp (pe_callTy hc.p hg hm hv ha.p hn hdb he hpl) fun σ H Q hh => bi_tr hh⟩
def bLen (ns : List Int) : List D → Store → R D
  | [d], μ => match seqOf ns μ d with
    | some xs => .ok (.int xs.length) μ
    | none => match d with
      | .str z => if z.length ≤ sizeLine then .ok (.int z.length) μ else .bad
      | _ => .bad
  | _, _ => .bad
theorem seq_sq {g : Gx} {α : List Addr} {H : Hp} {μ : Store} {d : D} {v : V} {xs : List D} (S : SR g μ α H) (r : Rv g α H d v) (h : seqOf g.ns μ d = some xs) : ∃ a vs, v = .ref a ∧ (SqL g.K H a vs ∨ SqT g.K H a vs) ∧ Rvs g α H xs vs := by
  cases d with
  | tup ys =>
    cases h
    cases r with
    | tup hs hr => exact ⟨_, _, rfl, .inr hs, hr⟩
  | _ =>
    obtain ⟨a, vs, h1, h2, h3⟩ := lst_sq S r h
    exact ⟨a, vs, h1, .inl h2, h3⟩
theorem b_len : B1 X q W (.builtin "len") (bLen q.ns) := by
  refine ⟨fun pins s σ H xs us Q I r hh => ?_⟩
  obtain ⟨ds, μ, α, rd, S, P⟩ := hh
  unfold bLen at P
  split at P
  · rename_i d
    cases rd with
    | cons r1 r2 =>
      cases r2
      split at P
      · rename_i ys hy
        obtain ⟨a, vs, rfl, h2, h3⟩ := seq_sq S r1 hy
        refine call_len_seq pins s σ H _ us Q I r ⟨a, vs, rfl, h2, ?_⟩
        rw [← h3.len]
        exact P.out S _ (.int _)
      · split at P
        · split at P
          · rename_i hz
            cases r1
            exact call_len_str pins s σ H _ us Q I r ⟨_, rfl, hz, P.out S _ (.int _)⟩
          · exact P.elim
        · exact P.elim
  · exact P.elim
def bList (ns : List Int) : List D → Store → R D
  | [d], μ => match seqOf ns μ d with
    | some xs => .ok (.ob μ.length) (μ ++ [.lst xs])
    | none => .bad
  | _, _ => .bad
def bTuple (ns : List Int) : List D → Store → R D
  | [d], μ => match seqOf ns μ d with
    | some xs => .ok (.tup xs) μ
    | none => .bad
  | _, _ => .bad
theorem b_tuple : B1 X q W (.type "tuple") (bTuple q.ns) := by
  refine ⟨fun pins s σ H xs us Q I r hh => ?_⟩
  obtain ⟨ds, μ, α, rd, S, P⟩ := hh
  unfold bTuple at P
  split at P
  · rename_i d
    cases rd with
    | cons r1 r2 =>
      cases r2
      split at P
      · rename_i ys hy
        obtain ⟨a, vs, rfl, h2, h3⟩ := seq_sq S r1 hy
        refine call_tuple_of pins s σ H _ us Q I r ⟨a, vs, rfl, ?_⟩
        rcases h2 with h2 | h2
        · exact .inl ⟨h2, fun l hl => P.out2 (grow_new hl) (S.keepN hl) _ (.tup (.of upd_same) (h3.mv (grow_new hl)))⟩
        · exact .inr ⟨h2, P.out S _ (.tup h2 h3)⟩
      · exact P.elim
  · exact P.elim
def bInt : List D → Store → R D
  | [.int i], μ => .ok (.int i) μ
  | [.bl k], μ => .ok (.int (if k then 1 else 0)) μ
  | _, _ => .bad
def bAbs : List D → Store → R D
  | [.int i], μ => .ok (.int (if i < 0 then -i else i)) μ
  | _, _ => .bad
theorem b_abs : B1 X q W (.builtin "abs") bAbs := by
  refine ⟨fun pins s σ H xs us Q I r hh => call_abs pins s σ H xs us Q I r ?_⟩
  obtain ⟨ds, μ, α, rd, S, P⟩ := hh
  unfold bAbs at P
  split at P
  · cases rd with
    | cons r1 r2 => cases r2; cases r1; exact ⟨_, rfl, P.out S _ (.int _)⟩
  · exact P.elim
def bMax2 : List D → Store → R D
  | [.int i, .int j], μ => .ok (.int (if j > i then j else i)) μ
  | _, _ => .bad
def bMin2 : List D → Store → R D
  | [.int i, .int j], μ => .ok (.int (if j < i then j else i)) μ
  | _, _ => .bad
theorem b_min2 (hc : X.calm = true) : B1 X q W (.builtin "min") bMin2 := by
  refine ⟨fun pins s σ H xs us Q I r hh => call_min2 hc pins s σ H xs us Q I r ?_⟩
  obtain ⟨ds, μ, α, rd, S, P⟩ := hh
  unfold bMin2 at P
  split at P
  · cases rd with
    | cons r1 r2 => cases r2 with
      | cons r2 r3 => cases r3; cases r1; cases r2; exact ⟨_, _, rfl, P.out S _ (.int _)⟩
  · exact P.elim
def tyN (μ : Store) : D → Option String
  | .non => some "NoneType"
  | .bl _ => some "bool"
  | .int _ => some "int"
  | .str _ => some "str"
  | .tup _ => some "tuple"
  | .scr => some "list"
  | .ob i => match μ[i]? with
    | some (.lst _) => some "list"
    | some (.dic _) => some "dict"
    | _ => none
  | _ => none
def isTys : List String := ["int", "bool", "str", "tuple", "list", "dict"]
def isTab (t T : String) : Bool := t == T || (t == "bool" && T == "int")
theorem kit_tab (K : PySem.W.Frag) {t T : String} (ht : t ∈ "NoneType" :: isTys) (hT : T ∈ isTys) : PySem.W.kitOne K (.type t) (.type T) = some (isTab t T) := by
  simp only [isTys, List.mem_cons, List.not_mem_nil, or_false] at ht hT
  rcases ht with rfl | rfl | rfl | rfl | rfl | rfl | rfl <;> rcases hT with rfl | rfl | rfl | rfl | rfl | rfl <;> rfl
def bIs : List D → Store → R D
  | [d, .ty T], μ => match tyN μ d with
    | some t => if T ∈ isTys then .ok (.bl (isTab t T)) μ else .bad
    | none => .bad
  | _, _ => .bad
theorem isin_any {pins : List (Addr × Obj)} {σ : St} {H : Hp} {s : Shared} {α : List Addr} {μ : Store} {d : D} {x : V} {u : Value} {t T : String} {Q : Value → Shared → Prop} {E : Value → Shared → Prop} (I : Inv X pins σ H s) (S : SR (gx X q) μ α H) (r : Rv (gx X q) α H d x) (ru : RelV x u) (ht : tyN μ d = some t) (hT : T ∈ isTys)
    (h : ∀ tk, Q (.bool (isTab t T)) { s with toks := tk }) : wpAny (model X.prog X.w) X.A (call (.builtin "isinstance") [u, .type T]) Q E s := by
  cases r with
  | non => cases ht; cases (show u = Value.none from ru); exact PySem.W.kia_one PySem.W.kitx_none I.kIn True.intro (kit_tab _ (by decide) hT) (fun z => nomatch z) h
  | bl b => cases ht; cases (show u = Value.bool b from ru); exact PySem.W.kia_one PySem.W.kitx_bool I.kIn True.intro (kit_tab _ (by decide) hT) (fun z => nomatch z) h
  | int i => cases ht; obtain ⟨t, z⟩ := (show ∃ t, u = Value.int i t from ru); cases z; exact PySem.W.kia_one PySem.W.kitx_int I.kIn True.intro (kit_tab _ (by decide) hT) (fun z => nomatch z) h
  | str y => cases ht; obtain ⟨t, z⟩ := (show ∃ t, u = Value.str y t from ru); cases z; exact PySem.W.kia_one PySem.W.kitx_str I.kIn True.intro (kit_tab _ (by decide) hT) (fun z => nomatch z) h
  | @tup a _ _ hs _ =>
    cases ht
    cases (show u = Value.ref a from ru)
    obtain ⟨its, _, ⟨o, h1, h2, _⟩, _⟩ := I.tuple hs
    exact PySem.W.kia_one PySem.W.kitx_tuple I.kIn ⟨o, h1, h2⟩ (kit_tab _ (by decide) hT) (fun z => nomatch z) h
  | @ob i a e =>
    cases (show u = Value.ref a from ru)
    unfold tyN at ht
    dsimp only at ht
    split at ht
    · rename_i xs hi
      cases ht
      obtain ⟨b, hb, vs, h1, h2⟩ := S.at_ i _ hi
      rw [e] at hb; cases hb
      obtain ⟨its, _, pl, _⟩ := I.list (SqL.of h1)
      obtain ⟨o, n, z1, z2, _⟩ := pl
      exact PySem.W.kia_one PySem.W.kitx_list I.kIn ⟨o, z1, z2⟩ (kit_tab _ (by decide) hT) (fun z => nomatch z) h
    · rename_i kvs hi
      cases ht
      obtain ⟨b, hb, vs, h1, h2⟩ := S.at_ i _ hi
      rw [e] at hb; cases hb
      obtain ⟨_, _, vs', _, p⟩ := (show ObjOk X.prog X.w H s.heap a (.dK _) from I.hok a _ h1)
      obtain ⟨o, es, ep, z1, z2, _⟩ := p
      exact PySem.W.kia_one PySem.W.kitx_dict I.kIn ⟨o, z1, z2.1⟩ (kit_tab _ (by decide) hT) (fun z => nomatch z) h
    · cases ht
  | scr =>
    cases ht
    cases (show u = Value.ref q.a0 from ru)
    obtain ⟨its, _, pl, _⟩ := I.list S.scr.sq
    obtain ⟨o, n, z1, z2, _⟩ := pl
    exact PySem.W.kia_one PySem.W.kitx_list I.kIn ⟨o, z1, z2⟩ (kit_tab _ (by decide) hT) (fun z => nomatch z) h
  | gl _ => cases ht
  | ty _ => cases ht
theorem b_is : B1 X q W (.builtin "isinstance") bIs := by
  refine ⟨fun pins s σ H xs us Q I r hh => ?_⟩
  obtain ⟨ds, μ, α, rd, S, P⟩ := hh
  unfold bIs at P
  split at P
  · rename_i d T
    split at P
    · rename_i t ht
      split at P
      · rename_i hT
        cases rd with
        | cons r1 r2 =>
          cases r2 with
          | cons r2 r3 =>
            cases r3
            cases r2
            cases r with
            | cons z1 z2 =>
              cases z2 with
              | cons z2 z3 =>
                cases z3
                cases (show _ = Value.type T from z2)
                exact isin_any I S r1 z1 ht hT fun tk => ⟨.bl _, H, I.tok _, rfl, P.out S _ (.bl _)⟩
      · exact P.elim
    · exact P.elim
  · exact P.elim
abbrev Fn := List D → Store → R D
def spE (g : Gx) (W : XW) (f : Fn) : Sp := fun vs H Q _ => ∃ ds μ α, Rvs g α H ds vs ∧ SR g μ α H ∧ Pst g W α H (f ds μ) (kE g Q)
def eCall (f : Fn) (r : AF) : EF := fun ρ μ => (r ρ μ).bind f
structure FOk (X : Cx) (q : Q0) (W : XW) (k : Nat) (x : Str) (f : Fn) : Prop where
  ex : ∃ (a : Addr) (fd : FuncData) (ps : List Str), X.mg x = some (.ref a) ∧ PySem.W.keepIn X.K (.ref a) = true ∧ Binds X.K fd ps [] ∧ FnOk X.prog X.w X.K X.mg X.base CX0 k a fd ps (spE (gx X q) W f)
theorem call_tr {g : Gx} {f : Fn} {σ : St} {H : Hp} {Q : VK} {E : XK} (hh : tEv g W (eCall f rs) σ H Q) : tCall (spE g W f) [] E (taEv g W rs) σ H Q := by
  obtain ⟨ρ, μ, α, C, P⟩ := hh
  exact ⟨ρ, μ, α, C, P.bind.imp fun ds μ1 α1 H1 w1 s1 P1 vs rv => ⟨ds, μ1, α1, by rw [List.append_nil]; exact rv, s1, P1⟩⟩
theorem ee_call {k : Nat} {x : Str} {p : Pos} {f : Fn} (F : FOk X q W k x f) (hr : Room k X.A) (hg : Gl X x) (ha : EA X q W (e :: es) rs) (hdb : (x == ("__debug__" : Str)) = false := by decide)
    (he : starEach (e :: es) X.env = (false, eval e X.env) :: starEach es X.env := by rfl) (hpl : (backTo pos (starEach es X.env)).any (·.1) = false := by rfl) : EE X q W (.Call (.Name x p) (e :: es) [] pos) (eCall f rs) := by
  obtain ⟨a, fd, ps, hm, hk, hb, F⟩ := F.ex
  exact ⟨PE.imp (pe_call F hr hg hm hk hb .nil pass0 ha.p hdb he hpl) fun σ H Q hh => call_tr hh⟩
def run (np n : Nat) (body : SF) : Fn := fun ds μ => if ds.length = np then (body (ds.map some ++ List.replicate (n - ds.length) none) μ).bind fun f μ1 => match f with
  | .rt d => .ok d μ1
  | .nx _ => .ok .non μ1
  | _ => .bad
  else .bad
theorem start_rel {g : Gx} {α : List Addr} {H : Hp} {ds : List D} {vs : List V} (N : List Str) (r : Rvs g α H ds vs) : StR g α H (ds.map some ++ List.replicate (N.length - ds.length) none) (L2.start N vs) := by
  unfold L2.start
  have hl := r.len
  refine ⟨by rw [List.length_append, List.length_append, List.length_map, List.length_map, List.length_replicate, List.length_replicate, hl], fun i d h => ?_⟩
  by_cases hi : i < ds.length
  · rw [List.getElem?_append_left (by rw [List.length_map]; exact hi), List.getElem?_map] at h
    cases hd : ds[i]? with
    | none => rw [hd] at h; cases h
    | some d' =>
      rw [hd] at h; cases h
      obtain ⟨v, h1, h2⟩ := r.get hd
      refine ⟨v, ?_, h2⟩
      rw [List.getElem?_append_left (by rw [List.length_map, ← hl]; exact hi), List.getElem?_map, h1]; rfl
  · rw [List.getElem?_append_right (by rw [List.length_map]; omega), List.getElem?_replicate] at h
    split at h <;> cases h
theorem fn_ok {P : Program} {w : World} {K : PySem.W.Frag} {mg : Str → Option Value} {base : Heap} {x qual : Str} {st : Stmt} {f : Addr} {fd : FuncData} {N ps : List Str} {k : Nat} {g : Gx} {q : Q0} {body : SF} (F : Fun K x qual st f fd) (S : FnScope N ps (defScope st))
    (hg : g = ⟨K, mg, q.a0, q.ns, q.tb⟩)
    (hb : ∀ (cdv : Value) (A : Around) (outer : List Env) (s : Shared) (H : Hp) (E : XK), Room k (A.deeper (envOfC qual (defScope st) s.heap.objs.size f cdv)) →
      ESs (cxOf CX0 P w K mg base N qual (defScope st) f cdv A outer s H E).nox q W0 (defBody st) body) : FnOk P w K mg base CX0 (k + 1) f fd ps (spE g W0 (run ps.length N.length body)) := by
  refine F.ok S (fun vs H Q E h => ?_) (fun cdv A outer s H vs Q E hr h => ?_)
  · obtain ⟨ds, μ, α, r, S', P⟩ := h
    unfold run at P
    split at P
    · rename_i hl
      rw [← r.len]; exact hl
    · exact P.elim
  · obtain ⟨ds, μ, α, r, S', P⟩ := h
    subst hg
    refine ⟨_, (hb cdv A outer s H E hr).p, ?_⟩
    unfold run at P
    split at P
    · refine ⟨_, μ, α, ⟨start_rel N r, S'⟩, P.bind.imp fun fl μ1 α1 H1 w1 s1 P1 => ?_⟩
      cases fl with
      | rt d => exact fun v rv => P1.out s1 v rv
      | nx ρ => exact fun σ _ => P1.out s1 _ .non
      | bk ρ => exact P1.elim
      | ct ρ => exact P1.elim
    · exact P.elim
end
end Ev

end
section
set_option Elab.async false
set_option linter.all false
set_option maxRecDepth 100000
set_option maxHeartbeats 1000000
namespace Ev
open PySem PySem.Spec PyProof.Rows L2
theorem SR.tbl {g : Gx} {μ : Store} {α : List Addr} {H : Hp} {P : Addr} {ps ps' : Array Value} (S : SR g μ α H) (hP : H P = some (.tbl ps)) (hT : TriplesOk ps'.toList) : SR g μ α (upd H P (.tbl ps')) ∧ Grow g α H α (upd H P (.tbl ps')) := by
  have w : Grow g α H α (upd H P (.tbl ps')) := ⟨fun _ _ h => h, fun b vs h => upd_tup h (fun xs z => by rw [hP] at z; cases z) fun q xs z => by rw [hP] at z; cases z⟩
  refine ⟨⟨S.len, S.nd, fun i o h => ?_, upd_ro S.scr fun q xs z => (by rw [hP] at z; cases z), fun R hR => ?_⟩, w⟩
  · obtain ⟨a, ha, r⟩ := S.at_ i o h
    have ne : a ≠ P := fun z => by
      subst z
      rcases r.some with ⟨x, e⟩ | ⟨x, e⟩ | ⟨x, e⟩ <;> (rw [hP] at e; cases e)
    exact ⟨a, ha, r.grow w (upd_ne ne)⟩
  · by_cases z : R = P
    · subst z; exact ⟨ps', upd_same, hT⟩
    · obtain ⟨qs, e, t⟩ := S.tab R hR
      exact ⟨qs, by rw [upd_ne z]; exact e, t⟩
section
variable {X : Cx} {q : Q0} {W : XW} {a b c e elt iter : Expr} {es : List Expr} {ra rb re : EF} {ri : IF_} {rs : AF} {pos : Pos}
abbrev NX := Nat → Store → Option (Option D)
structure ItemsG (g : Gx) (α0 : List Addr) (H0 : Hp) (J : It) (nx : NX) : Prop where
  go : ∀ (i : Nat) α H μ d, Grow g α0 H0 α H → SR g μ α H → nx i μ = some (some d) → J.go i H ∧ ∀ x H', J.yld i H x H' → SR g μ α H' ∧ Grow g α H α H' ∧ Rv g α H' d x
  stop : ∀ (i : Nat) α H μ, Grow g α0 H0 α H → SR g μ α H → nx i μ = some none → J.stop i H
abbrev IG := Ro → Store → R (NX × Nat)
def tigEv (g : Gx) (W : XW) (r : IG) : TI := fun σ H Q => ∃ ρ μ α, Cf g ρ μ α σ H ∧ Pst g W α H (r ρ μ) (fun p _ α' H' => ∀ J, ItemsG g α' H' J p.1 → Q J H')
structure EIG (X : Cx) (q : Q0) (W : XW) (tg it : Expr) (r : IG) : Prop where
  p : PI X tg it (tigEv (gx X q) W r)
def nxK (ds : List D) : NX := fun i _ => some ds[i]?
def iK (r : IF_) : IG := fun ρ μ => (r ρ μ).bind fun ds μ1 => .ok (nxK ds, ds.length) μ1
theorem eig_known {tg it : Expr} (h : EI X q W tg it ri) : EIG X q W tg it (iK ri) := by
  refine ⟨PI.imp h.p fun σ H Q hh => ?_⟩
  obtain ⟨ρ, μ, α, C, P⟩ := hh
  refine ⟨ρ, μ, α, C, P.bind.imp fun ds μ1 α1 H1 w1 s1 P1 J hJ => P1.out s1 J ⟨fun i α2 H2 μ2 d w S e => ?_, fun i α2 H2 μ2 w S e => ?_⟩⟩
  · have e : ds[i]? = some d := Option.some.inj e
    have hi : i < ds.length := (List.getElem?_eq_some_iff.mp e).1
    refine ⟨hJ.go i α2 H2 w hi, fun x H' y => ?_⟩
    obtain ⟨a1, a2, d', a3, a4⟩ := hJ.yld i α2 H2 μ2 x H' w S y hi
    rw [e] at a3; cases a3
    exact ⟨a1, a2, a4⟩
  · have e : ds[i]? = none := Option.some.inj e
    exact hJ.stop i α2 H2 w (List.getElem?_eq_none_iff.mp e)
def nxL (ns : List Int) (l : D) (n : Nat) : NX := fun i μ => match lstOf ns μ l with
  | some xs => if xs.length = n then some xs[i]? else none
  | none => none
def iL (ns : List Int) (r : EF) : IG := fun ρ μ => (r ρ μ).bind fun l μ1 => match lstOf ns μ1 l with
  | some xs => .ok (nxL ns l xs.length, xs.length) μ1
  | none => .bad
theorem eig_list {tg it : Expr} (h : EE X q W it ra) : EIG X q W tg it (iL q.ns ra) := by
  refine ⟨PI.imp (pi_list h.p) fun σ H Q hh => ?_⟩
  obtain ⟨ρ, μ, α, C, P⟩ := hh
  refine ⟨ρ, μ, α, C, P.bind.imp fun l μ1 α1 H1 w1 s1 P1 v rv => ?_⟩
  split at P1
  · rename_i xs hx
    obtain ⟨a, vs, rfl, hq, hr⟩ := lst_sq s1 rv hx
    refine ⟨a, rfl, ⟨vs, hq⟩, P1.out s1 _ ⟨fun i α2 H2 μ2 d w S e => ?_, fun i α2 H2 μ2 w S e => ?_⟩⟩
    · dsimp only at e
      unfold nxL at e
      split at e
      · rename_i ys hy
        split at e
        · have e := Option.some.inj e
          obtain ⟨a', vs', ea, hq', hr'⟩ := lst_sq S (rv.mv w) hy
          cases ea
          obtain ⟨v, h1, h2⟩ := hr'.get e
          refine ⟨⟨vs', v, hq', h1⟩, fun x H' y => ?_⟩
          obtain ⟨e1, y⟩ := y
          subst e1
          have z := y vs' hq'
          rw [h1] at z; cases z
          exact ⟨S, .refl, h2⟩
        · cases e
      · cases e
    · dsimp only at e
      unfold nxL at e
      split at e
      · rename_i ys hy
        split at e
        · have e := Option.some.inj e
          obtain ⟨a', vs', ea, hq', hr'⟩ := lst_sq S (rv.mv w) hy
          cases ea
          exact ⟨vs', hq', by rw [← hr'.len]; exact List.getElem?_eq_none_iff.mp e⟩
        · cases e
      · cases e
  · exact P1.elim
def wipeR (ρ : Ro) : List Nat → Ro
  | [] => ρ
  | v :: vs => (wipeR ρ vs).set v none
theorem wipe_rel {g : Gx} {α : List Addr} {H : Hp} {ρ : Ro} {σ : St} (h : StR g α H ρ σ) : ∀ vs, StR g α H (wipeR ρ vs) (wipe σ vs)
  | [] => h
  | v :: vs => by
    have ih := wipe_rel h vs
    refine ⟨by show ((wipeR ρ vs).set v none).length = ((wipe σ vs).set v none).length; rw [List.length_set, List.length_set]; exact ih.1, fun i d e => ?_⟩
    have e : ((wipeR ρ vs).set v none)[i]? = some (some d) := e
    by_cases z : v = i
    · subst z
      rw [List.getElem?_set] at e
      simp only [if_true] at e
      split at e <;> cases e
    · rw [List.getElem?_set_ne z] at e
      obtain ⟨x, h1, h2⟩ := ih.2 i d e
      refine ⟨x, ?_, h2⟩
      show ((wipe σ vs).set v none)[i]? = _
      rw [List.getElem?_set_ne z]; exact h1
def R.nox {β : Type} : R β → R β
  | .ex _ _ => .bad
  | r => r
theorem Pst.nox {β : Type} {g : Gx} {W : XW} {α : List Addr} {H : Hp} {r : R β} {k : β → Store → List Addr → Hp → Prop} (h : Pst g W α H r.nox k) : Pst g W0 α H r k := by
  cases r with
  | ok b μ => exact h
  | ex e μ => exact False.elim h
  | bad => exact h
abbrev TgF := D → Ro → Option Ro
structure TgOk (K : PySem.W.Frag) (vs : List Nat) (t : TG) (f : TgF) : Prop where
  p : ∀ (g : Gx), g.K = K → ∀ (σ : St) (ρ : Ro) (d : D) (x : V) α H ρ2 (Q : St → Hp → Prop), Rv g α H d x → StR g α H ρ (wipe σ vs) → f d ρ = some ρ2 → (∀ σ2, StR g α H ρ2 σ2 → wipe σ2 vs = wipe σ vs → Q σ2 H) → t x (wipe σ vs) H Q
def tg1 (i : Nat) : TgF := fun d ρ => some (ρ.set i (some d))
theorem tgok1 {K : PySem.W.Frag} {i : Nat} : TgOk K [i] (gName i) (tg1 i) := ⟨fun g _ σ ρ d x α H ρ2 Q rd hs e hQ => by
  cases e
  refine hQ _ (hs.set rd i) ?_
  show (((σ.set i none).set i (some x)).set i none) = σ.set i none
  rw [List.set_set, List.set_set]⟩
def lcGo (nx : NX) (tg : TgF) (tt : TF) (te : EF) (ρ : Ro) (n : Nat) : Nat → Nat → Store → R Unit
  | 0, i, μ => match nx i μ with
    | some none => .ok () μ
    | _ => .bad
  | k + 1, i, μ => match nx i μ with
    | some none => .ok () μ
    | some (some d) => match tg d ρ with
      | some ρ2 => (tt ρ2 μ).nox.bind fun b μ1 => match b with
        | true => (te ρ2 μ1).nox.bind fun y μ2 => match μ2[n]? with
          | some (.lst acc) => if acc.length < sizeLine then lcGo nx tg tt te ρ n k (i + 1) (μ2.set n (.lst (acc ++ [y]))) else .bad
          | _ => .bad
        | false => lcGo nx tg tt te ρ n k (i + 1) μ1
      | none => .bad
    | none => .bad
def eLc (it : IG) (vs : List Nat) (tg : TgF) (tt : TF) (te : EF) : EF := fun ρ μ => (it ρ μ).bind fun p μ1 => (lcGo p.1 tg tt te (wipeR ρ vs) μ1.length p.2 0 (μ1 ++ [.lst []])).bind fun _ μ2 => .ok (.ob μ1.length) μ2
def tYesF : TF := fun _ μ => .ok true μ
structure ETs (X : Cx) (q : Q0) (W : XW) (ifs : List Expr) (r : TF) : Prop where
  p : PTs X ifs (ttEv (gx X q) W r)
theorem ets_nil : ETs X q W [] tYesF := ⟨fun pins s σ H Q I hh => by
  obtain ⟨ρ, μ, α, C, P⟩ := hh
  exact pts_nil pins s σ H Q I (P.out C.sr)⟩
theorem ets_one {ta : TF} (h : ET X q W c ta) : ETs X q W [c] ta := ⟨pts_one h.p⟩
theorem Pst.nobind {β γ : Type} {g : Gx} {α : List Addr} {H : Hp} {m : R β} {f : β → Store → R γ} {k : γ → Store → List Addr → Hp → Prop} (h : Pst g W α H (m.nox.bind f) k) : Pst g W0 α H m (fun b μ' α' H' => Pst g W α' H' (f b μ') k) := Pst.nox h.bind
theorem lc_tr {ig : IG} {vs : List Nat} {tg : TgF} {t : TG} {tt : TF} {σ : St} {H : Hp} {Q : VK} (ht : TgOk X.K vs t tg) (hh : tEv (gx X q) W (eLc ig vs tg tt re) σ H Q) :
    tLc (tigEv (gx X q) W ig) t (ttEv (gx X q) W0 tt) (tEv (gx X q) W0 re) vs σ H Q := by
  obtain ⟨ρ, μ, α, C, P⟩ := hh
  refine ⟨ρ, μ, α, C, P.bind.imp fun p μ1 α1 H1 w1 s1 P1 J hJ D hD => ?_⟩
  obtain ⟨SD, wD, rD⟩ := new_lst (ds := []) (vs := []) s1 .nil hD
  let Iv : Nat → Nat → Hp → Prop := fun i k H2 => ∃ μ2 α2, Grow (gx X q) (α1 ++ [D]) (upd H1 D (.lst [])) α2 H2 ∧ SR (gx X q) μ2 α2 H2 ∧ Pst (gx X q) W α2 H2 ((lcGo p.1 tg tt re (wipeR ρ vs) μ1.length k i μ2).bind fun _ μ3 => .ok (.ob μ1.length) μ3) (kE (gx X q) Q)
  refine ⟨fun i m H2 => Iv i m H2, ⟨p.2, _, _, .refl, SD, P1.grow wD⟩, ?_⟩
  rintro i m H2 ⟨μ2, α2, w2, s2, P2⟩
  have rD2 := rD.mv w2
  have wA : Grow (gx X q) α1 H1 α2 H2 := wD.trans w2
  have fin : ∀ {μ3 : Store}, p.1 i μ2 = some none → Pst (gx X q) W α2 H2 ((R.ok () μ2).bind fun _ μ3 => .ok (.ob μ1.length) μ3) (kE (gx X q) Q) → J.stop i H2 ∧ Q (.ref D) H2 := fun {_} e P3 => ⟨hJ.stop i α2 H2 μ2 wA s2 e, Pst.out (show Pst (gx X q) W α2 H2 (.ok (.ob μ1.length) μ2) (kE (gx X q) Q) from P3) s2 _ rD2⟩
  cases m with
  | zero =>
    unfold lcGo at P2
    split at P2
    · rename_i e; exact .inl (fin (μ3 := μ2) e P2)
    · exact P2.elim
  | succ m =>
    unfold lcGo at P2
    split at P2
    · rename_i e; exact .inl (fin (μ3 := μ2) e P2)
    · rename_i d e
      obtain ⟨go, yl⟩ := hJ.go i α2 H2 μ2 d wA s2 e
      refine .inr ⟨go, Iv (i + 1) m, fun H' pv => ⟨m, Nat.lt_succ_self m, pv⟩, fun x H' y => ?_⟩
      obtain ⟨s3, w3, rd⟩ := yl x H' y
      split at P2
      · rename_i ρ2 hρ
        have P3 := (Pst.grow P2 w3)
        refine ht.p (gx X q) rfl σ (wipeR ρ vs) d x α2 H' ρ2 _ rd ((wipe_rel C.st vs).grow (w1.trans (wA.trans w3))) hρ fun σ2 hs2 hw => ⟨hw, ?_⟩
        refine ⟨ρ2, μ2, α2, ⟨hs2, s3⟩, ?_⟩
        have P4 : Pst (gx X q) W α2 H' ((tt ρ2 μ2).nox.bind fun b μ3 => (match b with
          | true => (re ρ2 μ3).nox.bind fun y μ4 => match μ4[μ1.length]? with
            | some (.lst acc) => if acc.length < sizeLine then lcGo p.1 tg tt re (wipeR ρ vs) μ1.length m (i + 1) (μ4.set μ1.length (.lst (acc ++ [y]))) else .bad
            | _ => .bad
          | false => lcGo p.1 tg tt re (wipeR ρ vs) μ1.length m (i + 1) μ3).bind fun _ μ3 => .ok (.ob μ1.length) μ3) (kE (gx X q) Q) := by
          cases hh : tt ρ2 μ2 with
          | ok b μ3 => rw [hh] at P3; exact P3
          | ex e μ3 => rw [hh] at P3; exact P3.elim
          | bad => rw [hh] at P3; exact P3.elim
        refine P4.nobind.imp fun bb μ3 α3 H3 w4 s4 P5 => ?_
        have wB : Grow (gx X q) (α1 ++ [D]) (upd H1 D (.lst [])) α3 H3 := (w2.trans w3).trans w4
        cases bb with
        | false => exact iteF ⟨μ3, α3, wB, s4, P5⟩
        | true =>
          refine iteT ⟨ρ2, μ3, α3, ⟨hs2.grow w4, s4⟩, ?_⟩
          have P6 : Pst (gx X q) W α3 H3 ((re ρ2 μ3).nox.bind fun y μ4 => (match μ4[μ1.length]? with
            | some (.lst acc) => if acc.length < sizeLine then lcGo p.1 tg tt re (wipeR ρ vs) μ1.length m (i + 1) (μ4.set μ1.length (.lst (acc ++ [y]))) else .bad
            | _ => .bad).bind fun _ μ3 => .ok (.ob μ1.length) μ3) (kE (gx X q) Q) := by
            cases hh : re ρ2 μ3 with
            | ok b μ4 => rw [hh] at P5; exact P5
            | ex e μ4 => rw [hh] at P5; exact P5.elim
            | bad => rw [hh] at P5; exact P5.elim
          refine P6.nobind.imp fun yd μ4 α4 H4 w5 s5 P7 yv ry => ?_
          have wC : Grow (gx X q) (α1 ++ [D]) (upd H1 D (.lst [])) α4 H4 := wB.trans w5
          split at P7
          · rename_i acc hacc
            split at P7
            · rename_i hz
              obtain ⟨a', ha', vs', h1, h2⟩ := s5.at_ _ _ hacc
              have rD4 := rD.mv wC
              cases rD4 with
              | ob ee =>
                rw [ee] at ha'; cases ha'
                refine ⟨vs', h1, by rw [← h2.len]; exact hz, ?_⟩
                have wd : Grow (gx X q) α4 H4 α4 (upd H4 D (.lst (vs' ++ [yv]))) := grow_write s5 hacc ee
                exact ⟨_, α4, wC.trans wd, s5.write (o' := .lst (acc ++ [yd])) hacc ee wd ⟨_, upd_same, (h2.app (.one ry)).mv wd⟩, P7.grow wd⟩
            · exact P7.elim
          · exact P7.elim
      · exact P2.elim
    · exact P2.elim
theorem ee_lc {tg : Expr} {ifs : List Expr} {scope : Scope} {own : List (Str × Nat)} {ig : IG} {t : TG} {f : TgF} {tt : TF} (hc : X.calm = true) (hN : X.N.Nodup) (hi : EIG X q W tg iter ig) (ok : BlkOk X.N X.env.scope scope own) (ht : TgOk X.K (own.map (·.2)) t f)
    (hg : ∀ (s : Shared) (H : Hp) (C : Addr) (cl : List (Str × Addr)) (fp : List Addr), PG (X.blk s H scope (compEnvC scope cl C X.env) fp) tg t) (hts : ∀ (s : Shared) (H : Hp) (C : Addr) (cl : List (Str × Addr)) (fp : List Addr), ETs (X.blk s H scope (compEnvC scope cl C X.env) fp) q W0 ifs tt)
    (he : ∀ (s : Shared) (H : Hp) (C : Addr) (cl : List (Str × Addr)) (fp : List Addr), EE (X.blk s H scope (compEnvC scope cl C X.env) fp) q W0 elt re) (hs : ∀ x, foldedSetIterable iter X.env x = pure x := by intro _; rfl) :
    EE X q W (.ListComp elt [⟨tg, iter, ifs, 0⟩] scope pos) (eLc ig (own.map (·.2)) f tt re) :=
  ⟨PE.imp (pe_lc (tt := ttEv (gx X q) W0 tt) (te := tEv (gx X q) W0 re) hc hN hi.p ok hg (fun s H C cl fp => (hts s H C cl fp).p) (fun s H C cl fp => (he s H C cl fp).p) hs) fun σ H Q hh => lc_tr ht hh⟩
theorem es_setLc {i : Nat} {y : Str} {py spos : Pos} {tg : Expr} {ifs : List Expr} {scope : Scope} {own : List (Str × Nat)} {ig : IG} {t : TG} {f : TgF} {tt : TF} (hc : X.calm = true) (hN : X.N.Nodup) (hy : X.N[i]? = some y) (hyl : X.env.scope.names.lookup y = some .local)
    (hsw : swapsWith (.ListComp elt [⟨tg, iter, ifs, 0⟩] scope pos) (some (.Name y py)) spos.line X.env = pure true) (hi : EIG X q W tg iter ig) (ok : BlkOk X.N X.env.scope scope own) (ht : TgOk X.K (own.map (·.2)) t f)
    (hg : ∀ (s : Shared) (H : Hp) (C : Addr) (cl : List (Str × Addr)) (fp : List Addr), PG (X.blk s H scope (compEnvC scope cl C X.env) fp) tg t) (hts : ∀ (s : Shared) (H : Hp) (C : Addr) (cl : List (Str × Addr)) (fp : List Addr), ETs (X.blk s H scope (compEnvC scope cl C X.env) fp) q W0 ifs tt)
    (he : ∀ (s : Shared) (H : Hp) (C : Addr) (cl : List (Str × Addr)) (fp : List Addr), EE (X.blk s H scope (compEnvC scope cl C X.env) fp) q W0 elt re) (hs : ∀ x, foldedSetIterable iter X.env x = pure x := by intro _; rfl) :
    ES X q W (.Assign [.Name y py] (.ListComp elt [⟨tg, iter, ifs, 0⟩] scope pos) spos) (sAsg (eLc ig (own.map (·.2)) f tt re) (gN i)) := by
  refine ⟨PS.imp (ps_setLc (tt := ttEv (gx X q) W0 tt) (te := tEv (gx X q) W0 re) hc hN hy hyl hsw hi.p ok hg (fun s H C cl fp => (hts s H C cl fp).p) (fun s H C cl fp => (he s H C cl fp).p) hs) fun E σ H hh => ?_⟩
  obtain ⟨ρ, μ, α, C, P⟩ := hh
  refine lc_tr ht ⟨ρ, μ, α, C, P.bind.imp fun d μ1 α1 H1 w1 s1 P1 v rv => ?_⟩
  exact Pst.out (show Pst (gx X q) W α1 H1 (.ok (.nx (ρ.set i (some d))) μ1) (kS (gx X q) E) from P1) s1 _ ((C.st.grow w1).set rv i)
end
end Ev

end
section
set_option Elab.async false
set_option linter.all false
set_option maxRecDepth 100000
set_option maxHeartbeats 1000000
namespace Ev
open PySem PySem.Spec PyProof.Rows L2
def tupGo (te : EF) (ix : Nat) (ρ : Ro) (n : Nat) : List D → Store → R Unit
  | [], μ => .ok () μ
  | d :: ds, μ => (te (ρ.set ix (some d)) μ).nox.bind fun y μ1 => match μ1[n]? with
    | some (.lst acc) => if acc.length < sizeLine then tupGo te ix ρ n ds (μ1.set n (.lst (acc ++ [y]))) else .bad
    | _ => .bad
def tupEnd (n : Nat) (μ : Store) : R D := match μ[n]? with
  | some (.lst acc) => .ok (.tup acc) μ
  | _ => .bad
def eTupG (it : IF_) (ix : Nat) (te : EF) : EF := fun ρ μ => (it ρ μ).bind fun ds μ1 => (tupGo te ix ρ μ1.length ds (μ1 ++ [.lst []])).bind fun _ μ2 => tupEnd μ1.length μ2
section
variable {X : Cx} {q : Q0} {W : XW} {a b c e elt iter : Expr} {es : List Expr} {ra rb re : EF} {ri : IF_} {rs : AF} {pos : Pos}
end
end Ev
namespace Ev
open PySem PySem.Spec PyProof.Rows L2
section
variable {X : Cx} {q : Q0} {W : XW}
def opAdd (d e : D) (μ : Store) : R D := match d, e with
  | .int i, .int j => .ok (.int (i + j)) μ
  | .tup xs, .tup ys => if xs.length + ys.length ≤ sizeLine then .ok (.tup (xs ++ ys)) μ else .bad
  | .ob i, .ob j => match μ[i]?, μ[j]? with
    | some (.lst xs), some (.lst ys) => if xs.length + ys.length ≤ sizeLine then .ok (.ob μ.length) (μ ++ [.lst (xs ++ ys)]) else .bad
    | _, _ => .bad
  | .str x, .str y => if x.length + y.length ≤ sizeLine then .ok (.str (x ++ y)) μ else .bad
  | _, _ => .bad
theorem o_add : O2 X q W (binaryOp .Add) opAdd := by
  refine ⟨fun pins s σ H x y v u Q I rx ry hh => ?_⟩
  obtain ⟨d, e, μ, α, rd, re, S, P⟩ := hh
  unfold opAdd at P
  split at P
  · rename_i i j
    cases rd; cases re
    exact op_add pins s σ H _ _ v u Q I rx ry ⟨i, j, rfl, rfl, P.out S _ (.int _)⟩
  · rename_i xs ys
    split at P
    · rename_i hz
      cases rd with
      | tup h1 r1 =>
        cases re with
        | tup h2 r2 =>
          rename_i a vs b us
          refine Ex.op_catTT pins s σ H _ _ v u Q I rx ry ⟨a, b, vs, us, rfl, rfl, h1, h2, by rw [← r1.len, ← r2.len]; exact hz, fun e => ?_, fun e => ?_, fun e1 e2 p hp => ?_⟩
          · subst e; cases r1
            exact P.out S _ (.tup h2 r2)
          · subst e; cases r2
            rw [List.append_nil] at P
            exact P.out S _ (.tup h1 r1)
          · have w : Grow (gx X q) α H α (upd H p (.tup (vs ++ us))) := grow_new hp
            exact P.out2 w (S.keepN hp) _ (.tup (.inl (.inl upd_same)) ((r1.app r2).mv w))
    · exact P.elim
  · rename_i i j
    split at P
    · rename_i xs ys e1 e2
      split at P
      · rename_i hz
        obtain ⟨a1, ha1, vs, h1, r1⟩ := S.at_ i _ e1
        obtain ⟨a2, ha2, us, h2, r2⟩ := S.at_ j _ e2
        cases rd with
        | ob f1 =>
          cases re with
          | ob f2 =>
            rw [f1] at ha1; cases ha1
            rw [f2] at ha2; cases ha2
            refine op_cat pins s σ H _ _ v u Q I rx ry ⟨_, _, vs, us, rfl, rfl, h1, h2, by rw [← r1.len, ← r2.len]; exact hz, fun p hp => ?_⟩
            obtain ⟨S2, w2, rr⟩ := new_lst S (r1.app r2) hp
            exact P.out2 w2 S2 _ rr
      · exact P.elim
    · exact P.elim
  · rename_i x y
    split at P
    · rename_i hz
      cases rd; cases re
      exact op_add_str pins s σ H _ _ v u Q I rx ry ⟨_, _, rfl, rfl, hz, P.out S _ (.str _)⟩
    · exact P.elim
  · exact P.elim
instance (i j : Int) : Decidable (CMul i j) := by unfold CMul; exact inferInstance
def opMul (d e : D) (μ : Store) : R D := match d, e with
  | .int i, .int j => if CMul i j then .ok (.int (i * j)) μ else .bad
  | .tup xs, .int k => if -(2 ^ 63) ≤ k ∧ k < 2 ^ 63 ∧ xs.length * k.toNat ≤ sizeLine then .ok (.tup (List.replicate k.toNat xs).flatten) μ else .bad
  | .ob i, .int k => match μ[i]? with
    | some (.lst xs) => if -(2 ^ 63) ≤ k ∧ k < 2 ^ 63 ∧ xs.length * k.toNat ≤ sizeLine then .ok (.ob μ.length) (μ ++ [.lst (List.replicate k.toNat xs).flatten]) else .bad
    | _ => .bad
  | _, _ => .bad
theorem Rvs.rep {g : Gx} {α : List Addr} {H : Hp} {ds : List D} {vs : List V} (h : Rvs g α H ds vs) : ∀ k : Nat, Rvs g α H (List.replicate k ds).flatten (List.replicate k vs).flatten
  | 0 => .nil
  | k + 1 => by
    rw [List.replicate_succ, List.replicate_succ, List.flatten_cons, List.flatten_cons]
    exact h.app (Rvs.rep h k)
theorem o_mul : O2 X q W (binaryOp .Mult) opMul := by
  refine ⟨fun pins s σ H x y v u Q I rx ry hh => ?_⟩
  obtain ⟨d, e, μ, α, rd, re, S, P⟩ := hh
  unfold opMul at P
  split at P
  · rename_i i j
    split at P
    · rename_i hc
      cases rd; cases re
      exact op_mul pins s σ H _ _ v u Q I rx ry ⟨i, j, rfl, rfl, hc, P.out S _ (.int _)⟩
    · exact P.elim
  · rename_i xs k
    split at P
    · rename_i hz
      cases re
      cases rd with
      | tup h1 r1 =>
        rename_i a vs
        refine Ex.op_repT pins s σ H _ _ v u Q I rx ry ⟨a, k, vs, rfl, rfl, h1, hz.1, hz.2.1, by rw [← r1.len]; exact hz.2.2, fun e => ?_, fun e p hp => ?_⟩
        · have ee : (List.replicate k.toNat xs).flatten = xs := by
            rcases e with e | e
            · subst e
              cases r1
              simp
            · subst e; show (List.replicate 1 xs).flatten = xs; simp
          rw [ee] at P
          exact P.out S _ (.tup h1 r1)
        · have w : Grow (gx X q) α H α (upd H p (.tup (List.replicate k.toNat vs).flatten)) := grow_new hp
          exact P.out2 w (S.keepN hp) _ (.tup (.inl (.inl upd_same)) ((r1.rep _).mv w))
    · exact P.elim
  · rename_i i k
    split at P
    · rename_i xs e1
      split at P
      · rename_i hz
        obtain ⟨a1, ha1, vs, h1, r1⟩ := S.at_ i _ e1
        cases re
        cases rd with
        | ob f1 =>
          rw [f1] at ha1; cases ha1
          refine op_rep pins s σ H _ _ v u Q I rx ry ⟨_, k, vs, rfl, rfl, h1, hz.1, hz.2.1, by rw [← r1.len]; exact hz.2.2, fun p hp => ?_⟩
          obtain ⟨S2, w2, rr⟩ := new_lst S (r1.rep _) hp
          exact P.out2 w2 S2 _ rr
      · exact P.elim
    · exact P.elim
  · exact P.elim
end
end Ev

end
section
set_option Elab.async false
set_option linter.all false
set_option maxRecDepth 100000
set_option maxHeartbeats 1000000
namespace Ev
open PySem PySem.Spec PyProof.Rows L2
def BM (h : Heap) (mg : Str → Option Value) : Prop := ∃ bm ob, mg "__builtins__" = some (.ref bm) ∧ bm ≠ builtinsNs ∧ h.get? bm = some ob ∧ ob.cls = .type "module" ∧ ob.dict = some builtinsNs ∧ ob.data = .plain
theorem law_callG {P : Program} {w : World} {K : PySem.W.Frag} {mg mb : Str → Option Value} {k : Nat} {fa a : Addr} {fd : FuncData} {x : Str} {s₁ : Shared} {vs : List Value} {ns : List Int} {tabs : List (Addr × Addr)} {f : Fn}
    (KX : K.In s₁.heap) (hns : s₁.heap.Ns mainGlobals mg) (hb : s₁.heap.Ns builtinsNs mb) (hbb : ∀ x : Str, x ≠ "__name__" → mb x = bootBuiltins x) (hlim : s₁.heap.NoLimit) (hg : s₁.gens = #[])
    (ha : s₁.heap.get? a = some { cls := .type "list", data := .seq vs.toArray }) (hi : IntsAre vs ns) (hl : ns.length ≤ sizeLine) (hr : Room k callerA)
    (hT : PySem.W.TabsAt tabs s₁.heap) (hnt : PySem.W.noTabs K = true) (hbm : BM s₁.heap mg)
    (F : ∀ base : Heap, K.In base → base.Ns mainGlobals mg → (∀ q ∈ tabs, PySem.W.CodeHd base q.1 q.2) → BM base mg → FnOk P w K mg base CX0 k fa fd [x] (spE ⟨K, mg, a, ns, fun R => ∃ c, (c, R) ∈ tabs⟩ W0 f))
    (hbind : ∀ (s : Shared) (u : Value), BindsTo s fd ⟨[u], []⟩ [(x, u)])
    (hf : ∃ μ, f [.scr] [] = .ok (.bl true) μ) :
    codeAny (model P w) callerA (.call (.ref fa) ⟨[.ref a], []⟩) (fun r s' => r = .ok (.ret (.bool true)) ∧ OldK s₁.heap s'.heap ∧ s'.os = s₁.os ∧ AllBare s'.gens) s₁ := by
  have rv := vals_ints hi
  have lenV := hi.length
  have tabO : ∀ {b : Addr}, (∃ c, (c, b) ∈ tabs) → s₁.heap.get? b = some { cls := .none, data := .fields #[] } := fun {b} ⟨c, hc⟩ => (hT _ hc).2
  have core : ∀ H : Hp, (∀ b, H b = none ∨ (b = a ∧ ∃ o, H b = some (.frz o (.lst (ns.map V.int)))) ∨ ((∃ c, (c, b) ∈ tabs) ∧ H b = some (.tbl #[]))) → (∀ b, (∃ c, (c, b) ∈ tabs) → H b = some (.tbl #[])) → RoL K H a (ns.map V.int) → HOk P w H s₁.heap → (H a ≠ none → K.lookup a = none) →
      codeAny (model P w) callerA (.call (.ref fa) ⟨[.ref a], []⟩) (fun r s' => r = .ok (.ret (.bool true)) ∧ OldK s₁.heap s'.heap ∧ s'.os = s₁.os ∧ AllBare s'.gens) s₁ := by
    intro H hO hTb hS hok hK
    have base_of : ∀ {b : Addr} {o : Obj}, s₁.heap.get? b = some o → H b = none → (hidT s₁.heap H).get? b = some o := fun e n => hidT_get e n
    have noA : ∀ {b : Addr} {o : Obj}, s₁.heap.get? b = some o → b ≠ a → ¬ (o.cls = .none ∧ ∃ vs, o.data = .fields vs) → H b = none := fun {b o} e ne d => by
      rcases hO b with z | ⟨z, _⟩ | ⟨z, _⟩
      · exact z
      · exact absurd z ne
      · have q := tabO z
        rw [e] at q; cases q
        exact absurd ⟨rfl, _, rfl⟩ d
    have nsK : ∀ {b : Addr} {m : Str → Option Value}, s₁.heap.Ns b m → (hidT s₁.heap H).Ns b m := fun {b m} ⟨o, es, ep, e, d, r⟩ => ⟨o, es, ep, base_of e (noA e (fun z => by
      subst z; rw [ha] at e; cases e
      have d' : Data.seq vs.toArray _ = Data.dict es ep := d
      cases d') fun ⟨_, vs, z⟩ => by rw [d] at z; cases z), d, r⟩
    have hKb : K.In (hidT s₁.heap H) := fun b o e => base_of (KX b o e) (by
      rcases hO b with z | ⟨z, o', z2⟩ | ⟨z, z2⟩
      · exact z
      · subst z; rw [hK (by rw [z2]; simp)] at e; cases e
      · have q := tabO z
        rw [KX b o e] at q; cases q
        have h2 := List.all_eq_true.mp hnt _ (PySem.W.mem_of_lookupK e)
        exact absurd (show false = true from h2) Bool.false_ne_true)
    have hM : Mod K mg (hidT s₁.heap H) := ⟨hKb, nsK hns, ⟨mb, nsK hb, hbb⟩, let ⟨mc, h1, h2⟩ := hlim; ⟨mc, nsK h1, h2⟩⟩
    have e0 : Env0 P w K mg (hidT s₁.heap H) callerA [] s₁ H := ⟨rfl, hM, fun b o e => of_hidT e, Nat.le_of_eq (hidT_size _ _), trivial, fun b hb => absurd (show b ∈ ([] : List Addr) from hb) (by simp), hok, .of_eq hg⟩
    have hcd : ∀ q ∈ tabs, PySem.W.CodeHd (hidT s₁.heap H) q.1 q.2 := fun q hq => by
      obtain ⟨o, vs', file, tf, flags, tg, inF, text, tt, e1, r1, r2, r⟩ := (hT q hq).1
      refine ⟨o, vs', file, tf, flags, tg, inF, text, tt, base_of e1 (noA e1 (fun z => ?_) fun ⟨z, _⟩ => by rw [r1] at z; cases z), r1, r2, r⟩
      rw [z, ha] at e1; cases e1; exact absurd (show Value.type "list" = .type "code" from r1) (by decide)
    have hbm' : BM (hidT s₁.heap H) mg := by
      obtain ⟨bm, ob, h1, h2, h3, h4, h5, h6⟩ := hbm
      refine ⟨bm, ob, h1, h2, base_of h3 (noA h3 (fun z => ?_) fun ⟨z, _⟩ => by rw [h4] at z; cases z), h4, h5, h6⟩
      rw [z, ha] at h3; cases h3; exact absurd (show Value.type "list" = .type "module" from h4) (by decide)
    obtain ⟨μ, hμ⟩ := hf
    have hsp : spE ⟨K, mg, a, ns, fun R => ∃ c, (c, R) ∈ tabs⟩ W0 f [.ref a] H (fun v _ => v = .bl true) (fun _ _ _ => False) := by
      refine ⟨[.scr], [], [], .cons .scr .nil, ⟨rfl, fun i j b h => by simp at h, fun i o h => by simp at h, hS, fun R hR => ⟨#[], hTb R hR, ?_⟩⟩, ?_⟩
      · exact trivial
      · rw [hμ]
        intro α' H' _ _ v rv
        cases rv; rfl
    refine codeAny_mono ((F _ hKb (nsK hns) hcd hbm').run callerA [] s₁ H ⟨[.ref a], []⟩ [.ref a] [.ref a] _ _ hr e0 (hbind s₁ (.ref a)) (.cons rfl .nil) hsp) fun r s' h => ?_
    cases r with
    | error e => exact False.elim h
    | ok fl =>
      cases fl with
      | next => exact False.elim h
      | brk => exact False.elim h
      | cont => exact False.elim h
      | ret u =>
        obtain ⟨v, H', os, bare, un, hok', r', q⟩ := h
        have q' : v = .bl true := q
        subst q'
        obtain rfl : u = Value.bool true := r'
        have key : ∀ b o, s₁.heap.get? b = some o → asItWas s₁.heap s'.heap b o ∧ ∃ o', s'.heap.get? b = some o' := fun b o e => by
          rcases hO b with z | ⟨z, ob, z1⟩ | ⟨z, z1⟩
          · have q := un.keep b o e z (by intro z; exact absurd (show b ∈ ([] : List Addr) from z) (by simp)) (by simp)
            exact ⟨.inl q, o, q⟩
          · have z2 := un.frzs b ob _ z1
            obtain ⟨e1, _⟩ := hok b _ z1
            obtain ⟨e2, _⟩ := hok' b _ z2
            rw [e] at e1; cases e1
            exact ⟨.inl e2, _, e2⟩
          · obtain ⟨more, z2⟩ := un.tbls b _ z1
            have e1 := tabO z
            rw [e] at e1; cases e1
            have e2 : s'.heap.get? b = some { cls := .none, data := .fields (#[] ++ more) } := hok' b _ z2
            obtain ⟨c, hc⟩ := z
            exact ⟨.inr (.inl ⟨((hT _ hc).1.tab e).isCodeTable, rfl, #[], more, rfl, e2⟩), _, e2⟩
        exact ⟨rfl, ⟨fun b o e => (key b o e).1, fun b o e => (key b o e).2⟩, os, bare⟩
  have tbA : ∀ b, (∃ c, (c, b) ∈ tabs) → b ≠ a := fun b hb z => by
    have q := tabO hb
    rw [z, ha] at q; cases q
  cases hk : K.lookup a with
  | some o =>
    have e := KX a o hk
    rw [ha] at e
    cases e
    classical
    refine core (fun b => if (∃ c, (c, b) ∈ tabs) then some (.tbl #[]) else none) (fun b => ?_) (fun b hb => if_pos hb) (.inr ⟨_, vs.toArray, _, hk, rfl, rfl, rfl, by rw [List.size_toArray, lenV]; exact hl, by simpa using rv⟩) (fun b u z => ?_) (fun z => absurd (if_neg fun h => tbA a h rfl) z)
    · by_cases hb : ∃ c, (c, b) ∈ tabs
      · exact .inr (.inr ⟨hb, if_pos hb⟩)
      · exact .inl (if_neg hb)
    · by_cases hb : ∃ c, (c, b) ∈ tabs
      · have z' := (if_pos hb).symm.trans z
        cases z'
        exact tabO hb
      · have z' := (if_neg hb).symm.trans z
        cases z'
  | none =>
    classical
    have nt : ¬ ∃ c, (c, a) ∈ tabs := fun h => tbA a h rfl
    refine core (fun b => if b = a then some (.frz { cls := .type "list", data := .seq vs.toArray } (.lst (ns.map V.int))) else if (∃ c, (c, b) ∈ tabs) then some (.tbl #[]) else none) (fun b => ?_) (fun b hb => by
      rw [if_neg (tbA b hb), if_pos hb]) (.inl ⟨{ cls := .type "list", data := .seq vs.toArray }, if_pos rfl⟩) (fun b u z => ?_) fun _ => hk
    · by_cases hb : b = a
      · exact .inr (.inl ⟨hb, _, if_pos hb⟩)
      · by_cases hc : ∃ c, (c, b) ∈ tabs
        · exact .inr (.inr ⟨hc, by rw [if_neg hb, if_pos hc]⟩)
        · exact .inl (by rw [if_neg hb, if_neg hc])
    · by_cases hb : b = a
      · have z' := (if_pos hb).symm.trans z
        cases z'
        subst hb
        exact ⟨ha, by rw [List.length_map]; exact hl, vs, _, rv, ha⟩
      · dsimp only at z
        rw [if_neg hb] at z
        by_cases hc : ∃ c, (c, b) ∈ tabs
        · rw [if_pos hc] at z
          cases z
          exact tabO hc
        · rw [if_neg hc] at z; cases z
theorem walk_ofG {l : PySem.W.OpenLaw} {n k : Nat} {q : Program} {loose : List Str} {XP : (Str → Option Value) → Heap → Prop} {YP : World → Heap → Prop} {d : DefRec} {K : Params → PySem.W.Frag} {x : Str} {f : List Int → Fn} (nms : List Str)
    (hn : l.most = some n) (hn2 : n ≤ sizeLine) (hdf : d.params.defaults = []) (hr : Room k callerA)
    (hY : ∀ (w : World) (h : Heap), YP w h → (K w.params).In h) (hnt : ∀ w : World, PySem.W.noTabs (K w.params) = true)
    (hrec : ∀ y ∈ nms, ((recsOf q).find? (fun e => e.name == y)).isSome = true)
    (F : ∀ (w : World) (mg : Str → Option Value) (fa : Addr) (h : Heap), (K w.params).In h → h.Ns mainGlobals mg → mg d.name = some (.ref fa) →
      ∃ (fd : FuncData) (tabs : List (Addr × Addr)), (∀ p ∈ tabs, ∃ y ∈ nms, PySem.W.tabIn (K w.params) y = some p) ∧ (∀ (s : Shared) (u : Value), BindsTo s fd ⟨[u], []⟩ [(x, u)]) ∧
        ∀ (base : Heap) (a : Addr) (ns : List Int), (K w.params).In base → base.Ns mainGlobals mg → (∀ q ∈ tabs, PySem.W.CodeHd base q.1 q.2) → BM base mg → FnOk l.prog w (K w.params) mg base CX0 k fa fd [x] (spE ⟨K w.params, mg, a, ns, fun R => ∃ c, (c, R) ∈ tabs⟩ W0 (f ns)))
    (hf : ∀ ns : List Int, ns.length ≤ n → ∃ μ, f ns [.scr] [] = .ok (.bl true) μ) :
    PySem.W.WalkO q loose XP YP l.row.toRowW d [] (fun f vs => PySem.call f vs) := by
  refine Att.attach_call hn hdf fun w s₀ s₁ mg mb fa o pm cd doc a vs ns G Y ho hd hcd hmg hobj hints hlen hg => ?_
  have KX := hY w _ Y
  obtain ⟨fd, tabs, ht, hb, hF⟩ := F w mg fa _ KX G.T.g hmg
  have hT : PySem.W.TabsAt tabs s₁.heap := fun p hp => by
    obtain ⟨y, hy, e⟩ := ht p hp
    obtain ⟨dr, hdr⟩ := Option.isSome_iff_exists.mp (hrec y hy)
    exact PySem.W.tab_of G.T KX hdr e
  exact law_callG KX G.T.g G.T.b G.T.builtins G.T.nolimit hg hobj hints (Nat.le_trans hlen hn2) hr hT (hnt w) (let ⟨bm, ob, a, b, c, d, e, f⟩ := G.T.bmain; ⟨bm, ob, a, b, c, d, e, f⟩) (fun base k1 k2 k3 k4 => hF base a ns k1 k2 k3 k4) hb (hf ns hlen)
end Ev

end
section
set_option Elab.async false
set_option linter.all false
set_option maxRecDepth 100000
set_option maxHeartbeats 1000000
namespace Ev
open PySem PySem.Spec PyProof.Rows L2
def CallOk (P : Program) (w : World) (K : PySem.W.Frag) (mg : Str → Option Value) (base : Heap) (q : Q0) (k : Nat) (x : Str) (f : Fn) : Prop :=
  ∃ (a : Addr) (fd : FuncData) (ps : List Str), mg x = some (.ref a) ∧ PySem.W.keepIn K (.ref a) = true ∧ Binds K fd ps [] ∧ FnOk P w K mg base CX0 k a fd ps (spE ⟨K, mg, q.a0, q.ns, q.tb⟩ W0 f)
structure FunG (K : PySem.W.Frag) (x qual : Str) (st : Stmt) (f : Addr) (fd : FuncData) (cdv : Value) : Prop where
  ex : ∃ (oc : Value) (od : Option Addr) (kV doc pm : Value) (an : Option Addr) (ct : Value) (osl : Array (Option Value)),
    fd = PySem.W.fnOf x qual (defArgs st) (defBody st) (defScope st) .none kV doc pm an cdv ct ∧ K.lookup f = some ⟨oc, od, .func fd, osl⟩ ∧ PySem.W.codeIn K cdv qual = true
  kp : PySem.W.keepIn K (.ref f) = true
theorem fung_mk {K : PySem.W.Frag} {x qual : Str} {st : Stmt} {f : Addr} {oc : Value} {od an : Option Addr} {osl : Array (Option Value)} {kV doc pm cdv ct : Value} (l : K.lookup f = some ⟨oc, od, .func (PySem.W.fnOf x qual (defArgs st) (defBody st) (defScope st) .none kV doc pm an cdv ct), osl⟩)
    (c : PySem.W.codeIn K cdv qual = true) (k : PySem.W.keepIn K (.ref f) = true) : FunG K x qual st f (PySem.W.fnOf x qual (defArgs st) (defBody st) (defScope st) .none kV doc pm an cdv ct) cdv := ⟨⟨oc, od, kV, doc, pm, an, ct, osl, rfl, l, c⟩, k⟩
theorem FunG.fun {K : PySem.W.Frag} {x qual : Str} {st : Stmt} {f : Addr} {fd : FuncData} {cdv : Value} (F : FunG K x qual st f fd cdv) : Fun K x qual st f fd :=
  let ⟨oc, od, kV, doc, pm, an, ct, osl, a, b, c⟩ := F.ex; ⟨⟨oc, od, kV, doc, pm, an, cdv, ct, osl, a, b, c⟩, F.kp⟩
theorem hu64 {k : Nat} {A : Around} (h : Room k A) : A.units + 64 < cLine := by have := h.un; omega
theorem bt_int : bootBuiltins "int" = some (.type "int") := by decide +kernel
theorem bt_bool : bootBuiltins "bool" = some (.type "bool") := by decide +kernel
theorem bt_tuple : bootBuiltins "tuple" = some (.type "tuple") := by decide +kernel
theorem bt_str : bootBuiltins "str" = some (.type "str") := by decide +kernel
theorem bb_len : bootBuiltins "len" = some (.builtin "len") := by decide +kernel
theorem bb_abs : bootBuiltins "abs" = some (.builtin "abs") := by decide +kernel
theorem bb_min : bootBuiltins "min" = some (.builtin "min") := by decide +kernel
theorem bb_isinstance : bootBuiltins "isinstance" = some (.builtin "isinstance") := by decide +kernel
end Ev

end
section
set_option Elab.async false
set_option linter.all false
set_option maxRecDepth 100000
set_option maxHeartbeats 1000000
namespace Ev
open PySem PySem.Spec PyProof.Rows L2
section
variable {X : Cx} {q : Q0} {W : XW} {a b c e e2 o : Expr} {es : List Expr} {ra rb ro : EF} {rs : AF} {pos : Pos}
def iEn (r u : EF) : IF_ := fun ρ μ => (r ρ μ).bind fun d μ1 => (u ρ μ1).bind fun k μ2 => match d, k with
  | .tup xs, .int j => if -(2 ^ 62) ≤ j ∧ j < 2 ^ 62 then .ok (xs.mapIdx fun i x => D.tup [.int (j + (i : Nat)), x]) μ2 else .bad
  | _, _ => .bad
def isL (μ : Store) : D → Bool
  | .ob i => match μ[i]? with
    | some (.lst _) => true
    | _ => false
  | _ => false
def eMt (h : D → List D → Store → R D) (o : EF) (r : AF) : EF := fun ρ μ => (o ρ μ).bind fun x μ1 => if isL μ1 x = true then (r ρ μ1).bind fun ds μ2 => h x ds μ2 else .bad
structure MD (X : Cx) (q : Q0) (W : XW) (id : String) (h : D → List D → Store → R D) : Prop where
  p : MtR X id (fun x xs H Q => ∃ d ds μ α, Rv (gx X q) α H d x ∧ Rvs (gx X q) α H ds xs ∧ SR (gx X q) μ α H ∧ Pst (gx X q) W α H (h d ds μ) (kE (gx X q) Q))
theorem isL_sq {g : Gx} {α : List Addr} {H : Hp} {μ : Store} {d : D} {v : V} (S : SR g μ α H) (r : Rv g α H d v) (h : isL μ d = true) : ∃ a vs, v = .ref a ∧ SqL g.K H a vs := by
  cases d with
  | ob i =>
    unfold isL at h
    dsimp only at h
    split at h
    · rename_i xs e
      obtain ⟨a, ha, vs, h1, h2⟩ := S.at_ i _ e
      cases r with
      | ob e' => rw [e'] at ha; cases ha; exact ⟨_, vs, rfl, SqL.of h1⟩
    · cases h
  | _ => cases h
theorem ee_mt {h : D → List D → Store → R D} {name : Str} {id : String} {apos cpos : Pos} (pa : PlainAttrs "list") (slot : Slot "list" name id) (hty : typeOf (.builtin id) = pure (.type "method_descriptor")) (hm : MD X q W id h) (ho : EE X q W o ro) (ha : EA X q W (e :: es) rs)
    (hbase : attributeBase o name X.env (eval o X.env) = eval o X.env := by rfl)
    (hfew : ((backTo cpos (starEach (e :: es) X.env)).all (fun x => !x.1) && (backToKw cpos (keywordEach [] X.env)).all (fun x => x.1.isSome)
      && decide ((e :: es).length + ([] : List Keyword).length + (if ([] : List Keyword).isEmpty then 0 else 1) < 30)) = true := by rfl)
    (hline : (apos.endLine == cpos.line) = true := by rfl) (hs : starEach (e :: es) X.env = (false, eval e X.env) :: starEach es X.env := by rfl) (hplain : (backTo cpos (starEach es X.env)).any (·.1) = false := by rfl) :
    EE X q W (.Call (.Attribute o name apos) (e :: es) [] cpos) (eMt h ro rs) := by
  refine ⟨PE.imp (pe_bm pa slot hty hm.p ho.p ha.p hbase hfew hline hs hplain) fun σ H Q hh => ?_⟩
  obtain ⟨ρ, μ, α, C, P⟩ := hh
  refine ⟨ρ, μ, α, C, P.bind.imp fun x μ1 α1 H1 w1 s1 P1 v rv => ?_⟩
  split at P1
  · rename_i hl
    obtain ⟨a0, vs0, rfl, hq⟩ := isL_sq s1 rv hl
    refine ⟨.inl ⟨rfl, vs0, hq⟩, ρ, μ1, α1, ⟨C.st.grow w1, s1⟩, P1.bind.imp fun ds μ2 α2 H2 w2 s2 P2 xs rx => ⟨x, ds, μ2, α2, rv.mv w2, rx, s2, P2⟩⟩
  · exact P1.elim
theorem ee_mt0 {h : D → List D → Store → R D} {name : Str} {id : String} {apos cpos : Pos} (pa : PlainAttrs "list") (slot : Slot "list" name id) (hty : typeOf (.builtin id) = pure (.type "method_descriptor")) (hm : MD X q W id h) (ho : EE X q W o ro)
    (hbase : attributeBase o name X.env (eval o X.env) = eval o X.env := by rfl) (hline : (apos.endLine == cpos.line) = true := by rfl) : EE X q W (.Call (.Attribute o name apos) [] [] cpos) (eMt h ro aNil) := by
  refine ⟨PE.imp (pe_bm0 pa slot hty hm.p ho.p hbase hline) fun σ H Q hh => ?_⟩
  obtain ⟨ρ, μ, α, C, P⟩ := hh
  refine ⟨ρ, μ, α, C, P.bind.imp fun x μ1 α1 H1 w1 s1 P1 v rv => ?_⟩
  split at P1
  · rename_i hl
    obtain ⟨a0, vs0, rfl, hq⟩ := isL_sq s1 rv hl
    exact ⟨.inl ⟨rfl, vs0, hq⟩, x, [], μ1, α1, rv, .nil, s1, P1⟩
  · exact P1.elim
def mApp : D → List D → Store → R D
  | .ob i, [y], μ => match μ[i]? with
    | some (.lst xs) => if xs.length < sizeLine then .ok .non (μ.set i (.lst (xs ++ [y]))) else .bad
    | _ => .bad
  | _, _, _ => .bad
theorem m_app : MD X q W "list.append" mApp := by
  refine ⟨fun pins s σ H x xs v us Q I rx rv hh => mt_append pins s σ H x xs v us Q I rx rv ?_⟩
  obtain ⟨d, ds, μ, α, rd, rds, S, P⟩ := hh
  unfold mApp at P
  split at P
  · rename_i i y
    split at P
    · rename_i ys e
      split at P
      · rename_i hz
        obtain ⟨a0, ha, vs, h1, h2⟩ := S.at_ i _ e
        cases rd with
        | ob e' =>
          rw [e'] at ha; cases ha
          cases rds with
          | cons r1 r2 =>
            cases r2
            rename_i yv
            have w : Grow (gx X q) α H α (upd H a0 (.lst (vs ++ [yv]))) := grow_write S e e'
            exact ⟨_, vs, _, rfl, rfl, h1, by rw [← h2.len]; exact hz, P.out2 w (S.write (o' := .lst (ys ++ [y])) e e' w ⟨_, upd_same, (h2.app (.one r1)).mv w⟩) _ .non⟩
      · exact P.elim
    · exact P.elim
  · exact P.elim
end
end Ev

end
section
set_option Elab.async false
set_option linter.all false
set_option maxRecDepth 100000
set_option maxHeartbeats 1000000
namespace Ev
open PySem PySem.Spec PyProof.Rows L2
abbrev OF := Ro → Store → R (Option Int)
def oNone : OF := fun _ μ => .ok none μ
def oSome (r : EF) : OF := fun ρ μ => (r ρ μ).bind fun d μ1 => match d with
  | .int i => .ok (some i) μ1
  | _ => .bad
def cutL {α : Type} (xs : List α) (lo hi : Option Int) : List α := (xs.drop (HT.sIx xs.length 0 lo)).take (HT.sIx xs.length xs.length hi - HT.sIx xs.length 0 lo)
def slD (ns : List Int) (d : D) (lo hi : Option Int) (μ : Store) : R D := match d with
  | .tup xs => .ok (.tup (cutL xs lo hi)) μ
  | .str x => if x.length ≤ sizeLine then .ok (.str (cutS x lo hi)) μ else .bad
  | d => match lstOf ns μ d with
    | some xs => .ok (.ob μ.length) (μ ++ [.lst (cutL xs lo hi)])
    | none => .bad
def eSl (ns : List Int) (r : EF) (lo hi : OF) : EF := fun ρ μ => (r ρ μ).bind fun d μ1 => (lo ρ μ1).bind fun l μ2 => (hi ρ μ2).bind fun h μ3 => slD ns d l h μ3
section
variable {X : Cx} {q : Q0} {W : XW} {a b c e : Expr} {ra rb : EF} {rl rh : OF} {lo hi : Option Expr} {pos p2 : Pos}
def eNeg (a : EF) : EF := fun ρ μ => (a ρ μ).bind fun d μ1 => match d with
  | .int i => .ok (.int (-i)) μ1
  | _ => .bad
theorem ee_neg (ha : EE X q W a ra) : EE X q W (.UnaryOp .USub a pos) (eNeg ra) := by
  refine ⟨PE.imp (pe_un un_neg ha.p) fun σ H Q hh => ?_⟩
  obtain ⟨ρ, μ, α, C, P⟩ := hh
  refine ⟨ρ, μ, α, C, P.bind.imp fun d μ1 α1 H1 w1 s1 P1 v rv => ?_⟩
  split at P1
  · cases rv; exact ⟨_, rfl, P1.out s1 _ (.int _)⟩
  · exact P1.elim
def mRev : D → List D → Store → R D
  | .ob i, [], μ => match μ[i]? with
    | some (.lst xs) => .ok .non (μ.set i (.lst xs.reverse))
    | _ => .bad
  | _, _, _ => .bad
theorem Rvs.erase {g : Gx} {α : List Addr} {H : Hp} : ∀ {ds : List D} {vs : List V} (k : Nat), Rvs g α H ds vs → Rvs g α H (ds.eraseIdx k) (vs.eraseIdx k)
  | _, _, _, .nil => by simp; exact .nil
  | _, _, 0, .cons _ t => t
  | _, _, k + 1, .cons r t => .cons r (Rvs.erase k t)
def mPop : D → List D → Store → R D
  | .ob i, [.int k], μ => match μ[i]? with
    | some (.lst xs) => if -(2 ^ 62) ≤ k ∧ k < 2 ^ 62 then match seqIndex? k xs.length with
      | some j => match xs[j]? with
        | some y => .ok y (μ.set i (.lst (xs.eraseIdx j)))
        | none => .bad
      | none => .bad
      else .bad
    | _ => .bad
  | .ob i, [], μ => match μ[i]? with
    | some (.lst xs) => match xs[xs.length - 1]? with
      | some y => .ok y (μ.set i (.lst xs.dropLast))
      | none => .bad
    | _ => .bad
  | _, _, _ => .bad
theorem Rvs.dropLast {g : Gx} {α : List Addr} {H : Hp} {ds : List D} {vs : List V} (h : Rvs g α H ds vs) : Rvs g α H ds.dropLast vs.dropLast := by
  rw [List.dropLast_eq_take, List.dropLast_eq_take, h.len]
  exact h.take _
theorem m_pop : MD X q W "list.pop" mPop := by
  refine ⟨fun pins s σ H x xs v us Q I rx rv hh => ?_⟩
  obtain ⟨d, ds, μ, α, rd, rds, S, P⟩ := hh
  unfold mPop at P
  split at P
  · rename_i i k
    split at P
    · rename_i ys e
      split at P
      · rename_i hk
        split at P
        · rename_i j hj
          split at P
          · rename_i y hy
            obtain ⟨a0, ha, vs, h1, h2⟩ := S.at_ i _ e
            cases rd with
            | ob e' =>
              rw [e'] at ha; cases ha
              cases rds with
              | cons r1 r2 =>
                cases r2; cases r1
                obtain ⟨yv, hv, ry⟩ := h2.get hy
                have w : Grow (gx X q) α H α (upd H a0 (.lst (vs.eraseIdx j))) := grow_write S e e'
                exact mt_popAt pins s σ H _ _ v us Q I rx rv ⟨a0, vs, k, j, yv, rfl, rfl, h1, by omega, by omega, by rw [← h2.len]; exact hj, hv, P.out2 w (S.write (o' := .lst (ys.eraseIdx j)) e e' w ⟨_, upd_same, (h2.erase j).mv w⟩) _ (ry.mv w)⟩
          · exact P.elim
        · exact P.elim
      · exact P.elim
    · exact P.elim
  · rename_i i
    split at P
    · rename_i ys e
      split at P
      · rename_i y hy
        obtain ⟨a0, ha, vs, h1, h2⟩ := S.at_ i _ e
        cases rd with
        | ob e' =>
          rw [e'] at ha; cases ha
          cases rds
          obtain ⟨yv, hv, ry⟩ := h2.get hy
          have w : Grow (gx X q) α H α (upd H a0 (.lst vs.dropLast)) := grow_write S e e'
          exact mt_pop pins s σ H _ _ v us Q I rx rv ⟨a0, vs, yv, rfl, rfl, h1, by rw [← h2.len]; exact hv, P.out2 w (S.write (o' := .lst ys.dropLast) e e' w ⟨_, upd_same, h2.dropLast.mv w⟩) _ (ry.mv w)⟩
      · exact P.elim
    · exact P.elim
  · exact P.elim
end
end Ev

end
section
set_option Elab.async false
set_option linter.all false
set_option maxRecDepth 100000
set_option maxHeartbeats 1000000
namespace Xc
open PySem PySem.Spec PyProof.Rows L2
open PySem.W (hideAll hideAll_get of_hideAll hideAll_none funFrames_hide)
structure Fl (P : Program) (w : World) (outer : List Env) (H : Hp) (s : Shared) (a : Addr) (C : Value) (H' : Hp) (s' : Shared) : Prop where
  ex : ∃ (B : Heap) (t : Addr), Heap.FlyingW B outer a C (.ref t) s'.heap ∧ B.get? t = none ∧ (∀ b u, H' b = some u → ∃ o, B.get? b = some o) ∧ (∀ b o, s.heap.get? b = some o → H b = none → b ∉ frs outer → B.get? b = some o) ∧ ∀ b o, s.heap.get? b = some o → b ∉ frs outer → ∃ o', B.get? b = some o'
  os : s'.os = s.os
  bare : AllBare s'.gens
  un : Un (frs outer) [] H H' s.heap s'.heap
  hok : HOk P w H' s'.heap
  free : H' a = none
def CXE (P : Program) (w : World) : CXT := fun outer H s E e s' => ∃ (a : Addr) (C : Value) (H' : Hp), e = .ref a ∧ Fl P w outer H s a C H' s' ∧ E C none H'
theorem hok_fly {P : Program} {w : World} {H : Hp} {h h' B : Heap} (ok : HOk P w H h) (hB : ∀ b u, H b = some u → ∃ o, B.get? b = some o) (k1 : B.StaysIn h) (k2 : B.StaysIn h') : HOk P w H h' := fun b u e =>
  (ok b u e).stay (fun c o hc q => by
    have hc' : ∃ u, H c = some u := by
      rcases hc with rfl | hc
      · exact ⟨u, e⟩
      · exact ⟨_, hc⟩
    obtain ⟨u', hu⟩ := hc'
    obtain ⟨o', ho⟩ := hB c u' hu
    have e1 := k1 c o' ho
    rw [q] at e1; cases e1
    exact k2 c o ho) (fun _ q => q) fun _ _ q => q
theorem obj_none {P : Program} {w : World} {H : Hp} {h : Heap} {b : Addr} {u : HO} (x : ObjOk P w H h b u) (q : h.get? b = none) : False := by
  cases u with
  | lst xs => obtain ⟨_, _, _, _, e⟩ := x; rw [q] at e; cases e
  | tup xs => obtain ⟨_, _, _, o, e, _⟩ := x; rw [q] at e; cases e
  | dK kvs => obtain ⟨_, _, _, _, o, _, _, e, _⟩ := x; rw [q] at e; cases e
  | dT kvs => obtain ⟨_, _, _, _, o, _, _, e, _⟩ := x; rw [q] at e; cases e
  | set S n => obtain ⟨o, _, _, _, e, _⟩ := x; rw [q] at e; cases e
  | ins C dx fs => obtain ⟨_, _, _, e, _⟩ := x; rw [q] at e; cases e
  | own y => obtain ⟨o, e⟩ := x; rw [q] at e; cases e
  | xd fs => obtain ⟨mA, ⟨o, es, ep, e, _⟩, _⟩ := x; rw [q] at e; cases e
  | rng lo hi => obtain ⟨_, _, _, e⟩ := x; rw [q] at e; cases e
  | frz o u => obtain ⟨e, _⟩ := x; rw [q] at e; cases e
  | tbl ps => have e : h.get? b = some _ := x; rw [q] at e; cases e
  | met f y => have e : h.get? b = some _ := x; rw [q] at e; cases e
  | ext φ => obtain ⟨_, ⟨o, e⟩, _⟩ := x; rw [q] at e; cases e
section
variable {X : Cx} {pins : List (Addr × Obj)} {σ : L2.St} {H H' : Hp} {s s' : Shared} {a L : Addr} {C : Value}
theorem frame_data {h base : Heap} {l : List Env} (f : h.FunFrames base l) {b : Addr} (hb : b ∈ frs l) : ∃ o, h.get? b = some o ∧ ∀ vs, o.data ≠ .fields vs := by
  obtain ⟨_, o, ho, hd⟩ := f.mem hb
  exact ⟨o, ho, hd⟩
theorem un_leave {h'' B : Heap} (I : Inv X pins σ H s) (hex : X.ex = []) (hst : X.stack = X.env :: X.outer) (hfm : X.env.frame = some X.env.locals) (u : Un (frs X.stack) [] H H' s.heap s'.heap) (hB : ∀ b u, H' b = some u → ∃ o, B.get? b = some o)
    (hK : ∀ b o, s.heap.get? b = some o → H b = none → b ∉ frs X.stack → B.get? b = some o) (hT : ∀ b o, s.heap.get? b = some o → b ∉ frs X.stack → ∃ o', B.get? b = some o') (k2 : B.StaysIn h'') (hsl : s'.heap.UpToSlots h'') : Un X.fs [] X.H_0 H' X.s_0.heap h'' := by
  have hb0 := I.base
  rw [hex] at hb0
  have ne : ∀ b o, X.s_0.heap.get? b = some o → b ≠ X.env.locals := fun b o e z => by
    have := Heap.lt_size e
    have h2 := I.ok.above
    rw [z] at this
    exact Nat.lt_irrefl _ (Nat.lt_of_lt_of_le this h2)
  have nst : ∀ b o, X.s_0.heap.get? b = some o → b ∉ X.fs → b ∉ frs X.stack := fun b o e hb z => by
    rcases List.mem_cons.mp (I.stkSub b z) with q | q
    · exact ne b o e q
    · exact hb q
  refine ⟨fun b o e n hb _ => ?_, fun b o e n hb _ => ?_, fun b o e n _ => ?_, fun b o e _ => ?_, fun b xs e => u.tups b xs (hb0.tups b xs e), fun b o v e => u.frzs b o v (hb0.frzs b o v e), fun b ps e => ?_⟩
  · exact k2 b o (hK b o (hb0.keep b o e n hb (by simp)) (hb0.free b o e n (by simp)) (nst b o e hb))
  · obtain ⟨sl, e1⟩ := hb0.slot b o e n hb (by simp)
    have n1 := hb0.free b o e n (by simp)
    obtain ⟨sl2, e2⟩ := u.any e1 n1 (by simp)
    obtain ⟨of, hof, hd⟩ := frame_data I.ok.funs hb
    rw [e] at hof; cases hof
    obtain ⟨sl3, e3⟩ := hsl b _ e2 (fun vs q => hd vs q)
    exact ⟨sl3, e3⟩
  · exact u.free b _ (Classical.choose_spec (hb0.there b o e (by simp))) (hb0.free b o e n (by simp)) (by simp)
  · obtain ⟨o1, e1⟩ := hb0.there b o e (by simp)
    obtain ⟨o2, e2⟩ := u.there b o1 e1 (by simp)
    cases q : H' b with
    | some v =>
      obtain ⟨o3, e3⟩ := hB b v q
      exact ⟨o3, k2 b o3 e3⟩
    | none =>
      cases q0 : X.H_0 b with
      | some v0 =>
        have hb : b ∉ X.fs := fun hb => by
          have := I.ok.frf b hb
          rw [q0] at this; cases this
        obtain ⟨o3, e3⟩ := hT b o1 e1 (nst b o e hb)
        exact ⟨o3, k2 b o3 e3⟩
      | none =>
        by_cases hb : b ∈ X.fs
        · obtain ⟨sl, e1'⟩ := hb0.slot b o e q0 hb (by simp)
          obtain ⟨sl2, e2'⟩ := u.any e1' (hb0.free b o e q0 (by simp)) (by simp)
          obtain ⟨of, hof, hd⟩ := frame_data I.ok.funs hb
          rw [e] at hof; cases hof
          obtain ⟨sl3, e3⟩ := hsl b _ e2' (fun vs q => hd vs q)
          exact ⟨_, e3⟩
        · exact ⟨o, k2 b o (hK b o (hb0.keep b o e q0 hb (by simp)) (hb0.free b o e q0 (by simp)) (nst b o e hb))⟩
  · obtain ⟨m1, e1⟩ := hb0.tbls b ps e
    obtain ⟨m2, e2⟩ := u.tbls b _ e1
    exact ⟨m1 ++ m2, by rw [e2, Array.append_assoc]⟩
theorem fl_made {h' : Heap} {args : List Value} {Q : Unit → Shared → Prop} {E : Value → Shared → Prop} (I : Inv X pins σ H s) (hex : X.ex = []) (hst : X.stack = X.env :: X.outer) (hfm : X.env.frame = some X.env.locals) (hx : Heap.MadeExcOf s.heap h' a C args)
    (hQ : ∀ h'', Fl X.prog X.w X.outer X.H_0 X.s_0 a C H { s with heap := h'' } → Q () { s with heap := h'' }) : wpAny (model X.prog X.w) X.A (leaving X.env (.ref a)) Q E { s with heap := h' } := by
  have fr := I.ok.frames
  rw [hst] at fr
  obtain ⟨B, hB0, k1, ff⟩ : ∃ B : Heap, (∀ b o, s.heap.get? b = some o → b ∉ frs X.stack → B.get? b = some o) ∧ B.StaysIn s.heap ∧ s.heap.FunFrames B X.stack :=
    ⟨hideAll s.heap (frs X.stack), fun b o e hb => hideAll_get _ e hb, fun b o q => of_hideAll _ q, funFrames_hide I.stack fun env he b hb => List.mem_filterMap.mpr ⟨env, he, hb⟩⟩
  rw [hst] at ff
  have tr : ∀ b u, H b = some u → ∃ o, B.get? b = some o := fun b u e => by
    obtain ⟨o, ho⟩ : ∃ o, s.heap.get? b = some o := by
      cases q : s.heap.get? b with
      | some o => exact ⟨o, rfl⟩
      | none => exact absurd (I.hok b u e) (by intro z; exact obj_none z q)
    exact ⟨o, hB0 b o ho fun hb => by have := I.stkFree b hb; rw [e] at this; cases this⟩
  have hb0 := I.base
  rw [hex] at hb0
  have fresh_a : H a = none := by
    cases q : H a with
    | none => rfl
    | some u =>
      obtain ⟨o, ho⟩ := tr a u q
      have := k1 _ _ ho
      rw [hx.new] at this; cases this
  refine wpAny_leaves_madeW fr hfm k1 ff hx fun h'' t x1 x2 x3 x4 => hQ h'' ?_
  have k2 : B.StaysIn h'' := x1.1
  have ne : ∀ b o, X.s_0.heap.get? b = some o → b ≠ X.env.locals := fun b o e z => by
    have := Heap.lt_size e
    have h2 := I.ok.above
    rw [z] at this
    exact Nat.lt_irrefl _ (Nat.lt_of_lt_of_le this h2)
  have nst : ∀ b o, X.s_0.heap.get? b = some o → b ∉ X.fs → b ∉ frs X.stack := fun b o e hb z => by
    rcases List.mem_cons.mp (I.stkSub b z) with q | q
    · exact ne b o e q
    · exact hb q
  refine ⟨⟨B, t, x1, x3, tr, fun b o e n hb => hB0 b o (hb0.keep b o e n hb (by simp)) (nst b o e hb), fun b o e hb => ?_⟩, I.os, I.bare, ?_, hok_fly I.hok tr k1 k2, fresh_a⟩
  · obtain ⟨o1, e1⟩ := hb0.there b o e (by simp)
    exact ⟨o1, hB0 b o1 e1 (nst b o e hb)⟩
  · exact un_leave (s' := { s with heap := h' }) I hex hst hfm (Un.kept hx.keeps) tr (fun b o e _ hb => hB0 b o e hb) (fun b o e hb => ⟨o, hB0 b o e hb⟩) k2 x4
theorem fl_pass {Q : Unit → Shared → Prop} {E : Value → Shared → Prop} (I : Inv X pins σ H s) (hex : X.ex = []) (hst : X.stack = X.env :: X.outer) (hfm : X.env.frame = some X.env.locals) (F : Fl X.prog X.w X.stack H s a C H' s')
    (hQ : ∀ h'', Fl X.prog X.w X.outer X.H_0 X.s_0 a C H' { s' with heap := h'' } → Q () { s' with heap := h'' }) : wpAny (model X.prog X.w) X.A (leaving X.env (.ref a)) Q E s' := by
  obtain ⟨B, t, f1, f2, f3, f4, f5⟩ := F.ex
  have fr := I.ok.frames
  rw [hst] at fr f1
  refine wpAny_leaves_onW fr hfm f1 fun h'' x1 x2 => hQ h'' ?_
  have hb0 := I.base
  rw [hex] at hb0
  have ne : ∀ b o, X.s_0.heap.get? b = some o → b ≠ X.env.locals := fun b o e z => by
    have := Heap.lt_size e
    have h2 := I.ok.above
    rw [z] at this
    exact Nat.lt_irrefl _ (Nat.lt_of_lt_of_le this h2)
  have nst : ∀ b o, X.s_0.heap.get? b = some o → b ∉ X.fs → b ∉ frs X.stack := fun b o e hb z => by
    rcases List.mem_cons.mp (I.stkSub b z) with q | q
    · exact ne b o e q
    · exact hb q
  refine ⟨⟨B, t, x1, f2, f3, fun b o e n hb => f4 b o (hb0.keep b o e n hb (by simp)) (hb0.free b o e n (by simp)) (nst b o e hb), fun b o e hb => ?_⟩, F.os.trans I.os, F.bare, ?_, hok_fly F.hok f3 f1.1 x1.1, F.free⟩
  · obtain ⟨o1, e1⟩ := hb0.there b o e (by simp)
    exact f5 b o1 e1 (nst b o e hb)
  · exact un_leave I hex hst hfm F.un f3 f4 f5 x1.1 x2
end
end Xc

end
section
set_option Elab.async false
set_option linter.all false
set_option maxRecDepth 100000
set_option maxHeartbeats 1000000
namespace Xc
open PySem PySem.Spec PyProof.Rows L2 Ev
def WE (mg : Str → Option Value) (E : XK) : XW := fun e _ _ H => match e with
  | .mk x _ => ∃ C : Addr, mg x = some (.ref C) ∧ E (.ref C) none H
def spX (g : Gx) (f : Fn) : Sp := fun vs H Q E => ∃ ds μ α, Rvs g α H ds vs ∧ SR g μ α H ∧ Pst g (WE g.mg E) α H (f ds μ) (kE g Q)
section
variable {P : Program} {w : World} {K : PySem.W.Frag} {mg : Str → Option Value} {base : Heap} {N : List Str} {qual : Str} {scope : Scope} {f : Addr} {cdv : Value} {A : Around} {outer : List Env} {s : Shared} {H : Hp} {E : XK}
abbrev cx (P : Program) (w : World) (K : PySem.W.Frag) (mg : Str → Option Value) (base : Heap) (N : List Str) (qual : Str) (scope : Scope) (f : Addr) (cdv : Value) (A : Around) (outer : List Env) (s : Shared) (H : Hp) (E : XK) : Cx := cxOf (CXE P w) P w K mg base N qual scope f cdv A outer s H E
theorem passX : Passes (CXE P w) (cx P w K mg base N qual scope f cdv A outer s H E) E := by
  intro pins σ H1 s1 e s' I h
  obtain ⟨a, C, H', rfl, F, hE⟩ := h
  exact fl_pass I rfl rfl rfl F fun h'' F' => ⟨a, C, H', rfl, F', hE⟩
def sRaise (x : Str) (rs : AF) : SF := fun ρ μ => (rs ρ μ).bind fun ds μ1 => if ds.length ≤ 1000 then .ex (.mk x []) μ1 else .bad
theorem es_raise {q : Q0} {x : Str} {C : Addr} {bmB : List Value} {B newId initId : String} {e : Expr} {es : List Expr} {rs : AF} {np cpos pos : Pos} (O : OwnCls x C bmB newId mg base) (FB : ExcBaseFacts B newId initId bmB)
    (hg : Gl (cx P w K mg base N qual scope f cdv A outer s H E) x) (ha : EA (cx P w K mg base N qual scope f cdv A outer s H E) q (WE mg E) (e :: es) rs) (hd : (x == ("__debug__" : Str)) = false := by decide)
    (he : starEach (e :: es) (cx P w K mg base N qual scope f cdv A outer s H E).env = (false, eval e (cx P w K mg base N qual scope f cdv A outer s H E).env) :: starEach es (cx P w K mg base N qual scope f cdv A outer s H E).env := by rfl)
    (hplain : (backTo cpos (starEach es (cx P w K mg base N qual scope f cdv A outer s H E).env)).any (·.1) = false := by rfl) :
    ES (cx P w K mg base N qual scope f cdv A outer s H E) q (WE mg E) (.Raise (some (.Call (.Name x np) (e :: es) [] cpos)) none pos) (sRaise x rs) := by
  refine ⟨fun pins s1 σ H1 D I hh => ?_⟩
  obtain ⟨ρ, μ, α, Cf, PP⟩ := hh
  obtain ⟨tl, Nn, nm, q', bs, hdct, sn, sub, ab, col, dd, k0, k1, k2, k3, k5, mN, hC, hN, hni, T⟩ := O.obj
  have hbk : ∀ {s2 : Shared} {σ2 : L2.St} {H2 : Hp}, Inv (cx P w K mg base N qual scope f cdv A outer s H E) pins σ2 H2 s2 → ∀ b o, base.get? b = some o → s2.heap.get? b = some o := fun I2 b o e => I2.bk b o e
  refine wpAny_Raise_call_subT (C := C) (nm := nm) (q := q') (N := Nn) (bs := bs) (bm := tl) (hdct := hdct) (sn := sn) (sub := sub) (ab := ab) (col := col) (dd := dd) (k0 := k0) (k1 := k1) (k2 := k2) (k3 := k3) (k5 := k5)
    FB (mN := mN) (T.hasType FB.hasBase) (I.ok.hd rfl) (by rw [he]; show (false || (backTo cpos (starEach es _)).any (·.1)) = false; rw [hplain]; rfl) hni (ld_glob I hg O.bound ⟨rfl, ?_⟩ hd)
  have hA := ha.p cpos pins s1 σ H1 (fun vs H2 => vs.length ≤ sizeLine ∧ E (.ref C) none H2) I ⟨ρ, μ, α, Cf, PP.bind.imp fun ds μ1 α1 H2 w1 S1 P1 vs rv => ?_⟩
  · rw [he] at hA ⊢
    refine Calls.evalArgs_plain (wpAny_mono hA (fun us s2 ⟨vs, H2, I2, r2, hz, hE⟩ => ⟨rfl, by rw [← r2.length]; exact hz, hbk I2 _ _ hC, hN.keeps (hbk I2), T.keeps (hbk I2), fun h' e hx => ?_⟩) fun _ _ y => y)
    exact fl_made I2 rfl rfl rfl hx fun h'' F => ⟨e, .ref C, H2, rfl, F, hE⟩
  · split at P1
    · rename_i hz
      obtain ⟨C', h1, h2⟩ := P1 α1 H2 .refl S1
      have hb := O.bound
      rw [show mg x = some (.ref C') from h1] at hb
      cases hb
      exact ⟨by rw [← rv.len, sizeLine_eq]; omega, h2⟩
    · exact P1.elim
structure FOkX (X : Cx) (q : Q0) (k : Nat) (x : Str) (g : Fn) : Prop where
  ex : ∃ (a : Addr) (fd : FuncData) (ps : List Str), X.mg x = some (.ref a) ∧ PySem.W.keepIn X.K (.ref a) = true ∧ Binds X.K fd ps [] ∧ FnOk X.prog X.w X.K X.mg X.base (CXE X.prog X.w) k a fd ps (spX (gx X q) g)
theorem ee_callX {q : Q0} {k : Nat} {x : Str} {p pos : Pos} {g : Fn} {e : Expr} {es : List Expr} {rs : AF} (F : FOkX (cx P w K mg base N qual scope f cdv A outer s H E) q k x g) (hr : Room k (cx P w K mg base N qual scope f cdv A outer s H E).A) (hg : Gl (cx P w K mg base N qual scope f cdv A outer s H E) x)
    (ha : EA (cx P w K mg base N qual scope f cdv A outer s H E) q (WE mg E) (e :: es) rs) (hdb : (x == ("__debug__" : Str)) = false := by decide)
    (he : starEach (e :: es) (cx P w K mg base N qual scope f cdv A outer s H E).env = (false, eval e (cx P w K mg base N qual scope f cdv A outer s H E).env) :: starEach es (cx P w K mg base N qual scope f cdv A outer s H E).env := by rfl)
    (hpl : (backTo pos (starEach es (cx P w K mg base N qual scope f cdv A outer s H E).env)).any (·.1) = false := by rfl) : EE (cx P w K mg base N qual scope f cdv A outer s H E) q (WE mg E) (.Call (.Name x p) (e :: es) [] pos) (eCall g rs) := by
  obtain ⟨a, fd, ps, hm, hk, hb, F⟩ := F.ex
  refine ⟨PE.imp (pe_call F hr hg hm hk hb .nil passX ha.p hdb he hpl) fun σ H1 Q hh => ?_⟩
  obtain ⟨ρ, μ, α, C, PP⟩ := hh
  exact ⟨ρ, μ, α, C, PP.bind.imp fun ds μ1 α1 H2 w1 s1 P1 vs rv => ⟨ds, μ1, α1, by rw [List.append_nil]; exact rv, s1, P1⟩⟩
theorem FOkX.of {q : Q0} {k : Nat} {x : Str} {g : Fn} {X : Cx} (h : ∃ (a : Addr) (fd : FuncData) (ps : List Str), X.mg x = some (.ref a) ∧ PySem.W.keepIn X.K (.ref a) = true ∧ Binds X.K fd ps [] ∧ FnOk X.prog X.w X.K X.mg X.base (CXE X.prog X.w) k a fd ps (spX (gx X q) g)) : FOkX X q k x g := ⟨h⟩
end
section
variable {P : Program} {w : World} {K : PySem.W.Frag} {mg : Str → Option Value} {base : Heap}
theorem fn_okX {x qual : Str} {st : Stmt} {f : Addr} {fd : FuncData} {cdv : Value} {N ps : List Str} {k : Nat} {g : Gx} {q : Q0} {body : SF} (F : FunG K x qual st f fd cdv) (S : FnScope N ps (defScope st))
    (hg : g = ⟨K, mg, q.a0, q.ns, q.tb⟩)
    (hb : ∀ (A : Around) (outer : List Env) (s : Shared) (H : Hp) (E : XK), Room k (A.deeper (envOfC qual (defScope st) s.heap.objs.size f cdv)) →
      ESs (cx P w K mg base N qual (defScope st) f cdv A outer s H E) q (WE mg E) (defBody st) body) : FnOk P w K mg base (CXE P w) (k + 1) f fd ps (spX g (Ev.run ps.length N.length body)) := by
  obtain ⟨oc, od, kV, doc, pm, an, ct, osl, rfl, lk, hcd⟩ := F.ex
  refine fn_of lk hcd S (fun vs H Q E h => ?_) fun A outer s H vs Q E hr h => ?_
  · obtain ⟨ds, μ, α, r, S', P⟩ := h
    unfold Ev.run at P
    split at P
    · rename_i hl
      rw [← r.len]; exact hl
    · exact P.elim
  · obtain ⟨ds, μ, α, r, S', P⟩ := h
    subst hg
    refine ⟨_, (hb A outer s H E hr).p, ?_⟩
    unfold Ev.run at P
    split at P
    · refine ⟨_, μ, α, ⟨start_rel N r, S'⟩, P.bind.imp fun fl μ1 α1 H1 w1 s1 P1 => ?_⟩
      cases fl with
      | rt d => exact fun v rv => P1.out s1 v rv
      | nx ρ => exact fun σ _ => P1.out s1 _ .non
      | bk ρ => exact P1.elim
      | ct ρ => exact P1.elim
    · exact P.elim
end
end Xc

end
section
set_option Elab.async false
set_option linter.all false
set_option maxRecDepth 100000
set_option maxHeartbeats 1000000
namespace Xc
open PySem PySem.Spec PyProof.Rows L2 Ev
section
variable {X : Cx} {pins : List (Addr × Obj)} {σ : L2.St} {H H' : Hp} {s s' : Shared} {a : Addr} {C : Value} {B h6 : Heap}
theorem landed (I : Inv X pins σ H s) (hex : X.ex = []) (hst : X.stack = X.env :: X.outer) (hfm : X.env.frame = some X.env.locals) (hfn : ∀ x, X.fn x = true) (os : s'.os = s.os) (bare : AllBare s'.gens) (un : Un (frs X.stack) [] H H' s.heap s'.heap) (hok : HOk X.prog X.w H' s'.heap)
    (f3 : ∀ b u, H' b = some u → ∃ o, B.get? b = some o) (f4 : ∀ b o, s.heap.get? b = some o → H b = none → b ∉ frs X.stack → B.get? b = some o) (f5 : ∀ b o, s.heap.get? b = some o → b ∉ frs X.stack → ∃ o', B.get? b = some o')
    (k1 : B.StaysIn s'.heap) (k2 : B.StaysIn h6) (hsm : s'.heap.UpToSlots h6) : Inv X pins σ H' { s' with heap := h6 } := by
  have hL : X.env.locals ∈ frs X.stack := by rw [hst]; exact List.mem_filterMap.mpr ⟨X.env, List.mem_cons_self, hfm⟩
  have cfs : ∀ x c, X.env.cells.lookup x = some c → c ∉ frs X.stack := fun x c e hb => by
    rcases List.mem_cons.mp (I.stkSub c hb) with z | z
    · exact I.cne x c e z
    · obtain ⟨_, o, ho, _⟩ := I.ok.funs.mem z
      exact absurd (Nat.lt_of_lt_of_le (Heap.lt_size ho) (I.ok.cab x c (hfn x) e)) (Nat.lt_irrefl _)
  have cell : ∀ x c v, X.env.cells.lookup x = some c → s.heap.IsCell c v → h6.IsCell c v := fun x c v e hc => by
    obtain ⟨o, ho, hd⟩ := hc
    exact ⟨o, k2 c o (f4 c o ho (I.freeC x c e) (cfs x c e)), hd⟩
  obtain ⟨m, hn, hl⟩ := I.loc
  have hn6 : h6.Ns X.env.locals m := by
    obtain ⟨o, es, ep, ho, hd, r⟩ := id hn
    obtain ⟨sl, e1⟩ := un.any ho I.free (by simp)
    exact hsm.ns ⟨_, es, ep, e1, hd, r⟩
  refine ⟨I.ok, os.trans I.os, bare, ?_, ⟨m, hn6, fun i x v e1 e2 e3 => ?_⟩, fun x c e => ?_, ?_, fun x c e => ?_, fun p hp => ?_, hok_fly hok f3 k1 k2, I.len⟩
  · rw [hex]
    exact un_leave I hex hst hfm un f3 f4 f5 k2 hsm
  · obtain ⟨u, r, q⟩ := hl i x v e1 e2 e3
    refine ⟨u, r, ?_⟩
    rcases q with q | ⟨q, c, hc, z⟩
    · exact .inl q
    · exact .inr ⟨q, c, hc, cell x c _ hc z⟩
  · obtain ⟨v, z⟩ := I.cell x c e
    exact ⟨v, cell x c v e z⟩
  · obtain ⟨o, es, ep, ho, hd, r⟩ := id hn
    exact un.free _ _ ho I.free (by simp)
  · obtain ⟨v, z⟩ := I.cell x c e
    obtain ⟨o, ho, _⟩ := id z
    exact un.free c o ho (I.freeC x c e) (by simp)
  · obtain ⟨p1, p2, p3, p4, p5⟩ := I.pin p hp
    have nf : p.1 ∉ frs X.stack := fun hb => by
      rcases List.mem_cons.mp (I.stkSub _ hb) with z | z
      · exact p3 z
      · exact p4 z
    exact ⟨k2 _ _ (f4 _ _ p1 p2 nf), un.free _ _ p1 p2 (by simp), p3, p4, p5⟩
end
end Xc

end
section
set_option Elab.async false
set_option linter.all false
set_option maxRecDepth 100000
set_option maxHeartbeats 1000000
namespace Xc
open PySem PySem.Spec PyProof.Rows L2 Ev
section
variable {X : Cx} {pins : List (Addr × Obj)} {σ : L2.St} {H : Hp} {s : Shared} {a : Addr} {C : Value}
theorem track (I : Inv X pins σ H s) (hex : X.ex = []) (n0 : X.s_0.heap.get? a = none) (na : H a = none) (ho : ∃ o vs, s.heap.get? a = some o ∧ o.cls = C ∧ o.data = .fields vs) (hp : ∀ p ∈ X.pn ++ pins, p.1 ≠ a) :
    Inv X pins σ (upd H a (.ext (isExc a C))) s := by
  obtain ⟨o, vs, e, hc, hd⟩ := ho
  have hnl : X.env.locals ≠ a := fun z => by
    obtain ⟨m, ⟨o', es, ep, e', d', _⟩, _⟩ := I.loc
    rw [z, e] at e'; cases e'
    rw [hd] at d'; cases d'
  have hnc : ∀ x c, X.env.cells.lookup x = some c → c ≠ a := fun x c q z => by
    obtain ⟨v, o', e', d'⟩ := I.cell x c q
    rw [z, e] at e'; cases e'
    rw [hd] at d'; cases d'
  have hb := I.base
  refine ⟨I.ok, I.os, I.bare, ⟨fun b o e n h1 h2 => hb.keep b o e n h1 h2, fun b o e n h1 h2 => hb.slot b o e n h1 h2, fun b o e' n h2 => ?_, fun b o e h2 => hb.there b o e h2, fun b xs q => ?_, fun b o u q => ?_, fun b ps q => ?_⟩, I.loc, I.cell, by rw [upd_ne hnl]; exact I.free, fun x c q => by rw [upd_ne (hnc x c q)]; exact I.freeC x c q, fun p q => ?_, fun b u q => ?_, I.len⟩
  · have : b ≠ a := fun z => by rw [z, n0] at e'; cases e'
    rw [upd_ne this]; exact hb.free b o e' n h2
  · have q' := hb.tups b xs q
    rw [upd_ne (fun z => by rw [z, na] at q'; cases q')]; exact q'
  · have q' := hb.frzs b o u q
    rw [upd_ne (fun z => by rw [z, na] at q'; cases q')]; exact q'
  · obtain ⟨m, q'⟩ := hb.tbls b ps q
    exact ⟨m, by rw [upd_ne (fun z => by rw [z, na] at q'; cases q')]; exact q'⟩
  · obtain ⟨p1, p2, p3⟩ := I.pin p q
    exact ⟨p1, by rw [upd_ne (hp p q)]; exact p2, p3⟩
  · by_cases z : b = a
    · subst z
      rw [upd_same] at q; cases q
      exact ⟨⟨o, e, hc⟩, ⟨o, e⟩, fun h1 h2 ⟨o1, e1, c1⟩ k => ⟨o1, k o1 e1, c1⟩⟩
    · rw [upd_ne z] at q
      refine (I.hok b u q).stay (fun _ _ _ r => r) (fun c r => ?_) fun c xs r => ?_
      · rw [upd_ne (fun z => by rw [z, na] at r; cases r)]; exact r
      · rw [upd_ne (fun z => by rw [z, na] at r; cases r)]; exact r
abbrev mk (X : Cx) (e : Value) : Cx := { X with A := X.A.mark (some e), calm := false }
theorem marked {e : Value} (I : Inv X pins σ H s) : Inv (mk X e) pins σ H s :=
  ⟨⟨I.ok.mod, I.ok.kind, I.ok.glob, I.ok.blt, I.ok.above, I.ok.inj, I.ok.has, I.ok.cab, fun z => (by cases z), I.ok.frames, I.ok.stk, I.ok.exf, I.ok.bs, I.ok.bsz, I.ok.noex, I.ok.exfs, I.ok.funs, I.ok.frf⟩,
    I.os, I.bare, I.base, I.loc, I.cell, I.free, I.freeC, I.pin, I.hok, I.len⟩
theorem unmarked {e : Value} {s1 : Shared} {σ1 : L2.St} {H1 : Hp} (ok : X.Ok) (I : Inv (mk X e) pins σ1 H1 s1) : Inv X pins σ1 H1 s1 :=
  ⟨ok, I.os, I.bare, I.base, I.loc, I.cell, I.free, I.freeC, I.pin, I.hok, I.len⟩
theorem unstored {i : Nat} {n : Str} {m : Str → Option Value} {u : Option Value} {h' : Heap} (I : Inv X pins σ H s) (hex : X.ex = []) (hN : X.N.Nodup) (hi : X.N[i]? = some n)
    (hm : s.heap.Ns X.env.locals m ∧ ∀ (i : Nat) (x : Str) (v : V), X.N[i]? = some x → σ[i]? = some (some v) → Vis X.env.scope x → ∃ u, RelV v u ∧ Look X.env s.heap m x u)
    (hns : h'.Ns X.env.locals (fun x => if x = n then u else m x)) (sb : Heap.SameBut X.env.locals s.heap h') : Inv X pins (σ.set i none) H { s with heap := h' } := by
  have hb := I.base
  have ne : ∀ b o, X.s_0.heap.get? b = some o → b ≠ X.env.locals := fun b o e z => by
    have := Heap.lt_size e
    have h2 := I.ok.above
    rw [z] at this
    exact Nat.lt_irrefl _ (Nat.lt_of_lt_of_le this h2)
  refine ⟨I.ok, I.os, I.bare, ⟨fun b o e n h1 h2 => (sb.2 b (ne b o e)).trans (hb.keep b o e n h1 h2), fun b o e n h1 h2 => ?_, hb.free, fun b o e h2 => ?_, hb.tups, hb.frzs, hb.tbls⟩, ⟨_, hns, fun j x v e1 e2 e3 => ?_⟩, fun x c e => ?_, I.free, I.freeC, fun p hp => ?_, fun b ob e => ?_, by rw [List.length_set]; exact I.len⟩
  · obtain ⟨sl, q⟩ := hb.slot b o e n h1 h2
    exact ⟨sl, (sb.2 b (ne b o e)).trans q⟩
  · obtain ⟨o', q⟩ := hb.there b o e h2
    exact ⟨o', (sb.2 b (ne b o e)).trans q⟩
  · by_cases z : i = j
    · subst z
      rw [List.getElem?_set] at e2
      simp only [if_true] at e2
      split at e2 <;> cases e2
    · rw [List.getElem?_set_ne z] at e2
      have hx : x ≠ n := fun q => by
        subst q
        exact z (nd_ix hN hi e1)
      obtain ⟨w', r, q⟩ := hm.2 j x v e1 e2 e3
      refine ⟨w', r, ?_⟩
      rcases q with ⟨q1, q2⟩ | ⟨q1, c, hc, q2⟩
      · exact .inl ⟨q1, by show (if x = n then u else m x) = _; rw [if_neg hx]; exact q2⟩
      · exact .inr ⟨q1, c, hc, q2.sameBut sb (I.cne x c hc)⟩
  · obtain ⟨v, z⟩ := I.cell x c e
    exact ⟨v, z.sameBut sb (I.cne x c e)⟩
  · obtain ⟨p1, p2, p3, p4⟩ := I.pin p hp
    exact ⟨(sb.2 _ p3).trans p1, p2, p3, p4⟩
  · refine (I.hok b ob e).stay (fun c w' hc q => (sb.2 c ?_).trans q) (fun _ q => q) fun _ _ q => q
    intro z
    have hf := I.free
    rcases hc with rfl | hc
    · rw [z, hf] at e; cases e
    · rw [z, hf] at hc; cases hc
end
end Xc

end
section
set_option Elab.async false
set_option linter.all false
set_option maxRecDepth 100000
set_option maxHeartbeats 1000000
namespace Xc
open PySem PySem.Spec PyProof.Rows L2 Ev
section
variable {X : Cx}
end
end Xc

end
section
set_option Elab.async false
set_option linter.all false
set_option maxRecDepth 100000
set_option maxHeartbeats 1000000
namespace Xc
open PySem PySem.Spec PyProof.Rows L2 Ev
section
variable {X : Cx}
end
def sTryE (g : Fn) (rs : AF) (hit : Str → Bool) (i : Nat) (su : SF) : SF := fun ρ μ => (rs ρ μ).nox.bind fun ds μ1 => match g ds μ1 with
  | .ok _ μ2 => .ok (.nx ρ) μ2
  | .ex (.mk y _) μ2 => if hit y = true then (su (ρ.set i (some (.ob μ2.length))) (μ2 ++ [.exc y])).nox.bind fun f μ3 => match f with
    | .nx ρ3 => .ok (.nx (ρ3.set i none)) μ3
    | _ => .bad
    else .bad
  | .bad => .bad
theorem StR.unset {g : Gx} {α : List Addr} {H : Hp} {ρ : Ro} {σ : L2.St} (h : StR g α H ρ σ) (i : Nat) : StR g α H (ρ.set i none) (σ.set i none) := by
  refine ⟨by rw [List.length_set, List.length_set]; exact h.1, fun j d e => ?_⟩
  by_cases z : i = j
  · subst z
    rw [List.getElem?_set] at e
    simp only [if_true] at e
    split at e <;> cases e
  · rw [List.getElem?_set_ne z] at e ⊢
    exact h.2 j d e
section
variable {X : Cx} {q : Q0} {W : XW}
end
end Xc

end
section
set_option Elab.async false
set_option linter.all false
set_option maxRecDepth 100000
set_option maxHeartbeats 2000000
namespace Zp
open PySem PySem.Spec PyProof.Rows L2
open Sem (wp)
open AutoSeq1 (wpAny_loadPart')
def Sq (t : Bool) (h : Heap) (l : Addr) (xs : Array Value) : Prop := match t with
  | true => h.IsTuple l xs
  | false => h.IsList l xs
def itN (t : Bool) : String := match t with
  | true => "tuple_iterator"
  | false => "list_iterator"
def ItA (t : Bool) (h : Heap) (it l : Addr) (i : Nat) : Prop := match t with
  | true => h.IsTupleIter it l i
  | false => h.IsListIter it l i
theorem ItA.ex {t : Bool} {h : Heap} {it l : Addr} {i : Nat} (q : ItA t h it l i) : ∃ o, h.get? it = some o ∧ o.cls = .type (itN t) ∧ o.data = .fields #[.ref l, .int i 0] := by
  cases t <;> exact q
theorem ItA.of {t : Bool} {h : Heap} {it l : Addr} {i : Nat} (q : ∃ o, h.get? it = some o ∧ o.cls = .type (itN t) ∧ o.data = .fields #[.ref l, .int i 0]) : ItA t h it l i := by
  cases t <;> exact q
theorem ItA.at {t : Bool} {h h' : Heap} {it l : Addr} {i : Nat} (q : ItA t h it l i) (k : ∀ o, h.get? it = some o → h'.get? it = some o) : ItA t h' it l i := by
  obtain ⟨o, e, c, d⟩ := q.ex
  exact .of ⟨o, k o e, c, d⟩
theorem Sq.ex {t : Bool} {h : Heap} {l : Addr} {xs : Array Value} (q : Sq t h l xs) : ∃ o, h.get? l = some o := by
  cases t
  · obtain ⟨o, e, _⟩ := q; exact ⟨o, e⟩
  · obtain ⟨o, e, _⟩ := q; exact ⟨o, e⟩
theorem Sq.at {t : Bool} {h h' : Heap} {l : Addr} {xs : Array Value} (q : Sq t h l xs) (k : ∀ o, h.get? l = some o → h'.get? l = some o) : Sq t h' l xs := by
  cases t
  · obtain ⟨o, e, r⟩ := q; exact ⟨o, k o e, r⟩
  · obtain ⟨o, e, r⟩ := q; exact ⟨o, k o e, r⟩
section
variable {prog : Program} {w : World} {A : Around} {E : Value → Shared → Prop} {s : Shared}
theorem next_item {t : Bool} {it l : Addr} {i : Nat} {items : Array Value} {x : Value} {Q : Value → Shared → Prop} (hit : ItA t s.heap it l i) (hl : Sq t s.heap l items) (hx : items[i]? = some x)
    (hQ : ∀ h', ItA t h' it l (i + 1) → Heap.SameBut it s.heap h' → Q x { s with heap := h' }) : wpAny (model prog w) A (Builtin.SmallTypes.nextOf (.ref it)) Q E s := by
  cases t with
  | true => exact Ex.nextOf_tuple_item hit hl hx hQ
  | false => exact wpAny_nextOf_list_item hit hl hx hQ
theorem next_end {t : Bool} {it l : Addr} {i : Nat} {items : Array Value} {Q : Value → Shared → Prop} (hh : A.handled = none) (hit : ItA t s.heap it l i) (hl : Sq t s.heap l items) (hx : items[i]? = none)
    (hE : ∀ h' e, Heap.ExtBut it s.heap h' → (∃ o, h'.get? e = some o ∧ o.cls = .type "StopIteration") → E (.ref e) { s with heap := h' }) : wpAny (model prog w) A (Builtin.SmallTypes.nextOf (.ref it)) Q E s := by
  cases t with
  | true => exact Ex.nextOf_tuple_end hh hit hl hx hE
  | false => exact wpAny_nextOf_list_end hh hit hl hx hE
theorem iter_new {t : Bool} {l : Addr} {items : Array Value} {Q : Value → Shared → Prop} (hl : Sq t s.heap l items)
    (hQ : Q (.ref s.heap.objs.size) { s with heap := s.heap.push { cls := .type (itN t), data := .fields #[.ref l, .int 0 0] } }) : wpAny (model prog w) A (pyIter (.ref l)) Q E s := by
  cases t with
  | true => exact wpAny_pyIter_tuple hl hQ
  | false => exact wpAny_pyIter_list hl hQ
end
end Zp

end
section
set_option Elab.async false
set_option linter.all false
set_option maxRecDepth 100000
set_option maxHeartbeats 2000000
namespace Zp
open PySem PySem.Spec PyProof.Rows L2
open Sem (wp)
open AutoSeq1 (wpAny_loadPart')
abbrev P1 (t : Bool) (h : Heap) (l : Addr) : Heap := h.push { cls := .type (itN t), data := .fields #[.ref l, .int 0 0] }
abbrev P5 (t1 t2 : Bool) (h : Heap) (l1 l2 : Addr) : Heap :=
  ((((h.push { cls := .type (itN t1), data := .fields #[.ref l1, .int 0 0] }).push { cls := .type (itN t2), data := .fields #[.ref l2, .int 0 0] }).push { cls := .type "tuple", data := .seq #[.ref h.objs.size, .ref (h.objs.size + 1)] }).push { cls := .type "tuple", data := .seq #[.none, .none] }).push
    { cls := .type "zip", data := .fields #[.none, .bool false, .bool false, .ref (h.objs.size + 2), .ref (h.objs.size + 3)] }
theorem meets_zip (t1 t2 : Bool) (l1 l2 : Addr) (xs ys : Array Value) :
    Meets (Builtin.«zip.__new__» ⟨[.type "zip", .ref l1, .ref l2], []⟩) (fun _ R s => Sq t1 s.heap l1 xs ∧ Sq t2 s.heap l2 ys ∧ R (.ok (.ret (.ref (s.heap.objs.size + 4)))) { s with heap := P5 t1 t2 s.heap l1 l2 }) :=
  .of_wp fun prog w A R s h => by
    obtain ⟨hp, g, d, tk, os⟩ := s; obtain ⟨h1, h2, h⟩ := h
    have hsub := sub_zip
    have q2 : Sq t2 (Shared.heap ⟨P1 t1 hp l1, g, d, tk, os⟩) l2 ys := Sq.at (h := hp) h2 fun o e => Heap.get?_push_of_some _ e
    have z1 : (P1 t1 hp l1).objs.size = hp.objs.size + 1 := Heap.size_push ..
    unfold Builtin.«zip.__new__» Builtin.SmallTypes.newClass
    have h1' : Sq t1 (Shared.heap ⟨hp, g, d, tk, os⟩) l1 xs := h1
    wp_walk using iter_new h1', iter_new q2
    refine ⟨_, rfl, ?_⟩
    simpa [P5, Heap.size_push, Builtin.SmallTypes.ownedTupleFields] using h
section
variable {prog : Program} {w : World} {A : Around} {E : Value → Shared → Prop} {s : Shared}
theorem zip_item {t1 t2 : Bool} {z TI TO i1 i2 l1 l2 : Addr} {k1 k2 : Nat} {xs ys : Array Value} {x y a b : Value} {Q : Value → Shared → Prop} (D : ZipApart z TI TO i1 i2 l1 l2)
    (hz : IsZip s.heap z TI TO .none) (hTI : IsPair s.heap TI (.ref i1) (.ref i2)) (hTO : IsPair s.heap TO a b) (h1 : ItA t1 s.heap i1 l1 k1) (h2 : ItA t2 s.heap i2 l2 k2) (hl1 : Sq t1 s.heap l1 xs) (hl2 : Sq t2 s.heap l2 ys) (hx : xs[k1]? = some x) (hy : ys[k2]? = some y)
    (hQ : ∀ h', IsZip h' z TI TO (rawInt s.heap.objs.size) → IsPair h' TO x y → ItA t1 h' i1 l1 (k1 + 1) → ItA t2 h' i2 l2 (k2 + 1) → IsPair h' s.heap.objs.size x y → h'.objs.size = s.heap.objs.size + 1 →
      (∀ c o, c ≠ z → c ≠ TO → c ≠ i1 → c ≠ i2 → s.heap.get? c = some o → h'.get? c = some o) → Q (.ref s.heap.objs.size) { s with heap := h' }) :
    wpAny (model prog w) A (Builtin.«zip.__next__» ⟨[.ref z], []⟩) (fun fin s' => ∃ v, fin = .done (.ret v) ∧ Q v s') E s := by
  obtain ⟨hp, g, d, tk, os⟩ := s
  show wpAny _ _ (field (.ref z) 2 >>= _) _ _ _
  refine wpAny_bind (wpAny_field hz rfl (x := .bool false) rfl ?_)
  show wpAny _ _ (field (.ref z) 3 >>= _) _ _ _
  refine wpAny_bind (wpAny_field hz rfl (x := .ref TI) rfl ?_)
  refine wpAny_bind (wpAny_seqItems hTI rfl ?_)
  show wpAny _ _ (Builtin.SmallTypes.ownedTupleIsFree (.ref z) >>= _) _ _ _
  refine wpAny_bind ?_
  unfold Builtin.SmallTypes.ownedTupleIsFree
  refine wpAny_bind (wpAny_field hz rfl (x := .none) rfl (wpAny_pure ?_))
  simp only [if_true]
  refine wpAny_bind (wpAny_rule ?_)
  refine wpAny_bind (wpAny_field hz rfl (x := .ref TO) rfl ?_)
  refine wpAny_bind (wpAny_setField_rec hz (by simp) fun h₁ he₁ hs₁ => ?_)
  replace hs₁ : Heap.SameBut z hp h₁ := hs₁
  have he₁ : IsZip h₁ z TI TO .ellipsis := he₁
  have k₁ : ∀ c o, c ≠ z → hp.get? c = some o → h₁.get? c = some o := fun c o hc e => hs₁.extBut c o hc e
  have h1₁ : ItA t1 h₁ i1 l1 k1 := ItA.at (h := hp) h1 fun o e => k₁ _ o D.i1z e
  have h2₁ : ItA t2 h₁ i2 l2 k2 := ItA.at (h := hp) h2 fun o e => k₁ _ o D.i2z e
  have hl1₁ : Sq t1 h₁ l1 xs := Sq.at (h := hp) hl1 fun o e => k₁ _ o D.l1z e
  have hl2₁ : Sq t2 h₁ l2 ys := Sq.at (h := hp) hl2 fun o e => k₁ _ o D.l2z e
  have hTO₁ : IsPair h₁ TO a b := k₁ _ _ D.TOz hTO
  refine wpAny_bind ?_
  show wpAny _ _ (forIn [(Value.ref i1, 0), (Value.ref i2, 1)] (none, ()) _) _ _ ⟨h₁, g, d, tk, os⟩
  rw [List.forIn_cons]
  refine wpAny_bind (wpAny_bind (wpAny_onRaise ?_))
  show wpAny _ _ (Builtin.SmallTypes.nextOf (.ref i1) >>= fun v => pure (some v)) _ _ _
  refine wpAny_bind (next_item h1₁ hl1₁ hx fun h₂ hi₂ hs₂ => wpAny_pure ?_)
  replace hs₂ : Heap.SameBut i1 h₁ h₂ := hs₂
  have hTO₂ : IsPair h₂ TO a b := hs₂.extBut _ _ D.TOi1 hTO₁
  show wpAny _ _ (seqItems? (.ref TO) >>= _) _ _ ⟨h₂, g, d, tk, os⟩
  refine wpAny_bind (wpAny_seqItems hTO₂ rfl ?_)
  show wpAny _ _ (updateSeq TO _ >>= _) _ _ ⟨h₂, g, d, tk, os⟩
  refine wpAny_bind (wpAny_updateSeq_pair (s := ⟨h₂, g, d, tk, os⟩) hTO₂ fun h₃ hTO₃ hs₃ => ?_)
  replace hs₃ : Heap.SameBut TO h₂ h₃ := hs₃
  replace hTO₃ : IsPair h₃ TO x b := hTO₃
  refine wpAny_bind (wpAny_letGo (wpAny_pure ?_))
  show wpAny _ _ (forIn [(Value.ref i2, 1)] (none, ()) _) _ _ ⟨h₃, g, d, tk, os⟩
  rw [List.forIn_cons]
  have h2₃ : ItA t2 h₃ i2 l2 k2 := h2₁.at fun o e => hs₃.extBut _ o (Ne.symm D.TOi2) (hs₂.extBut _ o (Ne.symm D.i12) e)
  have hl2₃ : Sq t2 h₃ l2 ys := hl2₁.at fun o e => hs₃.extBut _ o D.l2TO (hs₂.extBut _ o D.l2i1 e)
  refine wpAny_bind (wpAny_bind (wpAny_onRaise ?_))
  show wpAny _ _ (Builtin.SmallTypes.nextOf (.ref i2) >>= fun v => pure (some v)) _ _ _
  refine wpAny_bind (next_item h2₃ hl2₃ hy fun h₄ hi₄ hs₄ => wpAny_pure ?_)
  replace hs₄ : Heap.SameBut i2 h₃ h₄ := hs₄
  have hTO₄ : IsPair h₄ TO x b := hs₄.extBut _ _ D.TOi2 hTO₃
  show wpAny _ _ (seqItems? (.ref TO) >>= _) _ _ ⟨h₄, g, d, tk, os⟩
  refine wpAny_bind (wpAny_seqItems hTO₄ rfl ?_)
  show wpAny _ _ (updateSeq TO _ >>= _) _ _ ⟨h₄, g, d, tk, os⟩
  refine wpAny_bind (wpAny_updateSeq_pair (s := ⟨h₄, g, d, tk, os⟩) hTO₄ fun h₅ hTO₅ hs₅ => ?_)
  replace hs₅ : Heap.SameBut TO h₄ h₅ := hs₅
  replace hTO₅ : IsPair h₅ TO x y := hTO₅
  refine wpAny_bind (wpAny_letGo (wpAny_pure ?_))
  show wpAny _ _ (forIn ([] : List (Value × Nat)) (none, ()) _) _ _ ⟨h₅, g, d, tk, os⟩
  rw [List.forIn_nil]
  refine wpAny_pure ?_
  show wpAny _ _ (seqItems? (.ref TO) >>= _) _ _ ⟨h₅, g, d, tk, os⟩
  refine wpAny_bind (wpAny_seqItems hTO₅ rfl ?_)
  show wpAny _ _ (newTuple [x, y] >>= _) _ _ ⟨h₅, g, d, tk, os⟩
  refine wpAny_bind (wpAny_newTuple ?_)
  have k₅ : ∀ c o, c ≠ z → c ≠ TO → c ≠ i1 → c ≠ i2 → hp.get? c = some o → h₅.get? c = some o := fun c o c1 c2 c3 c4 e => hs₅.extBut c o c2 (hs₄.extBut c o c4 (hs₃.extBut c o c2 (hs₂.extBut c o c3 (k₁ c o c1 e))))
  have hz₅ : IsZip h₅ z TI TO .ellipsis := hs₅.extBut _ _ (Ne.symm D.TOz) (hs₄.extBut _ _ (Ne.symm D.i2z) (hs₃.extBut _ _ (Ne.symm D.TOz) (hs₂.extBut _ _ (Ne.symm D.i1z) he₁)))
  have i1₅ : ItA t1 h₅ i1 l1 (k1 + 1) := hi₂.at fun o e => hs₅.extBut _ o (Ne.symm D.TOi1) (hs₄.extBut _ o D.i12 (hs₃.extBut _ o (Ne.symm D.TOi1) e))
  have i2₅ : ItA t2 h₅ i2 l2 (k2 + 1) := hi₄.at fun o e => hs₅.extBut _ o (Ne.symm D.TOi2) e
  have hsz : h₅.objs.size = hp.objs.size := by rw [hs₅.1, hs₄.1, hs₃.1, hs₂.1, hs₁.1]
  have lz : z < hp.objs.size := Heap.lt_size hz
  have hT₆ : (h₅.push { cls := .type "tuple", data := .seq #[x, y] }).get? hp.objs.size = some { cls := .type "tuple", data := .seq #[x, y] } := by rw [← hsz]; exact Heap.get?_push_size _ rfl
  have hz₆ : IsZip (h₅.push { cls := .type "tuple", data := .seq #[x, y] }) z TI TO .ellipsis := Heap.get?_push_of_some _ hz₅
  have z₆ : (h₅.push { cls := .type "tuple", data := .seq #[x, y] }).objs.size = hp.objs.size + 1 := by rw [Heap.size_push, hsz]
  have k₆ : ∀ c o, h₅.get? c = some o → (h₅.push { cls := .type "tuple", data := .seq #[x, y] }).get? c = some o := fun c o e => Heap.get?_push_of_some _ e
  show wpAny _ _ (Builtin.SmallTypes.ownedTupleHandOut (.ref z) (.ref h₅.objs.size) >>= _) _ _ ⟨h₅.push { cls := .type "tuple", data := .seq #[x, y] }, g, d, tk, os⟩
  rw [hsz]
  generalize h₅.push { cls := .type "tuple", data := .seq #[x, y] } = h₆ at hT₆ hz₆ z₆ k₆
  refine wpAny_bind ?_
  unfold Builtin.SmallTypes.ownedTupleHandOut
  refine wpAny_bind (wpAny_setField_rec hz₆ (by simp) fun h₇ he₇ hs₇ => ?_)
  replace hs₇ : Heap.SameBut z h₆ h₇ := hs₇
  replace he₇ : IsZip h₇ z TI TO (rawInt hp.objs.size) := he₇
  refine wpAny_setField_rec he₇ (by simp) fun h₈ he₈ hs₈ => ?_
  replace hs₈ : Heap.SameBut z h₇ h₈ := hs₈
  replace he₈ : IsZip h₈ z TI TO (rawInt hp.objs.size) := he₈
  have k₈ : ∀ c o, c ≠ z → h₅.get? c = some o → h₈.get? c = some o := fun c o hc e => hs₈.extBut c o hc (hs₇.extBut c o hc (k₆ c o e))
  refine wpAny_pure ⟨_, rfl, hQ h₈ he₈ (k₈ _ _ D.TOz hTO₅) (i1₅.at fun o e => k₈ _ o D.i1z e) (i2₅.at fun o e => k₈ _ o D.i2z e) ?_ ?_ fun c o c1 c2 c3 c4 e => k₈ c o c1 (k₅ c o c1 c2 c3 c4 e)⟩
  · exact hs₈.extBut _ _ (Nat.ne_of_gt lz) (hs₇.extBut _ _ (Nat.ne_of_gt lz) hT₆)
  · rw [hs₈.1, hs₇.1, z₆]
end
end Zp

end
section
set_option Elab.async false
set_option linter.all false
set_option maxRecDepth 100000
set_option maxHeartbeats 2000000
namespace Zp
open PySem PySem.Spec PyProof.Rows L2
open Sem (wp)
section
variable {prog : Program} {w : World} {A : Around} {E : Value → Shared → Prop} {s : Shared}
theorem zip_end {t1 t2 : Bool} {z TI TO i1 i2 l1 l2 : Addr} {k1 k2 : Nat} {xs ys : Array Value} {a b : Value} {Q : PySem.Fin → Shared → Prop} (hh : A.handled = none) (D : ZipApart z TI TO i1 i2 l1 l2)
    (hz : IsZip s.heap z TI TO .none) (hTI : IsPair s.heap TI (.ref i1) (.ref i2)) (hTO : IsPair s.heap TO a b) (h1 : ItA t1 s.heap i1 l1 k1) (h2 : ItA t2 s.heap i2 l2 k2) (hl1 : Sq t1 s.heap l1 xs) (hl2 : Sq t2 s.heap l2 ys) (hx : xs[k1]? = none ∨ ys[k2]? = none)
    (hE : ∀ h' e, (∀ c o, c ≠ z → c ≠ TO → c ≠ i1 → c ≠ i2 → s.heap.get? c = some o → h'.get? c = some o) → (∃ o, h'.get? e = some o ∧ o.cls = .type "StopIteration") → E (.ref e) { s with heap := h' }) :
    wpAny (model prog w) A (Builtin.«zip.__next__» ⟨[.ref z], []⟩) Q E s := by
  obtain ⟨hp, g, d, tk, os⟩ := s
  show wpAny _ _ (field (.ref z) 2 >>= _) _ _ _
  refine wpAny_bind (wpAny_field hz rfl (x := .bool false) rfl ?_)
  show wpAny _ _ (field (.ref z) 3 >>= _) _ _ _
  refine wpAny_bind (wpAny_field hz rfl (x := .ref TI) rfl ?_)
  refine wpAny_bind (wpAny_seqItems hTI rfl ?_)
  show wpAny _ _ (Builtin.SmallTypes.ownedTupleIsFree (.ref z) >>= _) _ _ _
  refine wpAny_bind ?_
  unfold Builtin.SmallTypes.ownedTupleIsFree
  refine wpAny_bind (wpAny_field hz rfl (x := .none) rfl (wpAny_pure ?_))
  simp only [if_true]
  refine wpAny_bind (wpAny_rule ?_)
  refine wpAny_bind (wpAny_field hz rfl (x := .ref TO) rfl ?_)
  refine wpAny_bind (wpAny_setField_rec hz (by simp) fun h₁ he₁ hs₁ => ?_)
  replace hs₁ : Heap.SameBut z hp h₁ := hs₁
  have he₁ : IsZip h₁ z TI TO .ellipsis := he₁
  have k₁ : ∀ c o, c ≠ z → hp.get? c = some o → h₁.get? c = some o := fun c o hc e => hs₁.extBut c o hc e
  have h1₁ : ItA t1 h₁ i1 l1 k1 := ItA.at (h := hp) h1 fun o e => k₁ _ o D.i1z e
  have h2₁ : ItA t2 h₁ i2 l2 k2 := ItA.at (h := hp) h2 fun o e => k₁ _ o D.i2z e
  have hl1₁ : Sq t1 h₁ l1 xs := Sq.at (h := hp) hl1 fun o e => k₁ _ o D.l1z e
  have hl2₁ : Sq t2 h₁ l2 ys := Sq.at (h := hp) hl2 fun o e => k₁ _ o D.l2z e
  have hTO₁ : IsPair h₁ TO a b := k₁ _ _ D.TOz hTO
  have out : ∀ h₂ e, IsZip h₂ z TI TO .ellipsis → (∀ c o, c ≠ z → c ≠ TO → c ≠ i1 → c ≠ i2 → hp.get? c = some o → h₂.get? c = some o) → (∃ o, h₂.get? e = some o ∧ o.cls = .type "StopIteration") →
      wpAny (model prog w) A (setField (.ref z) 0 .none) (fun _ s'' => E (.ref e) s'') E ⟨h₂, g, d, tk, os⟩ := fun h₂ e hz₂ k₂ ho => by
    refine wpAny_setField_rec hz₂ (by simp) fun h₃ he₃ hs₃ => ?_
    replace hs₃ : Heap.SameBut z h₂ h₃ := hs₃
    refine hE h₃ e (fun c o c1 c2 c3 c4 q => hs₃.extBut c o c1 (k₂ c o c1 c2 c3 c4 q)) ?_
    obtain ⟨o, ho, hc⟩ := ho
    refine ⟨o, hs₃.extBut _ o (fun q => ?_) ho, hc⟩
    subst q
    rw [show h₂.get? e = _ from hz₂] at ho
    cases ho
    have hc : Value.type "zip" = Value.type "StopIteration" := hc
    exact absurd hc (by decide)
  refine wpAny_bind ?_
  show wpAny _ _ (forIn [(Value.ref i1, 0), (Value.ref i2, 1)] (none, ()) _) _ _ ⟨h₁, g, d, tk, os⟩
  rw [List.forIn_cons]
  refine wpAny_bind (wpAny_bind (wpAny_onRaise ?_))
  show wpAny _ _ (Builtin.SmallTypes.nextOf (.ref i1) >>= fun v => pure (some v)) _ _ _
  cases hx1 : xs[k1]? with
  | none =>
    refine wpAny_bind (next_end hh h1₁ hl1₁ hx1 fun h₂ e hb ho => ?_)
    replace hb : Heap.ExtBut i1 h₁ h₂ := hb
    exact out h₂ e (hb _ _ (Ne.symm D.i1z) he₁) (fun c o c1 c2 c3 c4 q => hb c o c3 (k₁ c o c1 q)) ho
  | some x =>
    have hy : ys[k2]? = none := hx.resolve_left fun q => by rw [hx1] at q; cases q
    refine wpAny_bind (next_item h1₁ hl1₁ hx1 fun h₂ hi₂ hs₂ => wpAny_pure ?_)
    replace hs₂ : Heap.SameBut i1 h₁ h₂ := hs₂
    have hTO₂ : IsPair h₂ TO a b := hs₂.extBut _ _ D.TOi1 hTO₁
    show wpAny _ _ (seqItems? (.ref TO) >>= _) _ _ ⟨h₂, g, d, tk, os⟩
    refine wpAny_bind (wpAny_seqItems hTO₂ rfl ?_)
    show wpAny _ _ (updateSeq TO _ >>= _) _ _ ⟨h₂, g, d, tk, os⟩
    refine wpAny_bind (wpAny_updateSeq_pair (s := ⟨h₂, g, d, tk, os⟩) hTO₂ fun h₃ hTO₃ hs₃ => ?_)
    replace hs₃ : Heap.SameBut TO h₂ h₃ := hs₃
    replace hTO₃ : IsPair h₃ TO x b := hTO₃
    refine wpAny_bind (wpAny_letGo (wpAny_pure ?_))
    show wpAny _ _ (forIn [(Value.ref i2, 1)] (none, ()) _) _ _ ⟨h₃, g, d, tk, os⟩
    rw [List.forIn_cons]
    have h2₃ : ItA t2 h₃ i2 l2 k2 := h2₁.at fun o e => hs₃.extBut _ o (Ne.symm D.TOi2) (hs₂.extBut _ o (Ne.symm D.i12) e)
    have hl2₃ : Sq t2 h₃ l2 ys := hl2₁.at fun o e => hs₃.extBut _ o D.l2TO (hs₂.extBut _ o D.l2i1 e)
    have hz₃ : IsZip h₃ z TI TO .ellipsis := hs₃.extBut _ _ (Ne.symm D.TOz) (hs₂.extBut _ _ (Ne.symm D.i1z) he₁)
    refine wpAny_bind (wpAny_bind (wpAny_onRaise ?_))
    show wpAny _ _ (Builtin.SmallTypes.nextOf (.ref i2) >>= fun v => pure (some v)) _ _ _
    refine wpAny_bind (next_end hh h2₃ hl2₃ hy fun h₄ e hb ho => ?_)
    replace hb : Heap.ExtBut i2 h₃ h₄ := hb
    exact out h₄ e (hb _ _ (Ne.symm D.i2z) hz₃) (fun c o c1 c2 c3 c4 q => hb c o c4 (hs₃.extBut c o c2 (hs₂.extBut c o c3 (k₁ c o c1 q)))) ho
theorem pyNext_item {t1 t2 : Bool} {z TI TO i1 i2 l1 l2 : Addr} {k1 k2 : Nat} {xs ys : Array Value} {x y a b : Value} {Q : Option Value → Shared → Prop} (D : ZipApart z TI TO i1 i2 l1 l2)
    (hz : IsZip s.heap z TI TO .none) (hTI : IsPair s.heap TI (.ref i1) (.ref i2)) (hTO : IsPair s.heap TO a b) (h1 : ItA t1 s.heap i1 l1 k1) (h2 : ItA t2 s.heap i2 l2 k2) (hl1 : Sq t1 s.heap l1 xs) (hl2 : Sq t2 s.heap l2 ys) (hx : xs[k1]? = some x) (hy : ys[k2]? = some y)
    (hQ : ∀ h', IsZip h' z TI TO (rawInt s.heap.objs.size) → IsPair h' TO x y → ItA t1 h' i1 l1 (k1 + 1) → ItA t2 h' i2 l2 (k2 + 1) → IsPair h' s.heap.objs.size x y → h'.objs.size = s.heap.objs.size + 1 →
      (∀ c o, c ≠ z → c ≠ TO → c ≠ i1 → c ≠ i2 → s.heap.get? c = some o → h'.get? c = some o) → Q (some (.ref s.heap.objs.size)) { s with heap := h' }) :
    wpAny (model prog w) A (pyNext (.ref z)) Q E s := by
  have hT : s.TypeIs (.ref z) "zip" := ⟨_, hz, rfl⟩
  unfold pyNext
  exact wpAny_bind (wpAny_attempt (wpAny_callSpecial?_slot (name := Str.ofString "__next__") hT PySem.F.slot_zip_next
    (wpAny_call_entry PySem.F.slot_zip_next hT PySem.F.entry_zip_next
      (zip_item D hz hTI hTO h1 h2 hl1 hl2 hx hy fun h' a b c d e f k => wpAny_pure (hQ h' a b c d e f k)) (PySem.F.args_zip_next_1 _))))
theorem pyNext_end {t1 t2 : Bool} {z TI TO i1 i2 l1 l2 : Addr} {k1 k2 : Nat} {xs ys : Array Value} {a b : Value} {Q : Option Value → Shared → Prop} (hh : A.handled = none) (D : ZipApart z TI TO i1 i2 l1 l2)
    (hz : IsZip s.heap z TI TO .none) (hTI : IsPair s.heap TI (.ref i1) (.ref i2)) (hTO : IsPair s.heap TO a b) (h1 : ItA t1 s.heap i1 l1 k1) (h2 : ItA t2 s.heap i2 l2 k2) (hl1 : Sq t1 s.heap l1 xs) (hl2 : Sq t2 s.heap l2 ys) (hx : xs[k1]? = none ∨ ys[k2]? = none)
    (hQ : ∀ h', (∀ c o, c ≠ z → c ≠ TO → c ≠ i1 → c ≠ i2 → s.heap.get? c = some o → h'.get? c = some o) → Q none { s with heap := h' }) :
    wpAny (model prog w) A (pyNext (.ref z)) Q E s := by
  have hT : s.TypeIs (.ref z) "zip" := ⟨_, hz, rfl⟩
  unfold pyNext
  refine wpAny_bind (wpAny_attempt (wpAny_callSpecial?_slot (name := Str.ofString "__next__") hT PySem.F.slot_zip_next
    (wpAny_call_entry PySem.F.slot_zip_next hT PySem.F.entry_zip_next
      (zip_end (by first | exact hh | (rw [show A.in1.handled = none from hh])) D hz hTI hTO h1 h2 hl1 hl2 hx fun h' e k ho => ?_) (PySem.F.args_zip_next_1 _))))
  obtain ⟨o, ho, hc⟩ := ho
  refine wpAny_bind (wpAny_isInstance (T := "StopIteration") (b := true) ⟨o, ho, hc⟩ isSubtype_stop ?_)
  exact wpAny_pure (hQ _ k)
end
end Zp

end
section
set_option Elab.async false
set_option linter.all false
set_option maxRecDepth 100000
set_option maxHeartbeats 2000000
namespace Zp
open PySem PySem.Spec PyProof.Rows L2
open Sem (wp)
section
variable {prog : Program} {w : World} {A : Around} {E : Value → Shared → Prop} {s : Shared}
theorem init_p2 {T newId : String} {self a b : Value} (hl : typeLookup (.type T) "__init__" = pure (some (.builtin "object.__init__")))
    (hm : Bind.madeBy (.type T) = pure (some newId)) (hne : (some newId != some "object.__new__") = true) :
    Meets (Builtin.«object.__init__» ⟨[self, a, b], []⟩) (fun _ R s => s.TypeIs self T ∧ R (.ok (.ret .none)) s) := by
  refine Meets.of_wp fun prog w A R s hs => ?_
  obtain ⟨hT, hq⟩ := hs
  repeat (any_goals (first | assumption | wp_step))
  exact ⟨_, rfl, hq⟩
theorem call_p2 {T newId : String} {Bn : Builtin} {a b : Value} {S : PySem.Spec} {Q : Value → Shared → Prop} (ft : TypeCalled T newId "object.__init__") (hne : (some newId != some "object.__new__") = true)
    (hct : checkTypeCall T ⟨[a, b], []⟩ = pure ()) (hcn : checkBuiltinCall newId ⟨[.type T, a, b], []⟩ = pure ())
    (hok : ∀ obj, argsOk "object.__init__" ⟨[obj, a, b], []⟩) (entryN : entryFor table newId = some Bn) (g : Meets (Bn ⟨[.type T, a, b], []⟩) S)
    (h : S A.in1 (wants (fun obj s₁ => s₁.TypeIs obj T ∧ Q obj s₁) E) s) : wpAny (model prog w) A (call (.type T) [a, b] []) Q E s := by
  obtain ⟨c, tl, hmro⟩ := ft.mro
  have hmade := ft.made
  have hsub := ft.sub
  refine wpAny_call (codeAny_of_tree ?_)
  show wpAny _ _ (callAny (.type T) _) _ _ _
  refine wpAny_pure ⟨Code.quiet_builtin _ (by decide +kernel), codeAny_builtin F.entry_type_call ?_⟩
  rw [Around.under_plain (weight_type_call_type T [a, b] []) (units_type_call_type T [a, b] [])]
  have h1 := ft.notType
  have h2 := ft.canCreate
  repeat (any_goals (first | assumption | wp_step))
  refine codeAny_mono (codeAny_call_builtin ft.plain entryN (wpAny_of_eq hcn (g prog w A.in1 _ s h))) fun r s₁ hr' => ?_
  cases r with
  | error e => exact hr'
  | ok fl =>
    cases fl with
    | ret obj =>
      obtain ⟨hT, hq⟩ := hr'
      have hli := ft.init.lookup
      have hbi := ft.init.bind obj
      repeat (any_goals (first | assumption | wp_step))
      refine codeAny_mono (codeAny_call_builtin ft.init.plain F.entry_object_init (ft.init.check _ _ _ _ _ _ _ _ hT (hok obj) (init_p2 ft.init.lookup ft.made hne prog w A.in1 (wants (fun r s₂ => r = .none ∧ Q obj s₂) E) s₁ ⟨hT, rfl, hq⟩))) fun r₂ s₂ hr₂ => ?_
      cases r₂ with
      | error e => exact hr₂
      | ok fl₂ =>
        cases fl₂ with
        | ret r =>
          obtain ⟨rfl, hq2⟩ := hr₂
          repeat (any_goals (first | assumption | wp_step))
        | _ => exact hr₂.elim
    | _ => exact hr'.elim
theorem call_zip {t1 t2 : Bool} {l1 l2 : Addr} {xs ys : Array Value} {Q : Value → Shared → Prop} (h1 : Sq t1 s.heap l1 xs) (h2 : Sq t2 s.heap l2 ys)
    (h : ∀ h', IsZip h' (s.heap.objs.size + 4) (s.heap.objs.size + 2) (s.heap.objs.size + 3) .none → IsPair h' (s.heap.objs.size + 2) (.ref s.heap.objs.size) (.ref (s.heap.objs.size + 1)) → IsPair h' (s.heap.objs.size + 3) .none .none →
      ItA t1 h' s.heap.objs.size l1 0 → ItA t2 h' (s.heap.objs.size + 1) l2 0 → (∀ c o, s.heap.get? c = some o → h'.get? c = some o) → Q (.ref (s.heap.objs.size + 4)) { s with heap := h' }) :
    wpAny (model prog w) A (call (.type "zip") [.ref l1, .ref l2] []) Q E s := by
  refine call_p2 F.called_zip (by decide) (F.typeCall_zip_2 _ _) (F.newCall_zip_2 _ _) (fun obj => F.args_object_init_3 obj _ _) F.entry_zip_new (meets_zip t1 t2 l1 l2 xs ys) ⟨h1, h2, ?_⟩
  have e1 : (P5 t1 t2 s.heap l1 l2).get? (s.heap.objs.size + 4) = some { cls := .type "zip", data := .fields #[.none, .bool false, .bool false, .ref (s.heap.objs.size + 2), .ref (s.heap.objs.size + 3)] } := by
    have : s.heap.objs.size + 4 = ((((s.heap.push { cls := .type (itN t1), data := .fields #[.ref l1, .int 0 0] }).push { cls := .type (itN t2), data := .fields #[.ref l2, .int 0 0] }).push { cls := .type "tuple", data := .seq #[.ref s.heap.objs.size, .ref (s.heap.objs.size + 1)] }).push { cls := .type "tuple", data := .seq #[.none, .none] }).objs.size := by simp [Heap.size_push]
    rw [this]; exact Heap.get?_push_size _ rfl
  have e2 : (P5 t1 t2 s.heap l1 l2).get? (s.heap.objs.size + 3) = some { cls := .type "tuple", data := .seq #[.none, .none] } := by
    refine Heap.get?_push_of_some _ ?_
    have : s.heap.objs.size + 3 = (((s.heap.push { cls := .type (itN t1), data := .fields #[.ref l1, .int 0 0] }).push { cls := .type (itN t2), data := .fields #[.ref l2, .int 0 0] }).push { cls := .type "tuple", data := .seq #[.ref s.heap.objs.size, .ref (s.heap.objs.size + 1)] }).objs.size := by simp [Heap.size_push]
    rw [this]; exact Heap.get?_push_size _ rfl
  have e3 : (P5 t1 t2 s.heap l1 l2).get? (s.heap.objs.size + 2) = some { cls := .type "tuple", data := .seq #[.ref s.heap.objs.size, .ref (s.heap.objs.size + 1)] } := by
    refine Heap.get?_push_of_some _ (Heap.get?_push_of_some _ ?_)
    have : s.heap.objs.size + 2 = ((s.heap.push { cls := .type (itN t1), data := .fields #[.ref l1, .int 0 0] }).push { cls := .type (itN t2), data := .fields #[.ref l2, .int 0 0] }).objs.size := by simp [Heap.size_push]
    rw [this]; exact Heap.get?_push_size _ rfl
  have e4 : (P5 t1 t2 s.heap l1 l2).get? (s.heap.objs.size + 1) = some { cls := .type (itN t2), data := .fields #[.ref l2, .int 0 0] } := by
    refine Heap.get?_push_of_some _ (Heap.get?_push_of_some _ (Heap.get?_push_of_some _ ?_))
    have : s.heap.objs.size + 1 = (s.heap.push { cls := .type (itN t1), data := .fields #[.ref l1, .int 0 0] }).objs.size := by simp [Heap.size_push]
    rw [this]; exact Heap.get?_push_size _ rfl
  have e5 : (P5 t1 t2 s.heap l1 l2).get? s.heap.objs.size = some { cls := .type (itN t1), data := .fields #[.ref l1, .int 0 0] } :=
    Heap.get?_push_of_some _ (Heap.get?_push_of_some _ (Heap.get?_push_of_some _ (Heap.get?_push_of_some _ (Heap.get?_push_size _ rfl))))
  refine ⟨⟨_, e1, rfl⟩, h _ e1 e3 e2 (.of ⟨_, e5, rfl, rfl⟩) (.of ⟨_, e4, rfl, rfl⟩) fun c o e => ?_⟩
  exact Heap.get?_push_of_some _ (Heap.get?_push_of_some _ (Heap.get?_push_of_some _ (Heap.get?_push_of_some _ (Heap.get?_push_of_some _ e))))
end
def SqB (t : Bool) (K : PySem.W.Frag) (H : Hp) (a : Addr) (xs : List V) : Prop := match t with
  | true => SqT K H a xs
  | false => SqL K H a xs
theorem SqB.get {t : Bool} {X : Cx} {pins : List (Addr × Obj)} {σ : L2.St} {H : Hp} {s : Shared} (I : Inv X pins σ H s) {a : Addr} {xs : List V} (h : SqB t X.K H a xs) : ∃ its : List Value, Vals xs its ∧ Sq t s.heap a its.toArray ∧ a < s.heap.objs.size := by
  cases t with
  | true =>
    obtain ⟨its, rv, p, hz⟩ := I.tuple h
    obtain ⟨o, e, _⟩ := id p
    exact ⟨its, rv, p, Heap.lt_size e⟩
  | false =>
    obtain ⟨its, rv, p, hz⟩ := I.list h
    exact ⟨its, rv, p.isList, p.lt⟩
theorem SqB.inj {t : Bool} {X : Cx} {pins : List (Addr × Obj)} {σ : L2.St} {H : Hp} {s : Shared} (I : Inv X pins σ H s) {a : Addr} {xs ys : List V} (h : SqB t X.K H a xs) (h' : SqB t X.K H a ys) : xs = ys := by
  cases t with
  | true => exact I.tuple_inj h h'
  | false => exact I.list_inj h h'
def ItZ (t1 t2 : Bool) (K : PySem.W.Frag) (a b : Addr) : It :=
  ⟨fun i H => ∃ (xs ys : List V) (x y : V), SqB t1 K H a xs ∧ SqB t2 K H b ys ∧ xs[i]? = some x ∧ ys[i]? = some y,
    fun i H v H' => ∃ T x y, v = .ref T ∧ H T = none ∧ H' = upd H T (.tup [x, y]) ∧ (∀ xs, SqB t1 K H a xs → xs[i]? = some x) ∧ ∀ ys, SqB t2 K H b ys → ys[i]? = some y,
    fun i H => ∃ xs ys : List V, SqB t1 K H a xs ∧ SqB t2 K H b ys ∧ (xs.length ≤ i ∨ ys.length ≤ i)⟩
theorem turn_zip {P : Program} {w : World} {K : PySem.W.Frag} {elts : List Expr} {kk : Nat} {tpos : Pos} {t1 t2 : Bool} {a b z TI TO i1 i2 : Addr} (D : ZipApart z TI TO i1 i2 a b) :
    Turn P w K (.Tuple elts kk tpos) (ItZ t1 t2 K a b) [z, TI, TO, i1, i2] z (fun i h => IsZip h z TI TO .none ∧ IsPair h TI (.ref i1) (.ref i2) ∧ (∃ x y, IsPair h TO x y) ∧ ItA t1 h i1 a i ∧ ItA t2 h i2 b i) where
  mem := by simp
  obj := fun i h st c hc => by
    obtain ⟨hz, hTI, ⟨x, y, hTO⟩, h1, h2⟩ := st
    obtain ⟨o1, e1, _, d1⟩ := h1.ex
    obtain ⟨o2, e2, _, d2⟩ := h2.ex
    have e' : c = z ∨ c = TI ∨ c = TO ∨ c = i1 ∨ c = i2 := by simpa using hc
    rcases e' with q | q | q | q | q
    · rw [q]; exact ⟨_, hz, fun v q => nomatch q⟩
    · rw [q]; exact ⟨_, hTI, fun v q => nomatch q⟩
    · rw [q]; exact ⟨_, hTO, fun v q => nomatch q⟩
    · rw [q]; exact ⟨o1, e1, fun v q => by rw [d1] at q; cases q⟩
    · rw [q]; exact ⟨o2, e2, fun v q => by rw [d2] at q; cases q⟩
  keep := fun i h h' st k => by
    obtain ⟨hz, hTI, ⟨x, y, hTO⟩, h1, h2⟩ := st
    exact ⟨k z (by simp) _ hz, k TI (by simp) _ hTI, ⟨x, y, k TO (by simp) _ hTO⟩, h1.at fun o q => k i1 (by simp) o q, h2.at fun o q => k i2 (by simp) o q⟩
  item := by
    intro X hP hw hK hc i pins s σ H E I hf st hg
    subst hP hw hK
    obtain ⟨hz, hTI, ⟨x0, y0, hTO⟩, h1, h2⟩ := st
    obtain ⟨xs, ys, x, y, hqx, hqy, hx, hy⟩ := hg
    obtain ⟨its, rv, p, _⟩ := hqx.get I
    obtain ⟨its2, rv2, p2, _⟩ := hqy.get I
    obtain ⟨u, hu, ru⟩ := rv.get hx
    obtain ⟨u2, hu2, ru2⟩ := rv2.get hy
    have hzl : z < s.heap.objs.size := Heap.lt_size hz
    refine pyNext_item D hz hTI hTO h1 h2 p p2 (x := u) (y := u2) (by simpa using hu) (by simpa using hu2) fun h' z' TO' h1' h2' hT hsz hk => ?_
    refine ⟨_, rfl, wpAny_letOwnedTupleGo_zip (s := { s with heap := h' }) z' fun h'' z'' sb => ?_⟩
    have hT2 : h''.get? s.heap.objs.size = some { cls := .type "tuple", data := .seq #[u, u2] } := (sb.2 _ (Nat.ne_of_gt hzl)).trans hT
    have new : ObjOk X.prog X.w (upd H s.heap.objs.size (.tup [x, y])) h'' s.heap.objs.size (.tup [x, y]) :=
      ⟨by show 2 ≤ sizeLine; decide, [u, u2], .cons ru (.cons ru2 .nil), ⟨_, hT2, rfl, _, rfl⟩⟩
    have I1 : Inv X pins σ (upd H s.heap.objs.size (.tup [x, y])) { s with heap := h'' } :=
      I.turnedNew (t' := s.toks) (ch := [z, TI, TO, i1, i2]) (fun c o hb q => (sb.2 c (fun q' => hb (by simp [q']))).trans (hk c o (fun q' => hb (by simp [q'])) (fun q' => hb (by simp [q'])) (fun q' => hb (by simp [q'])) (fun q' => hb (by simp [q'])) q)) hf (Nat.le_refl _) new
    refine ⟨.ref s.heap.objs.size, _, I1, rfl, ⟨_, x, y, rfl, I.hok.fresh (Nat.le_refl _), rfl, fun l hl => (SqB.inj I hl hqx) ▸ hx, fun l hl => (SqB.inj I hl hqy) ▸ hy⟩, ⟨z'', ?_, ⟨u, u2, ?_⟩, ?_, ?_⟩, fun c hcm => ?_⟩
    · exact (sb.2 _ D.TIz).trans (hk _ _ D.TIz D.TITO D.TIi1 D.TIi2 hTI)
    · exact (sb.2 _ D.TOz).trans TO'
    · exact h1'.at fun o q => (sb.2 _ D.i1z).trans q
    · exact h2'.at fun o q => (sb.2 _ D.i2z).trans q
    · have hlt : c < s.heap.objs.size := by
        have e' : c = z ∨ c = TI ∨ c = TO ∨ c = i1 ∨ c = i2 := by simpa using hcm
        rcases e' with q | q | q | q | q
        · rw [q]; exact hzl
        · rw [q]; exact Heap.lt_size hTI
        · rw [q]; exact Heap.lt_size hTO
        · rw [q]; obtain ⟨_, e1, _⟩ := h1.ex; exact Heap.lt_size e1
        · rw [q]; obtain ⟨_, e2, _⟩ := h2.ex; exact Heap.lt_size e2
      rw [upd_ne (Nat.ne_of_lt hlt)]
      exact (hf c hcm).1
  done := by
    intro X hP hw hK hc i pins s σ H E I hf st hg
    subst hP hw hK
    obtain ⟨hz, hTI, ⟨x0, y0, hTO⟩, h1, h2⟩ := st
    obtain ⟨xs, ys, hqx, hqy, hend⟩ := hg
    obtain ⟨its, rv, p, _⟩ := hqx.get I
    obtain ⟨its2, rv2, p2, _⟩ := hqy.get I
    have l1 := rv.length
    have l2 := rv2.length
    have he : its.toArray[i]? = none ∨ its2.toArray[i]? = none := by
      rcases hend with q | q
      · exact .inl (by simp; omega)
      · exact .inr (by simp; omega)
    exact pyNext_end (I.ok.hd hc) D hz hTI hTO h1 h2 p p2 he fun h' hk => ⟨rfl, I.turnedL (t' := s.toks) (ch := [z, TI, TO, i1, i2]) (fun c o hb q =>
      hk c o (fun q' => hb (by simp [q'])) (fun q' => hb (by simp [q'])) (fun q' => hb (by simp [q'])) (fun q' => hb (by simp [q'])) q) hf⟩
  self := fun A i s Q E st h => wpAny_pyIter_zip st.1 h
def iZipB (K : PySem.W.Frag) (ta : TA) : TI := fun σ H R => ta σ H fun vs H1 => ∃ t1 t2 a b xs ys, vs = [.ref a, .ref b] ∧ SqB t1 K H1 a xs ∧ SqB t2 K H1 b ys ∧ R (ItZ t1 t2 K a b) H1
theorem pi_zipB {X : Cx} {e e2 : Expr} {ta : TA} {p pos tpos : Pos} {elts : List Expr} {kk : Nat} (hg : Gl X "zip") (hm : X.mg "zip" = none) (ha : PA X [e, e2] ta)
    (hs : starEach [e, e2] X.env = (false, eval e X.env) :: starEach [e2] X.env := by rfl) (hpl : (backTo pos (starEach [e2] X.env)).any (·.1) = false := by rfl) :
    PI X (.Tuple elts kk tpos) (.Call (.Name "zip" p) [e, e2] [] pos) (iZipB X.K ta) := by
  intro pins s σ H R I h
  refine Call_ (ld_blt I hg hm boot_zip5 (PyProof.Rows.callWith_type1 (thn (ha pos pins s σ H _ I h) fun us s1 ⟨vs, H1, I1, r1, q1⟩ => ?_) hs hpl))
  obtain ⟨t1, t2, a, b, xs, ys, ex, hqx, hqy, q⟩ := q1
  subst ex
  cases r1 with
  | cons r rr =>
    cases rr with
    | cons r' rr =>
      cases rr
      cases r
      cases r'
      obtain ⟨its, rv, p1, la⟩ := hqx.get I1
      obtain ⟨its2, rv2, p2, lb⟩ := hqy.get I1
      refine call_zip p1 p2 fun h' hz hTI hTO h1 h2 hk => wpAny_pyIter_zip hz ?_
      have I2 : Inv X pins σ H1 { s1 with heap := h' } := I1.kept (t' := s1.toks) hk
      refine ⟨s1.heap.objs.size + 4, [s1.heap.objs.size + 4, s1.heap.objs.size + 2, s1.heap.objs.size + 3, s1.heap.objs.size, s1.heap.objs.size + 1], _, _, H1, rfl, I2, turn_zip (PySem.W.ktu_apart s1.heap.objs.size a b la lb), ⟨hz, hTI, ⟨_, _, hTO⟩, h1, h2⟩, fun c hcm => ?_, q⟩
      have e' : c = s1.heap.objs.size + 4 ∨ c = s1.heap.objs.size + 2 ∨ c = s1.heap.objs.size + 3 ∨ c = s1.heap.objs.size ∨ c = s1.heap.objs.size + 1 := by simpa using hcm
      have hle : s1.heap.objs.size ≤ c := by
        rcases e' with z | z | z | z | z
        · rw [z]; exact Nat.le_add_right _ _
        · rw [z]; exact Nat.le_add_right _ _
        · rw [z]; exact Nat.le_add_right _ _
        · rw [z]; exact Nat.le_refl _
        · rw [z]; exact Nat.le_add_right _ _
      exact I1.fpOk hle (I1.hok.fresh hle)
end Zp

end
section
set_option Elab.async false
set_option linter.all false
set_option maxRecDepth 100000
set_option maxHeartbeats 2000000
namespace Rvt
open PySem PySem.Spec PyProof.Rows L2
open Sem (wp)
open AutoSeq1 (wpAny_loadPart')
theorem slot_next : Slot "reversed" (Str.ofString "__next__") "reversed.__next__" :=
  Slot.of (owner := "reversed") (n := "__next__") (by kernel_rfl) (by kernel_rfl) (by kernel_rfl) (by kernel_rfl) (.inl (by kernel_rfl)) F.sub_reversed_self (by kernel_rfl)
theorem slot_hint : Slot "reversed" (Str.ofString "__length_hint__") "reversed.__length_hint__" :=
  Slot.of (owner := "reversed") (n := "__length_hint__") (by kernel_rfl) (by kernel_rfl) (by kernel_rfl) (by kernel_rfl) (.inr (by kernel_rfl)) F.sub_reversed_self (by kernel_rfl)
theorem entry_next : entryFor table "reversed.__next__" = some Builtin.«reversed.__next__» := by kernel_rfl
theorem entry_hint : entryFor table "reversed.__length_hint__" = some Builtin.«reversed.__length_hint__» := by kernel_rfl
theorem args_next (a : Value) : argsOk "reversed.__next__" ⟨[a], []⟩ := by kernel_rfl
theorem args_hint (a : Value) : argsOk "reversed.__length_hint__" ⟨[a], []⟩ := by kernel_rfl
theorem rev_no_len : typeLookup (.type "reversed") (Str.ofString "__len__") = pure none := by kernel_rfl
end Rvt

end
section
set_option Elab.async false
set_option linter.all false
set_option maxRecDepth 100000
set_option maxHeartbeats 2000000
namespace Rvt
open PySem PySem.Spec PyProof.Rows L2
open Sem (wp)
open AutoSeq1 (wpAny_loadPart')
abbrev revO (l : Addr) (i : Int) : Obj := { cls := .type "reversed", data := .fields #[.ref l, rawInt i] }
section
variable {prog : Program} {w : World} {A : Around} {E : Value → Shared → Prop} {s : Shared}
end
end Rvt

end
section
set_option Elab.async false
set_option linter.all false
set_option maxRecDepth 100000
set_option maxHeartbeats 2000000
namespace Rvt
open PySem PySem.Spec PyProof.Rows L2
open Sem (wp)
section
variable {prog : Program} {w : World} {A : Around} {E : Value → Shared → Prop} {s : Shared}
abbrev IsRv (h : Heap) (r l : Addr) (i : Int) : Prop := h.get? r = some (revO l i)
theorem next_item {r l : Addr} {i : Nat} {items : Array Value} {x : Value} {Q : Option Value → Shared → Prop} (hr : IsRv s.heap r l i) (hl : IsTup s.heap l items) (hx : items[i]? = some x) (hz : items.size < 2 ^ 63)
    (hQ : ∀ h', IsRv h' r l ((i : Int) - 1) → Heap.SameBut r s.heap h' → Q (some x) { s with heap := h', toks := s.toks + 1 }) : wpAny (model prog w) A (pyNext (.ref r)) Q E s := by
  have hT : s.TypeIs (.ref r) "reversed" := ⟨_, hr, rfl⟩
  have hi : i < items.size := (Array.getElem?_eq_some_iff.mp hx).1
  unfold pyNext
  refine wpAny_bind (wpAny_attempt (wpAny_callSpecial?_slot (name := Str.ofString "__next__") hT slot_next (wpAny_call_entry slot_next hT entry_next ?_ (args_next _))))
  obtain ⟨hp, g, d, tk, os⟩ := s
  show wpAny _ _ (field (.ref r) 0 >>= _) _ _ _
  refine wpAny_bind (wpAny_field hr rfl (x := .ref l) rfl ?_)
  show wpAny _ _ (field (.ref r) 1 >>= _) _ _ _
  refine wpAny_bind (wpAny_field hr rfl (x := rawInt i) rfl ?_)
  show wpAny _ _ (if ((i : Int) < 0) then _ else _) _ _ _
  rw [if_neg (by omega)]
  have hTl : Shared.TypeIs ⟨hp, g, d, tk, os⟩ (.ref l) "tuple" := by
    obtain ⟨o, e, c, _⟩ := hl; exact ⟨o, e, c⟩
  show wpAny _ _ (specialOf (.ref l) (Str.ofString "__getitem__") >>= _) _ _ _
  refine wpAny_bind (wpAny_specialOf hTl F.slot_tuple_getitem.lookup ?_)
  show wpAny _ _ (mkInt i >>= _) _ _ _
  refine wpAny_bind (wpAny_mkInt ?_)
  refine wpAny_bind (wpAny_attempt (getItem_tuple (items := items) (j := i) (x := x) hl (by omega) (by omega) ?_ hx ?_))
  · first | (simp [seqIndex?]; omega) | simp [seqIndex?, hi]
  show wpAny _ _ (field (.ref r) 1 >>= _) _ _ ⟨hp, g, d, tk + 1, os⟩
  refine wpAny_bind (wpAny_field hr rfl (x := rawInt i) rfl ?_)
  show wpAny _ _ (setField (.ref r) 1 (rawInt ((i : Int) - 1)) >>= _) _ _ ⟨hp, g, d, tk + 1, os⟩
  refine wpAny_bind (wpAny_setField_rec hr (by simp) fun h₁ he₁ hs₁ => wpAny_pure ⟨x, rfl, wpAny_pure (hQ h₁ he₁ hs₁)⟩)
theorem next_end {r l : Addr} {Q : Option Value → Shared → Prop} (hh : A.handled = none) (hr : IsRv s.heap r l (-1))
    (hQ : ∀ h', Heap.ExtBut r s.heap h' → Q none { s with heap := h' }) : wpAny (model prog w) A (pyNext (.ref r)) Q E s := by
  have hT : s.TypeIs (.ref r) "reversed" := ⟨_, hr, rfl⟩
  unfold pyNext
  refine wpAny_bind (wpAny_attempt (wpAny_callSpecial?_slot (name := Str.ofString "__next__") hT slot_next (wpAny_call_entry slot_next hT entry_next ?_ (args_next _))))
  obtain ⟨hp, g, d, tk, os⟩ := s
  show wpAny _ _ (field (.ref r) 0 >>= _) _ _ _
  refine wpAny_bind (wpAny_field hr rfl (x := .ref l) rfl ?_)
  show wpAny _ _ (field (.ref r) 1 >>= _) _ _ _
  refine wpAny_bind (wpAny_field hr rfl (x := rawInt (-1)) rfl ?_)
  show wpAny _ _ (if ((-1 : Int) < 0) then _ else _) _ _ _
  rw [if_pos (by omega)]
  refine wpAny_bind (wpAny_rule ?_)
  show wpAny _ _ ((setField (.ref r) 1 (rawInt (-1)) >>= fun _ => setField (.ref r) 0 .none) >>= _) _ _ _
  refine wpAny_bind (wpAny_bind (wpAny_setField_rec hr (by simp) fun h₁ he₁ hs₁ => ?_))
  refine wpAny_setField_rec he₁ (by simp) fun h₂ he₂ hs₂ => ?_
  replace hs₁ : Heap.SameBut r hp h₁ := hs₁
  replace hs₂ : Heap.SameBut r h₁ h₂ := hs₂
  show wpAny _ _ ((newExc (.type "StopIteration") [] >>= _) >>= _) _ _ _
  refine wpAny_bind (wpAny_bind ?_)
  simp only [newExc, newTuple]
  refine wpAny_bind (wpAny_newObj_type ?_ (by size_fits))
  refine wpAny_bind (m := firstArgMember _ _) (wpAny_of_eq (a := Value.none) (by first | rfl | (simp only [firstArgMember]; rfl)) ?_)
  refine wpAny_newObj_type ?_ (by size_fits)
  simp only [raiseNew]
  refine wpAny_bind (wpAny_handled ?_)
  first | rw [show A.in1.handled = none from hh] | rw [hh]
  refine wpAny_bind (wpAny_pure (wpAny_throw ?_))
  refine wpAny_bind (wpAny_isInstance (T := "StopIteration") (b := true) ⟨_, Heap.get?_push_size _ rfl, rfl⟩ isSubtype_stop ?_)
  refine wpAny_pure (hQ _ ?_)
  exact fun b o hb e => Heap.get?_push_of_some _ (Heap.get?_push_of_some _ (hs₂.extBut b o hb (hs₁.extBut b o hb e)))
end
end Rvt

end
section
set_option Elab.async false
set_option linter.all false
set_option maxRecDepth 100000
set_option maxHeartbeats 2000000
namespace Rvt
open PySem PySem.Spec PyProof.Rows L2
open Sem (wp)
section
variable {prog : Program} {w : World} {A : Around} {E : Value → Shared → Prop} {s : Shared}
end
end Rvt

end
section
set_option Elab.async false
set_option linter.all false
set_option maxRecDepth 100000
set_option maxHeartbeats 2000000
namespace Rvt
open PySem PySem.Spec PyProof.Rows L2
open Sem (wp)
section
variable {prog : Program} {w : World} {A : Around} {E : Value → Shared → Prop} {s : Shared}
theorem rev_hint {r l : Addr} {items : List Value} {Q : Value → Shared → Prop} (hr : IsRv s.heap r l ((items.length : Int) - 1)) (hl : IsTup s.heap l items.toArray) (hz : items.length ≤ sizeLine)
    (h : ∀ t tk, Q (.int items.length t) { s with toks := tk }) : wpAny (model prog w) A (call (.builtin "reversed.__length_hint__") [.ref r] []) Q E s := by
  have hT : s.TypeIs (.ref r) "reversed" := ⟨_, hr, rfl⟩
  have s63 : sizeLine < 2 ^ 63 := by rw [sizeLine_eq]; decide
  refine wpAny_call_entry slot_hint hT entry_hint ?_ (args_hint _)
  obtain ⟨hp, g, d, tk, os⟩ := s
  show wpAny _ _ (field (.ref r) 0 >>= _) _ _ _
  refine wpAny_bind (wpAny_field hr rfl (x := .ref l) rfl ?_)
  show wpAny _ _ (if (Value.ref l == Value.none) = true then _ else _) _ _ _
  rw [if_neg (show ¬ ((Value.ref l == Value.none) = true) from Bool.false_ne_true)]
  refine wpAny_bind (len_tuple hl (by simp; omega) ?_)
  refine wpAny_bind (wpAny_of_eq (a := some ((items.toArray.size : Nat) : Int)) rfl ?_)
  show wpAny _ _ (field (.ref r) 1 >>= _) _ _ _
  refine wpAny_bind (wpAny_field hr rfl (x := rawInt ((items.length : Int) - 1)) rfl ?_)
  show wpAny _ _ (if ((items.toArray.size : Nat) : Int) < (items.length : Int) - 1 + 1 then _ else _) _ _ _
  rw [if_neg (by simp)]
  show wpAny _ _ (retInt ((items.length : Int) - 1 + 1)) _ _ _
  rw [show (items.length : Int) - 1 + 1 = items.length by omega]
  unfold retInt
  refine wpAny_bind (wpAny_mkInt (wpAny_pure ⟨_, rfl, h _ _⟩))
theorem sid : splitId "reversed.__length_hint__" = some ("reversed", "__length_hint__") := by kernel_rfl
theorem hint {r l : Addr} {items : List Value} {Q : Bool → Shared → Prop} (hr : IsRv s.heap r l ((items.length : Int) - 1)) (hl : IsTup s.heap l items.toArray) (hz : items.length ≤ sizeLine)
    (h : ∀ b tk, Q b { s with toks := tk }) : wpAny (model prog w) A (Builtin.List.listLengthHint (.ref r)) Q E s := by
  have hT : s.TypeIs (.ref r) "reversed" := ⟨_, hr, rfl⟩
  have s63 : sizeLine < 2 ^ 63 := by rw [sizeLine_eq]; decide
  unfold Builtin.List.listLengthHint
  refine wpAny_bind (wpAny_specialOf hT rev_no_len ?_)
  show wpAny _ _ (specialOf (Value.ref r) (Str.ofString "__length_hint__") >>= _) _ _ _
  refine wpAny_bind (wpAny_specialOf hT slot_hint.lookup ?_)
  simp only [sid]
  refine wpAny_bind (wpAny_isInstance (T := "reversed") (b := true) hT F.sub_reversed_self ?_)
  simp only [Bool.not_true, Bool.false_eq_true, if_false]
  split
  · rename_i hc
    exact absurd hc (by decide +kernel)
  refine wpAny_bind ?_
  refine wpAny_rule ?_
  refine wpAny_bind (wpAny_of_eq (slot_hint.bind _) ?_)
  refine wpAny_bind (wpAny_attempt (rev_hint hr hl hz fun t tk => ?_))
  show wpAny _ _ (asInt? (Value.int items.length t) >>= _) _ _ _
  have ea : asInt? (Value.int items.length t) = pure (some (items.length : Int)) := rfl
  refine wpAny_bind ?_
  rw [ea]
  generalize hN : (items.length : Int) = N at *
  apply wpAny_pure
  have f1 : (!Builtin.List.listFitsIndex N) = false := by
    unfold Builtin.List.listFitsIndex
    have h1 : decide (-2 ^ 63 ≤ N) = true := decide_eq_true (by omega)
    have h2 : decide (N < 2 ^ 63) = true := decide_eq_true (by omega)
    rw [h1, h2]; rfl
  have f2 : Builtin.List.listTooLong N.toNat = false := by
    unfold Builtin.List.listTooLong; exact decide_eq_false (by omega)
  have f3 : ¬ N < 0 := by omega
  simp only [f1, f2, f3, Bool.false_eq_true, if_false]
  exact wpAny_pure (h _ _)
end
end Rvt

end
section
set_option Elab.async false
set_option linter.all false
set_option maxRecDepth 100000
set_option maxHeartbeats 2000000
namespace Rvt
open PySem PySem.Spec PyProof.Rows L2
end Rvt
namespace Ev
open PySem PySem.Spec PyProof.Rows L2
section
variable {X : Cx} {q : Q0} {W : XW} {e e2 : Expr} {ra rb : EF} {pos : Pos}
def eRevT (r : EF) : EF := fun ρ μ => (r ρ μ).bind fun d μ1 => match d with
  | .tup xs => .ok (.tup xs.reverse) μ1
  | _ => .bad
def sLoopG (nx : NX) (g : GF) (body : SF) : Nat → Nat → SF
  | 0, i, ρ, μ => match nx i μ with
    | some none => .ok (.nx ρ) μ
    | _ => .bad
  | k + 1, i, ρ, μ => match nx i μ with
    | some none => .ok (.nx ρ) μ
    | some (some d) => (g d ρ μ).bind fun ρ1 μ1 => (body ρ1 μ1).bind fun f μ2 => match f with
      | .nx ρ2 => sLoopG nx g body k (i + 1) ρ2 μ2
      | .ct ρ2 => sLoopG nx g body k (i + 1) ρ2 μ2
      | .bk ρ2 => .ok (.nx ρ2) μ2
      | .rt d => .ok (.rt d) μ2
    | none => .bad
def sForG (it : IG) (g : GF) (body : SF) : SF := fun ρ μ => (it ρ μ).bind fun p μ1 => sLoopG p.1 g body p.2 0 ρ μ1
theorem loopG_tr {g1 : GF} {body : SF} {E : Ends} {J : It} {nx : NX} {n : Nat} {α0 : List Addr} {H0 : Hp} (hJ : ItemsG (gx X q) α0 H0 J nx) {ρ : Ro} {μ : Store} {σ : St} (C : Cf (gx X q) ρ μ α0 σ H0)
    (P : Pst (gx X q) W α0 H0 (sLoopG nx g1 body n 0 ρ μ) (kS (gx X q) E)) : ∃ Wv : Nat → Nat → St → Hp → Prop, (∃ m, Wv 0 m σ H0) ∧ ∀ i m σ H, Wv i m σ H →
      (J.stop i H ∧ E.nx σ H) ∨ (J.go i H ∧ ∃ N : St → Hp → Prop, (∀ σ' H', N σ' H' → ∃ m', m' < m ∧ Wv (i + 1) m' σ' H') ∧ ∀ x H', J.yld i H x H' → tgEv (gx X q) W g1 x σ H' fun σ2 H2 => tsEv (gx X q) W body { E with nx := N, ct := N, bk := E.nx } σ2 H2) := by
  let Inv' : Nat → Nat → St → Hp → Prop := fun i m σ H => ∃ ρ μ α, Grow (gx X q) α0 H0 α H ∧ Cf (gx X q) ρ μ α σ H ∧ Pst (gx X q) W α H (sLoopG nx g1 body m i ρ μ) (kS (gx X q) E)
  refine ⟨Inv', ⟨n, ρ, μ, α0, .refl, C, P⟩, ?_⟩
  rintro i m σ H ⟨ρ, μ, α, w, C, P⟩
  cases hn : nx i μ with
  | none => cases m <;> (unfold sLoopG at P; rw [hn] at P; exact P.elim)
  | some o =>
    cases o with
    | none =>
      have P' : Pst (gx X q) W α H (.ok (.nx ρ) μ) (kS (gx X q) E) := by cases m <;> (unfold sLoopG at P; rw [hn] at P; exact P)
      exact .inl ⟨hJ.stop i α H μ w C.sr hn, P'.out C.sr σ C.st⟩
    | some d =>
      cases m with
      | zero => unfold sLoopG at P; rw [hn] at P; exact P.elim
      | succ m =>
        unfold sLoopG at P
        rw [hn] at P
        obtain ⟨hgo, hy⟩ := hJ.go i α H μ d w C.sr hn
        refine .inr ⟨hgo, Inv' (i + 1) m, fun σ' H' p' => ⟨m, Nat.lt_succ_self m, p'⟩, fun x H' y => ?_⟩
        obtain ⟨S', w', rd⟩ := hy x H' y
        refine ⟨d, ρ, μ, α, rd, ⟨C.st.grow w', S'⟩, (Pst.grow P w').bind.imp fun ρ1 μ1 α1 H1 w1 s1 P1 σ1 hs1 => ?_⟩
        refine ⟨ρ1, μ1, α1, ⟨hs1, s1⟩, P1.bind.imp fun f μ2 α2 H2 w2 s2 P2 => ?_⟩
        have wa : Grow (gx X q) α0 H0 α2 H2 := ((w.trans w').trans w1).trans w2
        cases f with
        | nx ρ2 => exact fun σ2 hs2 => ⟨ρ2, μ2, α2, wa, ⟨hs2, s2⟩, P2⟩
        | ct ρ2 => exact fun σ2 hs2 => ⟨ρ2, μ2, α2, wa, ⟨hs2, s2⟩, P2⟩
        | bk ρ2 => exact P2.out s2
        | rt d2 => exact P2.out s2
theorem es_forG {tg it : Expr} {ig : IG} {g1 : GF} {body : List Stmt} {r : SF} (hp : PassesOwn (model X.prog X.w) X.A X.env X.xe) (hc : X.calm = true) (hi : EIG X q W tg it ig) (hg : EG X q W tg g1) (hb : ESs X q W body r) (hs : ∀ x, foldedSetIterable it X.env x = pure x := by intro _; rfl) : ES X q W (.For tg it body [] pos) (sForG ig g1 r) := by
  refine ⟨PS.imp (ps_for hp hc hi.p hg.p hb.p hs) fun E σ H hh => ?_⟩
  obtain ⟨ρ, μ, α, C, P⟩ := hh
  refine ⟨ρ, μ, α, C, P.bind.imp fun p μ1 α1 H1 w1 s1 P1 J hJ => ?_⟩
  exact loopG_tr hJ ⟨C.st.grow w1, s1⟩ P1
def zipD (xs ys : List D) : List D := List.zipWith (fun x y => D.tup [x, y]) xs ys
def nxZ (ns : List Int) (d e : D) : NX := fun i μ => match seqOf ns μ d, seqOf ns μ e with
  | some xs, some ys => some (zipD xs ys)[i]?
  | _, _ => none
def iZp (ns : List Int) (r u : EF) : IG := fun ρ μ => (r ρ μ).bind fun d μ1 => (u ρ μ1).bind fun k μ2 => match seqOf ns μ2 d, seqOf ns μ2 k with
  | some xs, some ys => .ok (nxZ ns d k, (zipD xs ys).length) μ2
  | _, _ => .bad
def kindB : D → Bool
  | .tup _ => true
  | _ => false
theorem seq_sqB {g : Gx} {α : List Addr} {H : Hp} {μ : Store} {d : D} {v : V} {xs : List D} (S : SR g μ α H) (r : Rv g α H d v) (h : seqOf g.ns μ d = some xs) : ∃ a vs, v = .ref a ∧ Zp.SqB (kindB d) g.K H a vs ∧ Rvs g α H xs vs := by
  cases d with
  | tup ys =>
    cases h
    cases r with
    | @tup a _ vs h1 h2 => exact ⟨a, vs, rfl, h1, h2⟩
  | _ =>
    obtain ⟨a, vs, rfl, h1, h2⟩ := lst_sq S r h
    exact ⟨a, vs, rfl, h1, h2⟩
theorem ei_zip {p tpos : Pos} {elts : List Expr} {kk : Nat} (hg : Gl X "zip") (hm : X.mg "zip" = none) (ha : EE X q W e ra) (hb : EE X q W e2 rb)
    (hs : starEach [e, e2] X.env = (false, eval e X.env) :: starEach [e2] X.env := by rfl) (hs2 : starEach [e2] X.env = [(false, eval e2 X.env)] := by rfl) (hpl : (backTo pos (starEach [e2] X.env)).any (·.1) = false := by rfl) :
    EIG X q W (.Tuple elts kk tpos) (.Call (.Name "zip" p) [e, e2] [] pos) (iZp q.ns ra rb) := by
  refine ⟨PI.imp (Zp.pi_zipB hg hm (pa_cons ha.p (pa_cons hb.p pa_nil hs2) hs) hs hpl) fun σ H Q hh => ?_⟩
  obtain ⟨ρ, μ, α, C, P⟩ := hh
  refine ⟨ρ, μ, α, C, P.bind.imp fun d μ1 α1 H1 w1 s1 P1 v rv => ?_⟩
  refine ⟨ρ, μ1, α1, ⟨C.st.grow w1, s1⟩, P1.bind.imp fun k μ2 α2 H2 w2 s2 P2 z rz => ?_⟩
  split at P2
  · rename_i xs ys h1 h2
    have rv2 := rv.mv w2
    obtain ⟨a, vs, rfl, q1, r1⟩ := seq_sqB s2 rv2 h1
    obtain ⟨b, us, rfl, q2, r2⟩ := seq_sqB s2 rz h2
    refine ⟨kindB d, kindB k, a, b, vs, us, rfl, q1, q2, P2.out s2 _ ⟨fun i α3 H3 μ3 d3 w S e => ?_, fun i α3 H3 μ3 w S e => ?_⟩⟩
    · dsimp only at e
      unfold nxZ at e
      split at e
      · rename_i xs' ys' h3 h4
        obtain ⟨a', vs', ea, q3, r3⟩ := seq_sqB S (rv2.mv w) h3
        cases ea
        obtain ⟨b', us', eb, q4, r4⟩ := seq_sqB S (rz.mv w) h4
        cases eb
        have e := Option.some.inj e
        unfold zipD at e
        rw [List.getElem?_zipWith] at e
        cases hx : xs'[i]? with
        | none => rw [hx] at e; cases e
        | some x =>
          cases hy : ys'[i]? with
          | none => rw [hx, hy] at e; cases e
          | some y =>
            rw [hx, hy] at e
            cases e
            obtain ⟨vx, g1, g2⟩ := r3.get hx
            obtain ⟨vy, g3, g4⟩ := r4.get hy
            refine ⟨⟨vs', us', vx, vy, q3, q4, g1, g3⟩, fun x' H' yl => ?_⟩
            obtain ⟨T, x0, y0, rfl, hT, rfl, f1, f2⟩ := yl
            have z1 := f1 vs' q3
            have z2 := f2 us' q4
            rw [g1] at z1; cases z1
            rw [g3] at z2; cases z2
            have wn : Grow (gx X q) α3 H3 α3 (upd H3 T (.tup [vx, vy])) := grow_new hT
            exact ⟨S.keepN hT, wn, .tup (.inl (.inl upd_same)) (.cons (g2.mv wn) (.cons (g4.mv wn) .nil))⟩
      · cases e
    · dsimp only at e
      unfold nxZ at e
      split at e
      · rename_i xs' ys' h3 h4
        obtain ⟨a', vs', ea, q3, r3⟩ := seq_sqB S (rv2.mv w) h3
        cases ea
        obtain ⟨b', us', eb, q4, r4⟩ := seq_sqB S (rz.mv w) h4
        cases eb
        have e := Option.some.inj e
        unfold zipD at e
        rw [List.getElem?_eq_none_iff, List.length_zipWith] at e
        refine ⟨vs', us', q3, q4, ?_⟩
        rw [← r3.len, ← r4.len]
        omega
      · cases e
  · exact P2.elim
end
end Ev

end
section
set_option Elab.async false
set_option linter.all false
set_option maxRecDepth 100000
set_option maxHeartbeats 1000000
namespace Ev
open PySem PySem.Spec PyProof.Rows L2
section
variable {X : Cx} {q : Q0} {W : XW} {e e2 : Expr} {ra rb : EF} {pos : Pos}
def eDic0 : EF := fun _ μ => .ok (.ob μ.length) (μ ++ [.dic []])
theorem ee_dic0 : EE X q W (.Dict [] [] pos) eDic0 := by
  refine ⟨PE.imp pe_dnewK fun σ H Q hh => ?_⟩
  obtain ⟨ρ, μ, α, C, P⟩ := hh
  intro p hp
  obtain ⟨S', w⟩ := C.sr.new (o := .dic []) (u := .dK []) hp ⟨[], upd_same, .nil⟩
  refine P.out2 w S' _ (.ob ?_)
  rw [← C.sr.len, List.getElem?_append_right (Nat.le_refl _), Nat.sub_self]; rfl
end
end Ev

end
section
set_option Elab.async false
set_option linter.all false
set_option maxRecDepth 100000
set_option maxHeartbeats 2000000
namespace Xi
open PySem PySem.Spec PyProof.Rows L2
open Sem (wp)
theorem ent_ga : entryFor table "BaseException.__getattribute__" = some Builtin.«object.__getattribute__» := by kernel_rfl
theorem pl_ga : plainId "BaseException.__getattribute__" = true := by kernel_rfl
theorem args_ga (a b : Value) : argsOk "BaseException.__getattribute__" ⟨[a, b], []⟩ := by kernel_rfl
theorem bk_ga : builtinKind "BaseException.__getattribute__" = some .slot := by kernel_rfl
theorem sp_ga : splitId "BaseException.__getattribute__" = some ("BaseException", "__getattribute__") := by kernel_rfl
theorem ent_gs : entryFor table "getset_descriptor.__get__" = some Builtin.«getset_descriptor.__get__» := by kernel_rfl
theorem pl_gs : plainId "getset_descriptor.__get__" = true := by kernel_rfl
theorem args_gs (a b c : Value) : argsOk "getset_descriptor.__get__" ⟨[a, b, c], []⟩ := by kernel_rfl
theorem bk_gs : builtinKind "getset_descriptor.__get__" = some .slot := by kernel_rfl
theorem sp_gs : splitId "getset_descriptor.__get__" = some ("getset_descriptor", "__get__") := by kernel_rfl
theorem sub_gs : isSubtype (.type "getset_descriptor") (.type "getset_descriptor") = pure true := by kernel_rfl
theorem own_oc : Builtin.Getset_descriptor.descrOwnerAndName "object.__class__" = ("object", "__class__") := by kernel_rfl
theorem pl_oc : plainId "object.__class__" = true := by kernel_rfl
end Xi

end
section
set_option Elab.async false
set_option linter.all false
set_option maxRecDepth 100000
set_option maxHeartbeats 2000000
namespace Xi
open PySem PySem.Spec PyProof.Rows L2
open Sem (wp)
section
variable {prog : Program} {w : World} {A : Around} {E : Value → Shared → Prop} {s : Shared} {K : PySem.W.Frag}
theorem chk_ga {a C : Addr} {o : Obj} {b : Value} {Q : Unit → Shared → Prop} (KI : K.In s.heap) (ho : s.heap.get? a = some o) (hc : o.cls = .ref C) (hs : PySem.W.subIn K (.ref C) (.type "BaseException") = some true) (hQ : Q () s) :
    wpAny (model prog w) A (checkBuiltinCall "BaseException.__getattribute__" ⟨[.ref a, b], []⟩) Q E s := by
  have LT : PySem.W.Looks (model prog w) s.heap (typeOf (.ref a)) (.ref C) := hc ▸ (PySem.W.Looks.ld ho).andThen .now
  unfold checkBuiltinCall
  simp only [bk_ga, sp_ga]
  unfold isInstance
  refine wpAny_bind (wpAny_bind (LT.here ?_))
  refine (PySem.W.looks_subIn KI hs).here ?_
  simp only [Bool.not_true, Bool.false_eq_true, if_false]
  exact wpAny_of_eq (args_ga _ _) hQ
theorem class_of {a C : Addr} {o : Obj} {Q : Option Value → Shared → Prop} (KI : K.In s.heap) (ho : s.heap.get? a = some o) (hc : o.cls = .ref C) (hs : PySem.W.subIn K (.ref C) (.type "BaseException") = some true)
    (g1 : PySem.W.findIn K (.ref C) (Str.ofString "__getattribute__") = some (some (.builtin "BaseException.__getattribute__"))) (g2 : PySem.W.findIn K (.ref C) (Str.ofString "__getattr__") = some none) (g3 : PySem.W.findIn K (.ref C) (Str.ofString "__class__") = some (some (.builtin "object.__class__")))
    (g4 : PySem.W.specialIn K (.builtin "object.__class__") (Str.ofString "__get__") = some (some (.builtin "getset_descriptor.__get__"))) (g5 : PySem.W.takesIn K (.builtin "object.__class__") = some true)
    (ho2 : PySem.W.subIn K (.ref C) (.type "object") = some true) (hQ : Q (some (.ref C)) { s with toks := s.toks + 1 }) : wpAny (model prog w) A (getAttr? (.ref a) (Str.ofString "__class__")) Q E s := by
  obtain ⟨hp, g, d, tk, os⟩ := s
  have LT : PySem.W.Looks (model prog w) hp (typeOf (.ref a)) (.ref C) := hc ▸ (PySem.W.Looks.ld ho).andThen .now
  have KI : K.In hp := KI
  have L1 : PySem.W.Looks (model prog w) hp _ _ := PySem.W.looks_findIn KI g1
  have L2 : PySem.W.Looks (model prog w) hp _ _ := PySem.W.looks_findIn KI g2
  have L3 : PySem.W.Looks (model prog w) hp _ _ := PySem.W.looks_findIn KI g3
  have L4 : PySem.W.Looks (model prog w) hp _ _ := PySem.W.looks_specialIn KI g4
  have L5 : PySem.W.Looks (model prog w) hp _ _ := PySem.W.looks_takesIn KI g5
  unfold getAttr?
  refine wpAny_bind (wpAny_mkText ?_)
  unfold getAttrBy?
  refine wpAny_bind (wpAny_attempt ?_)
  unfold getAttrBy
  refine wpAny_holding (wpAny_bind (LT.here (wpAny_bind (L1.here ?_))))
  show wpAny _ _ (if (onTheHeap (.ref C) && (Value.builtin "BaseException.__getattribute__" == Value.builtin "object.__getattribute__")) = true then _ else _) _ _ _
  rw [if_neg (show ¬ ((onTheHeap (Value.ref C) && (Value.builtin "BaseException.__getattribute__" == Value.builtin "object.__getattribute__")) = true) from by rw [show (Value.builtin "BaseException.__getattribute__" == Value.builtin "object.__getattribute__") = false from by decide, Bool.and_false]; exact Bool.false_ne_true)]
  unfold getAttrByItsOwn
  refine wpAny_bind ?_
  show wpAny _ _ (typeLookup (.ref C) (Str.ofString "__getattr__")) _ _ _
  refine L2.here ?_
  refine wpAny_bind (wpAny_attempt (wpAny_holding ?_))
  show wpAny _ _ (boundAndCalled (Value.builtin "BaseException.__getattribute__") (.ref a) (.str (Str.ofString "__class__") tk)) _ _ _
  unfold boundAndCalled
  refine wpAny_bind (wpAny_of_eq (F.excAttr_ValueError.ga.bind _) ?_)
  show wpAny _ _ (call (Value.builtin "BaseException.__getattribute__") [.ref a, .str (Str.ofString "__class__") tk]) _ _ _
  refine wpAny_call (codeAny_call_builtin pl_ga ent_ga (chk_ga (s := ⟨hp, g, d, tk + 1, os⟩) KI ho hc hs ?_))
  show wpAny _ _ (typeOf (.ref a) >>= _) _ _ _
  refine wpAny_bind (LT.here ?_)
  unfold Builtin.ObjectAttr.find
  refine wpAny_bind (wpAny_bind (L3.here ?_))
  show wpAny _ _ (specialOf (.builtin "object.__class__") (Str.ofString "__get__") >>= _) _ _ _
  refine wpAny_bind (L4.here ?_)
  show wpAny _ _ ((Builtin.ObjectAttr.takesStores (.builtin "object.__class__") >>= _) >>= _) _ _ _
  refine wpAny_bind (wpAny_bind (L5.here ?_))
  show wpAny _ _ (pure (some (Value.builtin "getset_descriptor.__get__", Value.builtin "object.__class__"))) _ _ _
  refine wpAny_pure ?_
  refine wpAny_bind (wpAny_rule (wpAny_pure ?_))
  show wpAny _ _ (Builtin.ObjectAttr.bindTo (Value.builtin "getset_descriptor.__get__") (Value.builtin "object.__class__") (.ref a) (.ref C)) _ _ _
  unfold Builtin.ObjectAttr.bindTo
  show wpAny _ _ (holding [Value.builtin "object.__class__"] (call (Value.builtin "getset_descriptor.__get__") [Value.builtin "object.__class__", .ref a, .ref C]) >>= _) _ _ _
  refine wpAny_bind (wpAny_holding ?_)
  have LO : PySem.W.Looks (model prog w) hp _ _ := PySem.W.looks_subIn KI ho2
  refine wpAny_call (codeAny_call_builtin pl_gs ent_gs ?_)
  unfold checkBuiltinCall
  simp only [bk_gs, sp_gs]
  unfold isInstance
  refine wpAny_bind (wpAny_bind (wpAny_of_eq F.typeOf_object_class (wpAny_of_eq sub_gs ?_)))
  simp only [Bool.not_true, Bool.false_eq_true, if_false]
  refine wpAny_of_eq (args_gs _ _ _) ?_
  show wpAny _ _ (pure (Value.builtin "object.__class__", some (Value.ref a), some (Value.ref C)) >>= _) _ _ _
  refine wpAny_bind (wpAny_pure ?_)
  show wpAny _ _ (Builtin.Getset_descriptor.descrCheckInstance (Value.builtin "object.__class__") (Value.ref a) >>= _) _ _ _
  unfold Builtin.Getset_descriptor.descrCheckInstance
  refine wpAny_bind (wpAny_bind ?_)
  unfold Builtin.Getset_descriptor.descrNameAndClass
  simp only [own_oc]
  refine wpAny_pure ?_
  unfold isInstance
  refine wpAny_bind (wpAny_bind (LT.here (LO.here ?_)))
  simp only [Bool.not_true, Bool.false_eq_true, if_false]
  refine wpAny_pure ?_
  show wpAny _ _ (again (Code.builtin "object.__class__" ⟨[Value.ref a], []⟩)) _ _ _
  refine wpAny_pure ⟨plainId_quiet pl_oc _, codeAny_builtin F.entry_object_class ?_⟩
  rw [Around.under_plainId pl_oc _]
  show wpAny _ _ (shownTypeOf (Value.ref a) >>= _) _ _ _
  unfold shownTypeOf
  refine wpAny_bind (wpAny_bind (LT.here ?_))
  show wpAny _ _ (if (Value.ref C == Value.type "builtin_function_or_method") = true then _ else _) _ _ _
  rw [if_neg (show ¬ ((Value.ref C == Value.type "builtin_function_or_method") = true) from Bool.false_ne_true)]
  refine wpAny_pure (wpAny_pure (wpAny_pure ?_))
  show wpAny _ _ (pure (Value.ref C)) _ _ _
  exact wpAny_pure (wpAny_pure hQ)
structure ExcIs (K : PySem.W.Frag) (C : Addr) : Prop where
  hs : PySem.W.subIn K (.ref C) (.type "BaseException") = some true
  g1 : PySem.W.findIn K (.ref C) (Str.ofString "__getattribute__") = some (some (.builtin "BaseException.__getattribute__"))
  g2 : PySem.W.findIn K (.ref C) (Str.ofString "__getattr__") = some none
  g3 : PySem.W.findIn K (.ref C) (Str.ofString "__class__") = some (some (.builtin "object.__class__"))
  g4 : PySem.W.specialIn K (.builtin "object.__class__") (Str.ofString "__get__") = some (some (.builtin "getset_descriptor.__get__"))
  g5 : PySem.W.takesIn K (.builtin "object.__class__") = some true
  ho : PySem.W.subIn K (.ref C) (.type "object") = some true
  cl : ∃ cd, PySem.W.clsIn K C = some cd
theorem cls_at {C : Addr} {cd : ClassData} (h : PySem.W.clsIn K C = some cd) : ∃ o, List.lookup C K = some o ∧ o.data = .cls cd := by
  unfold PySem.W.clsIn at h
  split at h
  · rename_i e; cases h; exact ⟨_, e, rfl⟩
  · cases h
theorem kit {a C : Addr} (h : ExcIs K C) : PySem.W.KitX K (.ref a) (.ref C) (fun h => ∃ o, h.get? a = some o ∧ o.cls = .ref C) where
  ty := fun M h KI ⟨o, ho, hc⟩ => hc ▸ (PySem.W.Looks.ld ho).andThen .now
  it := fun M hp KI _ => by
    obtain ⟨cd, hcd⟩ := h.cl
    obtain ⟨o, e, d⟩ := cls_at hcd
    show PySem.W.Looks M hp (loadHead C >>= fun o => pure (match o.data with | .cls c => true | _ => false)) true
    refine (PySem.W.Looks.ld (KI _ _ e)).andThen ?_
    rw [d]
    exact .now
  ne := fun hp tp dd its n sl KI e => by
    obtain ⟨cd, hcd⟩ := h.cl
    obtain ⟨o, e', d⟩ := cls_at hcd
    have e2 := KI _ _ e'
    by_cases z : C = tp
    · subst z
      rw [e2] at e
      cases e
      cases d
    · cases hq : (Value.ref C == Value.ref tp) with
      | false => rfl
      | true => exact absurd (by simpa using hq) z
  ca := fun KI ⟨o, ho, hc⟩ hQ => class_of KI ho hc h.hs h.g1 h.g2 h.g3 h.g4 h.g5 h.ho hQ
end
end Xi

end
section
set_option Elab.async false
set_option linter.all false
set_option maxRecDepth 100000
set_option maxHeartbeats 1000000
namespace Xc
open PySem PySem.Spec PyProof.Rows L2 Ev
section
variable {P : Program} {w : World} {K : PySem.W.Frag} {mg : Str → Option Value} {base : Heap} {N : List Str} {qual : Str} {scope : Scope} {f : Addr} {cdv : Value} {A : Around} {outer : List Env} {s : Shared} {H : Hp} {E : XK} {q : Q0}
abbrev noxF (g : Fn) : Fn := fun ds μ => (g ds μ).nox
theorem up_sp {g : Gx} {h : Fn} {vs : List V} {H : Hp} {Q : VK} {E : XK} (z : spX g (noxF h) vs H Q E) : spE g W0 h vs H Q E := by
  obtain ⟨ds, μ, α, r, S, P⟩ := z
  refine ⟨ds, μ, α, r, S, ?_⟩
  unfold noxF at P
  cases e : h ds μ with
  | ok d m => rw [e] at P; exact P
  | ex x m => rw [e] at P; exact P.elim
  | bad => rw [e] at P; exact P.elim
theorem up_fn {g : Gx} {h : Fn} {k : Nat} {a : Addr} {fd : FuncData} {ps : List Str} (F : FnOk P w K mg base CX0 k a fd ps (spE g W0 h)) : FnOk P w K mg base (CXE P w) k a fd ps (spX g (noxF h)) :=
  ⟨fun vs H Q E z => F.len vs H Q E (up_sp z), fun A outer s H args us vs Q E hr e0 hb rv z => codeAny_mono (F.run A outer s H args us vs Q E hr e0 hb rv (up_sp z)) fun r s' hq => by
    cases r with
    | error e => exact False.elim hq
    | ok fl => cases fl <;> exact hq⟩
def CallOkX (P : Program) (w : World) (K : PySem.W.Frag) (mg : Str → Option Value) (base : Heap) (q : Q0) (k : Nat) (x : Str) (f : Fn) : Prop :=
  ∃ (a : Addr) (fd : FuncData) (ps : List Str), mg x = some (.ref a) ∧ PySem.W.keepIn K (.ref a) = true ∧ Binds K fd ps [] ∧ FnOk P w K mg base (CXE P w) k a fd ps (spX ⟨K, mg, q.a0, q.ns, q.tb⟩ f)
theorem CallOkX.up {k : Nat} {x : Str} {g : Fn} (h : CallOk P w K mg base q k x g) : CallOkX P w K mg base q k x (noxF g) := by
  obtain ⟨a, fd, ps, h1, h2, h3, h4⟩ := h
  exact ⟨a, fd, ps, h1, h2, h3, up_fn h4⟩
end
section
variable {X : Cx} {q : Q0} {W : XW}
def bIsX (tab : Str → D → Option Bool) : List D → Store → R D
  | [.ob i, c], μ => match μ[i]? with
    | some (.exc x) => match tab x c with
      | some b => .ok (.bl b) μ
      | none => .bad
    | _ => .bad
  | _, _ => .bad
theorem b_isX {tab : Str → D → Option Bool} (hT : ∀ x c b, tab x c = some b → ∃ C, X.mg x = some (.ref C) ∧ Xi.ExcIs X.K C ∧ ((∃ y D, c = .gl y ∧ X.mg y = some (.ref D) ∧ PySem.W.kitOne X.K (.ref C) (.ref D) = some b) ∨ ∃ T, c = .ty T ∧ PySem.W.kitOne X.K (.ref C) (.type T) = some b)) :
    B1 X q W (.builtin "isinstance") (bIsX tab) := by
  refine ⟨fun pins s σ H xs us Q I r hh => ?_⟩
  obtain ⟨ds, μ, α, rd, S, P⟩ := hh
  unfold bIsX at P
  split at P
  · rename_i i c
    split at P
    · rename_i x hx
      split at P
      · rename_i b hb
        obtain ⟨C, hC, hE, hor⟩ := hT x c b hb
        cases rd with
        | cons r1 r2 =>
          cases r2 with
          | cons r2 r3 =>
            cases r3
            cases r1 with
            | @ob _ a ha =>
              obtain ⟨a', ha', C', hC', hH⟩ := S.at_ _ _ hx
              rw [ha] at ha'
              cases ha'
              have hcc : X.mg x = some (.ref C') := hC'
              rw [hC] at hcc
              cases hcc
              obtain ⟨o, ho, hcl⟩ := (I.hok a _ hH).1
              cases r with
              | cons z1 z2 =>
                cases z2 with
                | cons z2 z3 =>
                  cases z3
                  cases (show _ = Value.ref a from z1)
                  have fin : ∀ tk, EP X pins σ Q (Value.bool b) { s with toks := tk } := fun tk => ⟨.bl _, H, I.tok _, rfl, P.out S _ (.bl _)⟩
                  rcases hor with ⟨y, D, rfl, hD, hk⟩ | ⟨T, rfl, hk⟩
                  · cases r2 with
                    | gl e =>
                      have e' : X.mg y = some (.ref _) := e
                      rw [hD] at e'
                      cases e'
                      cases (show _ = Value.ref D from z2)
                      exact PySem.W.kia_one (Xi.kit hE) I.kIn ⟨o, ho, hcl⟩ hk (fun z => nomatch z) fin
                  · cases r2
                    cases (show _ = Value.type T from z2)
                    exact PySem.W.kia_one (Xi.kit hE) I.kIn ⟨o, ho, hcl⟩ hk (fun z => nomatch z) fin
      · exact P.elim
    · exact P.elim
  · exact P.elim
end
end Xc
namespace Ev
open PySem PySem.Spec PyProof.Rows L2
section
variable {X : Cx} {q : Q0} {W : XW} {e : Expr} {ra : EF} {pos : Pos}
def sAugM (i : Nat) (r : EF) : SF := fun ρ μ => match ρ[i]? with
  | some (some (.int k)) => (r ρ μ).bind fun d μ1 => match d with
    | .int m => if CMul k m then .ok (.nx (ρ.set i (some (.int (k * m))))) μ1 else .bad
    | _ => .bad
  | _ => .bad
end
end Ev

end
section
set_option Elab.async false
set_option linter.all false
set_option maxRecDepth 100000
set_option maxHeartbeats 1000000
namespace Xc
open PySem PySem.Spec PyProof.Rows L2 Ev
theorem own_in {K : PySem.W.Frag} {mg : Str → Option Value} {base : Heap} {x : Str} {C : Addr} {bmB : List Value} {newId : String} (M : Mod K mg base) (a : PySem.W.nsIn K mainGlobals x = some (some (.ref C))) (h : PySem.W.excIn K C bmB newId = true) : OwnCls x C bmB newId mg base := by
  obtain ⟨mb, b1, b2⟩ := M.blt
  obtain ⟨o, es, ep, e1, e2, e3, e4⟩ := id M.glob
  refine PySem.W.own_of_in (p := default) (loose := es.toList.map fun en => match en.key with | .str s _ => s | _ => "") M.kin ⟨M.glob, b1, M.nolimit, b2, fun y _ hl _ _ _ => ?_⟩ a h
  rw [← e4]
  unfold nsFind findBy
  rw [Option.map_eq_none_iff, Array.find?_eq_none]
  intro en hen hp
  obtain ⟨n, t, hk⟩ := e3 en hen
  apply hl
  refine List.mem_map.mpr ⟨en, by simpa using hen, ?_⟩
  rw [hk] at hp ⊢
  have : n = y := by simpa [Value.isStr] using hp
  exact this
abbrev Row := Str × (Str ⊕ String) × Bool
def rowD : Str ⊕ String → D
  | .inl y => .gl y
  | .inr T => .ty T
def eqC : Str ⊕ String → D → Bool
  | .inl y, .gl z => decide (y = z)
  | .inr T, .ty S => decide (T = S)
  | _, _ => false
theorem eqC_eq {a : Str ⊕ String} {d : D} (h : eqC a d = true) : d = rowD a := by
  cases a with
  | inl y => cases d with
    | gl z => have := of_decide_eq_true h; subst this; rfl
    | _ => cases h
  | inr T => cases d with
    | ty z => have := of_decide_eq_true h; subst this; rfl
    | _ => cases h
def tabOf (rows : List Row) : Str → D → Option Bool := fun x c => (rows.find? fun r => decide (r.1 = x) && eqC r.2.1 c).map (·.2.2)
def RowOk (K : PySem.W.Frag) (mg : Str → Option Value) (r : Row) : Prop := ∃ C, mg r.1 = some (.ref C) ∧ Xi.ExcIs K C ∧ match r.2.1 with
  | .inl y => ∃ D, mg y = some (.ref D) ∧ PySem.W.kitOne K (.ref C) (.ref D) = some r.2.2
  | .inr T => PySem.W.kitOne K (.ref C) (.type T) = some r.2.2
theorem b_isR {X : Cx} {q : Q0} {W : XW} {rows : List Row} (h : ∀ r ∈ rows, RowOk X.K X.mg r) : B1 X q W (.builtin "isinstance") (bIsX (tabOf rows)) := b_isX fun x c b e => by
  unfold tabOf at e
  obtain ⟨r, h1, h2⟩ := Option.map_eq_some_iff.mp e
  have hm := List.mem_of_find?_eq_some h1
  have hp := List.find?_some h1
  obtain ⟨C, g1, g2, g3⟩ := h r hm
  simp only [Bool.and_eq_true] at hp
  have e1 := of_decide_eq_true hp.1
  have e2 := eqC_eq hp.2
  obtain ⟨x', a, b'⟩ := r
  simp only at e1 e2 h2 g1 g3
  subst e1 e2 h2
  refine ⟨C, g1, g2, ?_⟩
  cases a with
  | inl y => obtain ⟨D, d1, d2⟩ := g3; exact .inl ⟨y, D, rfl, d1, d2⟩
  | inr T => exact .inr ⟨T, rfl, g3⟩
end Xc
namespace Xc
open PySem PySem.Spec PyProof.Rows L2 Ev
theorem bt_ValueError : bootBuiltins "ValueError" = some (.type "ValueError") := by decide +kernel
abbrev bmV : List Value := [.type "ValueError", .type "Exception", .type "BaseException", .type "object"]
section
variable {P : Program} {w : World} {K : PySem.W.Frag} {mg : Str → Option Value} {base : Heap} {N : List Str} {qual : Str} {scope : Scope} {f : Addr} {cdv : Value} {A : Around} {outer : List Env} {s : Shared} {H : Hp} {E : XK}
theorem es_raiseK {q : Q0} {x : Str} {C : Addr} {e : Expr} {es : List Expr} {rs : AF} {np cpos pos : Pos} (a : PySem.W.nsIn K mainGlobals x = some (some (.ref C))) (h : PySem.W.excIn K C bmV "ValueError.__new__" = true)
    (hg : Gl (cx P w K mg base N qual scope f cdv A outer s H E) x) (ha : EA (cx P w K mg base N qual scope f cdv A outer s H E) q (WE mg E) (e :: es) rs) (hd : (x == ("__debug__" : Str)) = false := by decide)
    (he : starEach (e :: es) (cx P w K mg base N qual scope f cdv A outer s H E).env = (false, eval e (cx P w K mg base N qual scope f cdv A outer s H E).env) :: starEach es (cx P w K mg base N qual scope f cdv A outer s H E).env := by rfl)
    (hplain : (backTo cpos (starEach es (cx P w K mg base N qual scope f cdv A outer s H E).env)).any (·.1) = false := by rfl) :
    ES (cx P w K mg base N qual scope f cdv A outer s H E) q (WE mg E) (.Raise (some (.Call (.Name x np) (e :: es) [] cpos)) none pos) (sRaise x rs) :=
  ⟨fun pins s1 σ H1 D I hh => (es_raise (own_in I.ok.mod a h) F.excBase_ValueError hg ha hd he hplain).p pins s1 σ H1 D I hh⟩
end
theorem is_mk {K : PySem.W.Frag} {C : Addr} (h1 : PySem.W.subIn K (.ref C) (.type "BaseException") = some true) (h2 : PySem.W.findIn K (.ref C) (Str.ofString "__getattribute__") = some (some (.builtin "BaseException.__getattribute__")))
    (h3 : PySem.W.findIn K (.ref C) (Str.ofString "__getattr__") = some none) (h4 : PySem.W.findIn K (.ref C) (Str.ofString "__class__") = some (some (.builtin "object.__class__")))
    (h5 : PySem.W.specialIn K (.builtin "object.__class__") (Str.ofString "__get__") = some (some (.builtin "getset_descriptor.__get__"))) (h6 : PySem.W.takesIn K (.builtin "object.__class__") = some true)
    (h7 : PySem.W.subIn K (.ref C) (.type "object") = some true) (h8 : (PySem.W.clsIn K C).isSome = true) : Xi.ExcIs K C := ⟨h1, h2, h3, h4, h5, h6, h7, Option.isSome_iff_exists.mp h8⟩
end Xc
namespace Xc
open PySem PySem.Spec PyProof.Rows L2 Ev
section
variable {P : Program} {w : World} {K : PySem.W.Frag} {mg : Str → Option Value} {base : Heap} {q : Q0}
theorem down_sp {g : Gx} {h : Fn} {vs : List V} {H : Hp} {Q : VK} {E E' : XK} (z : spE g W0 h vs H Q E) : spX g h vs H Q E' := by
  obtain ⟨ds, μ, α, r, S, P⟩ := z
  refine ⟨ds, μ, α, r, S, ?_⟩
  cases e : h ds μ with
  | ok d m => rw [e] at P; exact P
  | ex x m => rw [e] at P; exact fun a1 H1 w1 s1 => (P a1 H1 w1 s1).elim
  | bad => rw [e] at P; exact P.elim
theorem CallOkX.down {k : Nat} {x : Str} {g : Fn} (h : CallOkX P w K mg base q k x g) : CallOk P w K mg base q k x g := by
  obtain ⟨a, fd, ps, h1, h2, h3, F⟩ := h
  refine ⟨a, fd, ps, h1, h2, h3, ⟨fun vs H Q E z => F.len vs H Q E (down_sp z), fun A outer s H args us vs Q E hr e0 hb rv z => codeAny_mono (F.run A outer s H args us vs Q (fun _ _ _ => False) hr e0 hb rv (down_sp z)) fun r s' hq => ?_⟩⟩
  cases r with
  | error e => obtain ⟨_, _, _, _, _, z⟩ := hq; exact z.elim
  | ok fl => cases fl <;> exact hq
end
end Xc

end
section
set_option Elab.async false
set_option linter.all false
set_option maxRecDepth 100000
set_option maxHeartbeats 1000000
namespace Xc
open PySem PySem.Spec PyProof.Rows L2 Ev
section
variable {X : Cx}
def HX (X : Cx) (pins : List (Addr × Obj)) (D : Ends) (h : ExceptHandler) : Value → Shared → Prop := fun e s1 =>
  wpAny (model X.prog X.w) X.A (noteFrame e X.env) (fun _ s2 => wpAny (model X.prog X.w) X.A (setFlight e none) (fun _ s3 => wpAny (model X.prog X.w) X.A (handleBy e X.env [h]) (SP X pins D) X.xe s3) X.xe s2) X.xe s1
def TB (X : Cx) (h : ExceptHandler) (sts : List Stmt) (tb : TS) : Prop := ∀ (pins : List (Addr × Obj)) (s : Shared) (σ : L2.St) (H : Hp) (D : Ends), Inv X pins σ H s → tb D σ H → wpAny (model X.prog X.w) X.A (execs sts X.env) (SP X pins D) (HX X pins D h) s
theorem TB.imp {h : ExceptHandler} {sts : List Stmt} {t t' : TS} (b : TB X h sts t) (f : ∀ D σ H, t' D σ H → t D σ H) : TB X h sts t' := fun pins s σ H D I q => b pins s σ H D I (f D σ H q)
theorem ps_tryB {h : ExceptHandler} {sts : List Stmt} {tb : TS} {pos : Pos} (b : TB X h sts tb) : PS X (.Try sts [h] [] [] pos) tb := by
  intro pins s σ H D I q
  refine wpAny_Try_except (wpAny_mono (b pins s σ H D I q) (fun f s1 hf => ?_) fun e s1 he => he)
  cases f with
  | next => exact wpAny_execs_nil hf
  | _ => exact hf
end
section
variable {X : Cx} {q : Q0} {W : XW}
structure ETB (X : Cx) (q : Q0) (W : XW) (h : ExceptHandler) (sts : List Stmt) (r : SF) : Prop where
  p : TB X h sts (tsEv (gx X q) W r)
theorem es_tryB {h : ExceptHandler} {sts : List Stmt} {r : SF} {pos : Pos} (b : ETB X q W h sts r) : ES X q W (.Try sts [h] [] [] pos) r := ⟨ps_tryB b.p⟩
end
end Xc

end
section
set_option Elab.async false
set_option linter.all false
set_option maxRecDepth 100000
set_option maxHeartbeats 1000000
namespace Xc
open PySem PySem.Spec PyProof.Rows L2 Ev
section
variable {X : Cx} {q : Q0} {W : XW}
end
end Xc

end
section
set_option Elab.async false
set_option linter.all false
set_option maxRecDepth 100000
set_option maxHeartbeats 2000000
namespace Ex
open PySem PySem.Spec PyProof.Rows L2
open Sem (wp)
open AutoSeq1 (wpAny_loadPart')
section
variable {prog : Program} {w : World} {A : Around} {E : Value → Shared → Prop} {s : Shared}
end
end Ex
namespace Ev
open PySem PySem.Spec PyProof.Rows L2
section
variable {X : Cx} {q : Q0} {W : XW} {e : Expr} {ra : EF} {pos : Pos}
end
end Ev

end
section
set_option Elab.async false
set_option linter.all false
set_option maxRecDepth 100000
set_option maxHeartbeats 1000000
namespace Ev
open PySem PySem.Spec PyProof.Rows L2
section
variable {X : Cx} {q : Q0} {W : XW} {e : Expr} {ra : EF} {pos : Pos}
def eRevL (ns : List Int) (r : EF) : EF := fun ρ μ => (r ρ μ).bind fun d μ1 => match lstOf ns μ1 d with
  | some xs => .ok (.ob μ1.length) (μ1 ++ [.lst xs.reverse])
  | none => .bad
end
end Ev

end
section
set_option Elab.async false
set_option linter.all false
set_option maxRecDepth 100000
set_option maxHeartbeats 1000000
namespace Xc
open PySem PySem.Spec PyProof.Rows L2 Ev
section
variable {X : Cx}
def tTryR (sp : Sp) (ts : TS) (i : Nat) (K : PySem.W.Frag) (Tc : Addr) (t : TA) : TS := fun D σ H => t σ H fun vs H1 => sp vs H1 (fun _ H2 => D.nx σ H2) (fun C _ H2 => PySem.W.exmOne K C (.ref Tc) = some true ∧
  ∀ a, H2 a = none → ts { nx := fun σ' H' => D.nx (σ'.set i none) H', rt := fun v H' => D.rt v H', bk := fun _ _ => False, ct := fun _ _ => False } (σ.set i (some (.ref a))) (upd H2 a (.ext (isExc a C))))
theorem handleR {pins : List (Addr × Obj)} {σ : L2.St} {H1 H' : Hp} {s1 s' : Shared} {a Tc : Addr} {C : Value} {D : Ends} {T n : Str} {i : Nat} {np hpos : Pos} {b₀ : Stmt} {suite : List Stmt} {rest : List ExceptHandler} {ts : TS}
    (hex : X.ex = []) (hpn : X.pn = []) (hst : X.stack = X.env :: X.outer) (hfm : X.env.frame = some X.env.locals) (hfn : ∀ x, X.fn x = true) (hN : X.N.Nodup) (hi : X.N[i]? = some n) (hl : X.env.scope.names.lookup n = some .local) (hgT : Gl X T) (hmT : X.mg T = some (.ref Tc)) (hdT : (T == ("__debug__" : Str)) = false)
    (hsu : ∀ ev, PSs (mk X ev).nox (b₀ :: suite) ts) (I : Inv X pins σ H1 s1) (F : Fl X.prog X.w X.stack H1 s1 a C H' s') (hx : PySem.W.exmOne X.K C (.ref Tc) = some true)
    (hE : ∀ a, H' a = none → ts { nx := fun σ' H' => D.nx (σ'.set i none) H', rt := fun v H' => D.rt v H', bk := fun _ _ => False, ct := fun _ _ => False } (σ.set i (some (.ref a))) (upd H' a (.ext (isExc a C)))) :
    wpAny (model X.prog X.w) X.A (noteFrame (.ref a) X.env) (fun _ s₂ => wpAny (model X.prog X.w) X.A (setFlight (.ref a) none) (fun _ s₃ => wpAny (model X.prog X.w) X.A (handleBy (.ref a) X.env (.ExceptHandler (some (.Name T np)) (some n) (b₀ :: suite) hpos :: rest)) (SP X pins D) X.xe s₃) X.xe s₂) X.xe s' := by
  obtain ⟨B, t, f1, f2, f3, f4, f5⟩ := F.ex
  have fr := I.ok.frames
  rw [hst] at fr f1
  refine wpAny_looks_onW fr hfm f1 fun h4 held4 sm4 => ?_
  refine wpAny_landsW held4 fun h5 fl5 sm5 => ?_
  have I5 := landed I hex hst hfm hfn F.os F.bare F.un F.hok f3 f4 f5 f1.1 fl5.1 (sm4.trans sm5)
  refine wpAny_handleBy_cons (codeAny_handlers_test (ld_glob (X := mk X (.ref a)) (marked I5) hgT hmT ?_ hdT)) (by intro q; cases q)
  obtain ⟨ob, hob, hobc⟩ := fl5.there
  have LT : PySem.W.Looks (model X.prog X.w) h5 (typeOf (.ref a)) C := hobc ▸ (PySem.W.Looks.ld hob).andThen .now
  refine (PySem.W.exm_one I5.kIn LT hx).here ?_
  refine codeAny_handlers_suite_as ?_
  refine lands_againW fl5 fun h6 fl6 sm6 => ?_
  have I6 := landed I hex hst hfm hfn F.os F.bare F.un F.hok f3 f4 f5 f1.1 fl6.1 ((sm4.trans sm5).trans sm6)
  have na0 : s1.heap.get? a = none := by
    cases q : s1.heap.get? a with
    | none => rfl
    | some o =>
      by_cases hb : a ∈ frs X.stack
      · obtain ⟨o1, e1, d1⟩ := frame_data I.stack hb
        rw [q] at e1; cases e1
        obtain ⟨sl, e2⟩ := F.un.any q (I.stkFree a hb) (by simp)
        obtain ⟨_, _, _, oe, vs, _, _, _, e3, _, e4, _⟩ := id f1
        rw [e2] at e3; cases e3
        exact absurd e4 (d1 vs)
      · obtain ⟨o', e⟩ := f5 a o q hb
        rw [f1.2.1] at e; cases e
  have I7 := track (C := C) I6 hex (by
    cases q : X.s_0.heap.get? a with
    | none => rfl
    | some o =>
      have hb := I.base
      rw [hex] at hb
      obtain ⟨o', e⟩ := hb.there a o q (by simp)
      rw [na0] at e; cases e) F.free (by
    obtain ⟨_, _, _, oe, vs, _, _, _, e1, e2, e3, _⟩ := fl6
    exact ⟨oe, vs, e1, e2.1, e3⟩) (fun p hp => by
    intro z
    have q := (I.pin p hp).1
    rw [z, na0] at q; cases q)
  refine store_ok (X := mk X (.ref a)) (i := i) (v := .ref a) (marked I7) hN hi (.inl hl) rfl (fun s8 I8 => ?_) (.inr hl)
  have run := hsu (.ref a) pins s8 _ _ _ (I8.wish _) (hE a F.free)
  refine wpAny_mono run (fun f s9 hf => ?_) fun _ _ z => z.elim
  cases f with
  | ret v =>
    obtain ⟨x9, σ9, H9, I9, r9, q9⟩ := hf
    have I9 : Inv X pins σ9 H9 s9 := unmarked (e := .ref a) I.ok I9.unwish
    show wpAny _ _ (bindName X.env n .none >>= fun _ => unbindBehindTheSuite X.env n hpos) _ _ s9
    refine wpAny_bind (wpAny_bindName (store_ok (i := i) (v := .non) I9 hN hi (.inl hl) rfl (fun s10 I10 => ?_) (.inr hl)))
    obtain ⟨m, hm1, hm2⟩ := id I10.loc
    have hlen : i < σ9.length := by rw [I9.len]; exact (List.getElem?_eq_some_iff.mp hi).1
    obtain ⟨u, ru, lk⟩ := hm2 i n .non hi (List.getElem?_set_self hlen) (.inl hl)
    have hv : m n = some u := by
      rcases lk with ⟨_, q⟩ | ⟨q, _⟩
      · exact q
      · have hl' : X.env.kindOf n = some .local := hl
        rcases q with q | q <;> (rw [hl'] at q; cases q)
    unfold unbindBehindTheSuite
    refine wpAny_onRaise (wpAny_unbindName_local hl hm1 hv (by rw [I10.ok.kind]; rfl) fun h' u' hns sb => ?_)
    exact ⟨x9, (σ9.set i (some .non)).set i none, H9, unstored I10 hex hN hi ⟨hm1, hm2⟩ hns sb, r9, q9⟩
  | brk => exact absurd hf (by rintro ⟨_, _, _, z⟩; exact z)
  | cont => exact absurd hf (by rintro ⟨_, _, _, z⟩; exact z)
  | next =>
    obtain ⟨σ9, H9, I9, q9⟩ := hf
    have I9 : Inv X pins σ9 H9 s9 := unmarked (e := .ref a) I.ok I9.unwish
    show wpAny _ _ (bindName X.env n .none >>= fun _ => unbindBehindTheSuite X.env n hpos) _ _ s9
    refine wpAny_bind (wpAny_bindName (store_ok (i := i) (v := .non) I9 hN hi (.inl hl) rfl (fun s10 I10 => ?_) (.inr hl)))
    obtain ⟨m, hm1, hm2⟩ := id I10.loc
    have hlen : i < σ9.length := by rw [I9.len]; exact (List.getElem?_eq_some_iff.mp hi).1
    obtain ⟨u, ru, lk⟩ := hm2 i n .non hi (List.getElem?_set_self hlen) (.inl hl)
    have hv : m n = some u := by
      rcases lk with ⟨_, q⟩ | ⟨q, _⟩
      · exact q
      · have hl' : X.env.kindOf n = some .local := hl
        rcases q with q | q <;> (rw [hl'] at q; cases q)
    unfold unbindBehindTheSuite
    refine wpAny_onRaise (wpAny_unbindName_local hl hm1 hv (by rw [I10.ok.kind]; rfl) fun h' u' hns sb => ?_)
    refine ⟨(σ9.set i (some .non)).set i none, H9, unstored I10 hex hN hi ⟨hm1, hm2⟩ hns sb, ?_⟩
    rw [List.set_set]
    exact q9
theorem tb_callR {k : Nat} {f Tc : Addr} {fd : FuncData} {ps : List Str} {sp : Sp} {x T n : Str} {i : Nat} {p cpos epos np hpos : Pos} {e : Expr} {es : List Expr} {t : TA} {ts : TS} {b₀ : Stmt} {suite : List Stmt}
    (hex : X.ex = []) (hpn : X.pn = []) (hst : X.stack = X.env :: X.outer) (hfm : X.env.frame = some X.env.locals) (hfn : ∀ x, X.fn x = true) (hN : X.N.Nodup) (hi : X.N[i]? = some n) (hl : X.env.scope.names.lookup n = some .local)
    (hgT : Gl X T) (hmT : X.mg T = some (.ref Tc)) (F : FnOk X.prog X.w X.K X.mg X.base (CXE X.prog X.w) k f fd ps sp) (hr : Room k X.A) (hg : Gl X x) (hm : X.mg x = some (.ref f)) (hk : PySem.W.keepIn X.K (.ref f) = true) (hb : Binds X.K fd ps [])
    (ha : ∀ E', PA (X.wish E') (e :: es) t) (hsu : ∀ ev, PSs (mk X ev).nox (b₀ :: suite) ts) (hdT : (T == ("__debug__" : Str)) = false := by decide) (hdb : (x == ("__debug__" : Str)) = false := by decide)
    (hs : swapsWith (.Call (.Name x p) (e :: es) [] cpos) none epos.line X.env = pure false := by rfl)
    (he : starEach (e :: es) X.env = (false, eval e X.env) :: starEach es X.env := by rfl) (hpl : (backTo cpos (starEach es X.env)).any (·.1) = false := by rfl) :
    TB X (.ExceptHandler (some (.Name T np)) (some n) (b₀ :: suite) hpos) [.Expr (.Call (.Name x p) (e :: es) [] cpos) epos] (tTryR sp ts i X.K Tc t) := by
  intro pins s σ H D I h
  refine wpAny_execs_cons (wpAny_Expr_any ?_ I.quiet hs)
  refine wpAny_Call_Name_kw (ld_glob I hg hm ?_ hdb)
  refine PySem.W.callWith_K (h₀ := X.base) I.ok.mod.kin hk (wpAny_mono (ha (fun _ _ => False) cpos pins s σ H _ (I.wish _) h) (fun us s1 h1 => ?_) fun _ _ z => False.elim z) he hpl
  obtain ⟨vs, H1, I1', r, q⟩ := h1
  have I1 : Inv X pins σ H1 s1 := I1'.unwish
  refine ⟨I1.kIn, ?_⟩
  have hl' : (us ++ []).length = ps.length := by rw [List.append_nil, ← r.length]; exact F.len _ _ _ _ q
  have r2 : Vals vs (us ++ []) := by rw [List.append_nil]; exact r
  refine wpAny_call (codeAny_mono (F.run X.A X.stack s1 H1 ⟨us, []⟩ (us ++ []) vs _ _ hr I1.env0 (hb s1 us I1.kIn hl') r2 q) fun rr s' hq => ?_)
  cases rr with
  | error ev =>
    obtain ⟨a, C, H', rfl, FL, hx, hE⟩ := hq
    exact handleR hex hpn hst hfm hfn hN hi hl hgT hmT hdT hsu I1 FL hx hE
  | ok fl =>
    cases fl with
    | ret u =>
      obtain ⟨v, H', I', rv, q'⟩ := I1.after hq
      exact wpAny_execs_nil ⟨σ, H', I', q'⟩
    | next => exact False.elim hq
    | brk => exact False.elim hq
    | cont => exact False.elim hq
end
def sTryR (g : Fn) (rs : AF) (hit : Str → Bool) (i : Nat) (su : SF) : SF := fun ρ μ => (rs ρ μ).nox.bind fun ds μ1 => match g ds μ1 with
  | .ok _ μ2 => .ok (.nx ρ) μ2
  | .ex (.mk y _) μ2 => if hit y = true then (su (ρ.set i (some (.ob μ2.length))) (μ2 ++ [.exc y])).nox.bind fun f μ3 => match f with
    | .nx ρ3 => .ok (.nx (ρ3.set i none)) μ3
    | .rt d => .ok (.rt d) μ3
    | _ => .bad
    else .bad
  | .bad => .bad
section
variable {X : Cx} {q : Q0} {W : XW}
theorem etb_callR {k : Nat} {Tc : Addr} {g : Fn} {x T n : Str} {i : Nat} {p cpos epos np hpos : Pos} {e : Expr} {es : List Expr} {rs : AF} {hit : Str → Bool} {su : SF} {b₀ : Stmt} {suite : List Stmt}
    (hex : X.ex = []) (hpn : X.pn = []) (hst : X.stack = X.env :: X.outer) (hfm : X.env.frame = some X.env.locals) (hfn : ∀ x, X.fn x = true) (hN : X.N.Nodup) (hi : X.N[i]? = some n) (hl : X.env.scope.names.lookup n = some .local)
    (hgT : Gl X T) (hmT : X.mg T = some (.ref Tc)) (F : FOkX X q k x g) (hr : Room k X.A) (hg : Gl X x) (hhit : ∀ y, hit y = true → ∃ C, X.mg y = some (.ref C) ∧ PySem.W.exmOne X.K (.ref C) (.ref Tc) = some true)
    (ha : ∀ E', EA (X.wish E') q W0 (e :: es) rs) (hsu : ∀ ev, ESs (mk X ev).nox q W0 (b₀ :: suite) su) (hdT : (T == ("__debug__" : Str)) = false := by decide) (hdb : (x == ("__debug__" : Str)) = false := by decide)
    (hs : swapsWith (.Call (.Name x p) (e :: es) [] cpos) none epos.line X.env = pure false := by rfl)
    (he : starEach (e :: es) X.env = (false, eval e X.env) :: starEach es X.env := by rfl) (hpl : (backTo cpos (starEach es X.env)).any (·.1) = false := by rfl) :
    ETB X q W (.ExceptHandler (some (.Name T np)) (some n) (b₀ :: suite) hpos) [.Expr (.Call (.Name x p) (e :: es) [] cpos) epos] (sTryR g rs hit i su) := by
  obtain ⟨f, fd, ps, hm, hk, hb, F⟩ := F.ex
  refine ⟨TB.imp (tb_callR (t := taEv (gx X q) W0 rs) (ts := tsEv (gx X q) W0 su) hex hpn hst hfm hfn hN hi hl hgT hmT F hr hg hm hk hb (fun E' => (ha E').p) (fun ev => (hsu ev).p) hdT hdb hs he hpl) fun D σ H hh => ?_⟩
  obtain ⟨ρ, μ, α, C, PP⟩ := hh
  refine ⟨ρ, μ, α, C, PP.nobind.imp fun ds μ1 α1 H1 w1 s1 P1 vs rv => ?_⟩
  refine ⟨ds, μ1, α1, rv, s1, ?_⟩
  cases hgd : g ds μ1 with
  | bad => rw [hgd] at P1; exact P1.elim
  | ok d μ2 =>
    rw [hgd] at P1
    intro α2 H2 w2 s2 v rv'
    exact P1.out2 w2 s2 σ ((C.st.grow w1).grow w2)
  | ex ex μ2 =>
    rw [hgd] at P1
    obtain ⟨y, fs⟩ := ex
    intro α2 H2 w2 s2
    have P1 : Pst (gx X q) W α1 H1 (if hit y = true then (su (ρ.set i (some (.ob μ2.length))) (μ2 ++ [.exc y])).nox.bind fun f μ3 => match f with
      | .nx ρ3 => .ok (.nx (ρ3.set i none)) μ3
      | .rt d => .ok (.rt d) μ3
      | _ => .bad
      else .bad) (kS (gx X q) D) := P1
    split at P1
    · rename_i hy
      obtain ⟨Cc, hc1, hc2⟩ := hhit y hy
      refine ⟨Cc, hc1, hc2, fun a hna => ?_⟩
      obtain ⟨S3, w3⟩ := s2.new (o := .exc y) (u := .ext (isExc a (.ref Cc))) hna ⟨Cc, hc1, upd_same⟩
      have ra : Rv (gx X q) (α2 ++ [a]) (upd H2 a (.ext (isExc a (.ref Cc)))) (.ob μ2.length) (.ref a) := .ob (by rw [← s2.len, List.getElem?_append_right (Nat.le_refl _), Nat.sub_self]; rfl)
      refine ⟨ρ.set i (some (.ob μ2.length)), μ2 ++ [.exc y], α2 ++ [a], ⟨(((C.st.grow w1).grow w2).grow w3).set ra i, S3⟩, (P1.grow (w2.trans w3)).nobind.imp fun fl μ4 α4 H4 w4 s4 P4 => ?_⟩
      cases fl with
      | nx ρ3 => exact fun σ3 h3 => P4.out s4 _ (StR.unset h3 i)
      | rt d => exact fun v rv => P4.out s4 v rv
      | bk ρ3 => exact P4.elim
      | ct ρ3 => exact P4.elim
    · exact P1.elim
end
end Xc

end
section
set_option Elab.async false
set_option linter.all false
set_option maxRecDepth 100000
set_option maxHeartbeats 1000000
namespace Ev
open PySem PySem.Spec PyProof.Rows L2
section
variable {X : Cx} {q : Q0} {W : XW} {a b e e2 : Expr} {rest : List Expr} {ra rb : EF} {pos : Pos}
def flatD : D → Bool
  | .non => true
  | .bl _ => true
  | .int _ => true
  | .str _ => true
  | _ => false
def eqF : D → D → Bool
  | .non, .non => true
  | .bl a, .bl b => a == b
  | .bl a, .int b => (if a then 1 else 0) == b
  | .int a, .bl b => a == (if b then 1 else 0)
  | .int a, .int b => a == b
  | .str a, .str b => a == b
  | _, _ => false
theorem flat_rv {g : Gx} {α : List Addr} {H : Hp} {d : D} {v : V} (r : Rv g α H d v) (h : flatD d = true) : flatV v = true := by
  cases r <;> first | rfl | cases h
theorem eqF_rv {g : Gx} {α : List Addr} {H : Hp} {d e : D} {v u : V} (r : Rv g α H d v) (r2 : Rv g α H e u) (h : flatD d = true) (h2 : flatD e = true) : eqV v u = eqF d e := by
  cases r <;> first | cases h | skip
  all_goals (cases r2 <;> first | rfl | cases h2)
theorem flats_rv {g : Gx} {α : List Addr} {H : Hp} : ∀ {ds : List D} {vs : List V}, Rvs g α H ds vs → ds.all flatD = true → vs.all flatV = true
  | _, _, .nil, _ => rfl
  | _, _, .cons r t, h => by
    rw [List.all_cons, Bool.and_eq_true] at h ⊢
    exact ⟨flat_rv r h.1, flats_rv t h.2⟩
def opIn (ns : List Int) (neg : Bool) (d e : D) (μ : Store) : R D := match seqOf ns μ e with
  | some xs => if flatD d = true ∧ xs.all flatD = true then .ok (.bl (if neg then !(xs.any fun y => eqF y d) else xs.any fun y => eqF y d)) μ else .bad
  | none => .bad
def eOrV (ns : List Int) (a b : EF) : EF := fun ρ μ => (a ρ μ).bind fun d μ1 => match truD ns μ1 d with
  | some true => .ok d μ1
  | some false => b ρ μ1
  | none => .bad
def eLrng (r : EF) : EF := fun ρ μ => (r ρ μ).bind fun d μ1 => match d with
  | .int j => if -(2 ^ 62) ≤ j ∧ j ≤ 1000000 then .ok (.ob μ1.length) (μ1 ++ [.lst ((List.range j.toNat).map fun (k : Nat) => D.int (k : Nat))]) else .bad
  | _ => .bad
def iR3 (r u v : EF) : IF_ := fun ρ μ => (r ρ μ).bind fun d μ1 => (u ρ μ1).bind fun e μ2 => (v ρ μ2).bind fun c μ3 => match d, e, c with
  | .int i, .int j, .int c => if -(2 ^ 62) ≤ i ∧ i < 2 ^ 62 ∧ -(2 ^ 62) ≤ j ∧ j < 2 ^ 62 ∧ c = -1 then .ok ((List.range (i - j).toNat).map fun (k : Nat) => D.int (i - (k : Nat))) μ3 else .bad
  | _, _, _ => .bad
theorem items_rangeC {g : Gx} {α0 : List Addr} {H0 : Hp} (lo c : Int) (n : Nat) : Items g α0 H0 (Itc lo c n) ((List.range n).map fun (k : Nat) => D.int (lo + (k : Nat) * c)) := by
  refine ⟨fun i α H w hl => (by simpa using hl : i < n), fun i α H μ x H' w S y hl => ?_, fun i α H w hl => (by simpa using hl : n ≤ i)⟩
  obtain ⟨e1, e2⟩ := y
  subst e1; subst e2
  refine ⟨S, .refl, .int (lo + i * c), ?_, .int _⟩
  have hi : i < n := by simpa using hl
  simp [hi]
def nxV (ns : List Int) (l : D) (n : Nat) : NX := fun i μ => match lstOf ns μ l with
  | some xs => if xs.length = n then some xs.reverse[i]? else none
  | none => none
def iRv (ns : List Int) (r : EF) : IG := fun ρ μ => (r ρ μ).bind fun l μ1 => match lstOf ns μ1 l with
  | some xs => .ok (nxV ns l xs.length, xs.length) μ1
  | none => .bad
end
end Ev

end
section
set_option Elab.async false
set_option linter.all false
set_option maxRecDepth 100000
set_option maxHeartbeats 1000000
namespace Gp
open PySem PySem.Spec PyProof.Rows L2 Gn
structure Gd where
  X : Cx
  A0 : Around
  s : Shared
  H : Hp
  cenv : Env
  fp : List Addr
  it : Addr
  tn : Nat → Heap → Prop
  J : It
  a : Addr
  og : Obj
  g : Nat
  σ : L2.St
  ixs : List Nat
  N : Nat
  b : Nat → Bool
  Φ : Nat → Hp → Prop
def Gd.cx (G : Gd) (A : Around) : Cx := genX G.X A G.s G.H G.cenv G.fp
structure Gd.C (G : Gd) (i : Nat) (H' : Hp) (s' : Shared) : Prop where
  inv : Inv (genX G.X G.A0 G.s G.H G.cenv G.fp) [(G.a, G.og)] (wipe G.σ G.ixs) H' s'
  st : G.tn i s'.heap
  fr : ∀ b ∈ G.fp, H' b = none
  phi : G.Φ i H'
  sz : G.g < s'.gens.size
structure Gd.D (G : Gd) (H' : Hp) (s' : Shared) : Prop where
  inv : Inv (genX G.X G.A0 G.s G.H G.cenv G.fp) [(G.a, G.og)] (wipe G.σ G.ixs) H' s'
  phi : G.Φ G.N H'
  sz : G.g < s'.gens.size
def Gd.Y (G : Gd) : Protocol := fun n s₀ v s₁ κ => ∃ i H1, n + i + 1 = G.N ∧ v = .bool (G.b i) ∧ G.C (i + 1) H1 s₁ ∧ ∀ H2 s₂, G.C (i + 1) H2 s₂ → κ (.send .none) s₂
def Gd.P (G : Gd) : Nat → Shared → Shared → Prop := fun n _ s₁ => n = 0 ∧ ∃ H1, G.D H1 s₁
section
variable {G : Gd} {tg : Expr} {t : TG} {pos : Pos} {elt iter : Expr} {scope : Scope} {te : TE} {k : Nat} {A : Around}
end
end Gp

end
section
set_option Elab.async false
set_option linter.all false
set_option maxRecDepth 100000
set_option maxHeartbeats 1000000
namespace Gp
open PySem PySem.Spec PyProof.Rows L2 Gn
structure Gd.At (G : Gd) (A : Around) (i : Nat) (H' : Hp) (s' : Shared) : Prop where
  c : G.C i H' s'
  gs : ∃ gs, s'.gens[G.g]? = some gs ∧ ∀ H2 s2, G.C i H2 s2 → gs.Goes (model G.X.prog G.X.w) A.in1 (fun n s₀ r s₁ => r = .ok .next ∧ G.P n s₀ s₁) G.Y (G.N - i) (.send .none) s2
section
variable {G : Gd} {A : Around} {i : Nat} {H' : Hp} {s' : Shared} {E : Value → Shared → Prop} {nm qn : Value}
theorem Gd.C.set (c : G.C i H' s') {x : GenState} (hx : x.bare = true) : G.C i H' (s'.setGen G.g x) :=
  ⟨setGen_inv c.inv hx, c.st, c.fr, c.phi, by have := c.sz; simpa [Shared.setGen] using this⟩
theorem Gd.C.isGen (c : G.C i H' s') (hog : G.og = { cls := .type "generator", data := .fields #[.int G.g 0, nm, qn] }) : s'.heap.IsGen G.a G.g := by
  have z := (c.inv.pin (G.a, G.og) (by simp)).1
  exact ⟨G.og, nm, qn, z, by rw [hog], by rw [hog], by rw [hog]⟩
theorem next_item (hog : G.og = { cls := .type "generator", data := .fields #[.int G.g 0, nm, qn] }) (hh : A.handled = none) (hroom : A.depth < recursionLimit) (h : G.At A i H' s') (hi : i < G.N) :
    wpAny (model G.X.prog G.X.w) A (pyNext (.ref G.a)) (fun r s1 => ∃ H1, r = some (.bool (G.b i)) ∧ G.At A (i + 1) H1 s1) E s' := by
  obtain ⟨gs, hgs, hgo⟩ := h.gs
  obtain ⟨m, hm⟩ : ∃ m, G.N - i = m + 1 := ⟨G.N - i - 1, by omega⟩
  rw [hm] at hgo
  refine wpAny_pyNext_genexpQ (P := G.P) hh h.c.inv.nolimit hroom (h.c.isGen hog) hgs (hgo H' _ (h.c.set rfl)) (fun v s₁ gs' hb hv => ?_) (fun s₁ hp h' hk => ?_)
  · obtain ⟨j, H1, e1, e2, C1, kap⟩ := hv
    have ej : j = i := by omega
    subst ej
    subst e2
    refine ⟨H1, rfl, C1.set hb, gs', ?_, fun H2 s2 C2 => ?_⟩
    · show (s₁.gens.setIfInBounds G.g gs')[G.g]? = some gs'
      simp [C1.sz]
    · have e : G.N - (j + 1) = m := by omega
      rw [e]
      exact kap H2 s2 C2
  · exact absurd hp.1 (Nat.succ_ne_zero m)
def Gd.F (G : Gd) (j : Nat) (H1 : Hp) (s1 : Shared) : Prop := Inv (genX G.X G.A0 G.s G.H G.cenv G.fp) [(G.a, G.og)] (wipe G.σ G.ixs) H1 s1 ∧ G.Φ j H1
end
end Gp

end
section
set_option Elab.async false
set_option linter.all false
set_option maxRecDepth 100000
set_option maxHeartbeats 1000000
namespace Gp
open PySem PySem.Spec PyProof.Rows L2 Gn
section
variable {X : Cx}
end
end Gp

end
section
set_option Elab.async false
set_option linter.all false
set_option maxRecDepth 100000
set_option maxHeartbeats 1000000
namespace Gq
open PySem PySem.Spec PyProof.Rows L2 Gn Gp
structure Gt where
  X : Cx
  A0 : Around
  s : Shared
  H : Hp
  cenv : Env
  fp : List Addr
  it : Addr
  tn : Nat → Heap → Prop
  J : It
  a : Addr
  og : Obj
  g : Nat
  σ : L2.St
  ixs : List Nat
  N : Nat
  Ψ : Nat → V → Hp → Prop
  Φ : Nat → Hp → Prop
def Gt.cx (G : Gt) (A : Around) : Cx := genX G.X A G.s G.H G.cenv G.fp
structure Gt.C (G : Gt) (i : Nat) (H' : Hp) (s' : Shared) : Prop where
  inv : Inv (genX G.X G.A0 G.s G.H G.cenv G.fp) [(G.a, G.og)] (wipe G.σ G.ixs) H' s'
  st : G.tn i s'.heap
  fr : ∀ b ∈ G.fp, H' b = none
  phi : G.Φ i H'
  sz : G.g < s'.gens.size
structure Gt.D (G : Gt) (H' : Hp) (s' : Shared) : Prop where
  inv : Inv (genX G.X G.A0 G.s G.H G.cenv G.fp) [(G.a, G.og)] (wipe G.σ G.ixs) H' s'
  phi : G.Φ G.N H'
  sz : G.g < s'.gens.size
structure Gt.B (G : Gt) (i : Nat) (y : V) (H' : Hp) (s' : Shared) : Prop where
  inv : Inv (genX G.X G.A0 G.s G.H G.cenv G.fp) [(G.a, G.og)] (wipe G.σ G.ixs) H' s'
  st : G.tn (i + 1) s'.heap
  fr : ∀ b ∈ G.fp, H' b = none
  psi : G.Ψ i y H'
  sz : G.g < s'.gens.size
def Gt.Y (G : Gt) : Protocol := fun n s₀ v s₁ κ => ∃ i H1 y, n + i = G.N ∧ i < G.N ∧ RelV y v ∧ G.B i y H1 s₁ ∧ ∀ H2 s₂, G.C (i + 1) H2 s₂ → κ (.send .none) s₂
def Gt.P (G : Gt) : Nat → Shared → Shared → Prop := fun n _ s₁ => n = 1 ∧ ∃ H1, G.D H1 s₁
section
variable {G : Gt} {tg : Expr} {t : TG} {pos : Pos} {elt iter : Expr} {scope : Scope} {te : TE} {k : Nat} {A : Around}
end


structure Gt.At (G : Gt) (A : Around) (i : Nat) (H' : Hp) (s' : Shared) : Prop where
  c : G.C i H' s'
  gs : ∃ gs, s'.gens[G.g]? = some gs ∧ ∀ H2 s2, G.C i H2 s2 → gs.Goes (model G.X.prog G.X.w) A.in1 (fun n s₀ r s₁ => r = .ok .next ∧ G.P n s₀ s₁) G.Y (G.N - i + 1) (.send .none) s2
section
variable {G : Gt} {A : Around} {i : Nat} {H' : Hp} {s' : Shared} {E : Value → Shared → Prop} {nm qn : Value}
theorem Gt.C.set (c : G.C i H' s') {x : GenState} (hx : x.bare = true) : G.C i H' (s'.setGen G.g x) :=
  ⟨setGen_inv c.inv hx, c.st, c.fr, c.phi, by have := c.sz; simpa [Shared.setGen] using this⟩
theorem Gt.B.set {y : V} (c : G.B i y H' s') {x : GenState} (hx : x.bare = true) : G.B i y H' (s'.setGen G.g x) :=
  ⟨setGen_inv c.inv hx, c.st, c.fr, c.psi, by have := c.sz; simpa [Shared.setGen] using this⟩
theorem Gt.C.isGen (c : G.C i H' s') (hog : G.og = { cls := .type "generator", data := .fields #[.int G.g 0, nm, qn] }) : s'.heap.IsGen G.a G.g := by
  have z := (c.inv.pin (G.a, G.og) (by simp)).1
  exact ⟨G.og, nm, qn, z, by rw [hog], by rw [hog], by rw [hog]⟩
theorem next_item (hog : G.og = { cls := .type "generator", data := .fields #[.int G.g 0, nm, qn] }) (hh : A.handled = none) (hroom : A.depth < recursionLimit) (h : G.At A i H' s') (hi : i < G.N) :
    wpAny (model G.X.prog G.X.w) A (pyNext (.ref G.a)) (fun r s1 => ∃ H1 y v, r = some v ∧ RelV y v ∧ G.B i y H1 s1 ∧ ∃ gs, s1.gens[G.g]? = some gs ∧ ∀ H2 s2, G.C (i + 1) H2 s2 → gs.Goes (model G.X.prog G.X.w) A.in1 (fun n s₀ r s₁ => r = .ok .next ∧ G.P n s₀ s₁) G.Y (G.N - (i + 1) + 1) (.send .none) s2) E s' := by
  obtain ⟨gs, hgs, hgo⟩ := h.gs
  obtain ⟨m, hm⟩ : ∃ m, G.N - i = m + 1 := ⟨G.N - i - 1, by omega⟩
  rw [hm] at hgo
  refine wpAny_pyNext_genexpQ (P := G.P) hh h.c.inv.nolimit hroom (h.c.isGen hog) hgs (hgo H' _ (h.c.set rfl)) (fun v s₁ gs' hb hv => ?_) (fun s₁ hp h' hk => ?_)
  · obtain ⟨j, H1, y, e1, e0, e2, C1, kap⟩ := hv
    have ej : j = i := by omega
    subst ej
    refine ⟨H1, y, v, rfl, e2, C1.set hb, gs', ?_, fun H2 s2 C2 => ?_⟩
    · show (s₁.gens.setIfInBounds G.g gs')[G.g]? = some gs'
      simp [C1.sz]
    · have e : G.N - (j + 1) = m := by omega
      rw [e]
      exact kap H2 s2 C2
  · exact absurd hp.1 (by omega)
end
end Gq

end
section
set_option Elab.async false
set_option linter.all false
set_option maxRecDepth 100000
set_option maxHeartbeats 1000000
namespace Gq
open PySem PySem.Spec PyProof.Rows L2 Gn Gp
open AutoSeq1 (wpAny_loadPart')
section
variable {G : Gt} {A : Around} {i : Nat} {H' : Hp} {s' : Shared} {E : Value → Shared → Prop} {nm qn : Value} {S : Addr} {tg : Expr}
end
end Gq

end
section
set_option Elab.async false
set_option linter.all false
set_option maxRecDepth 100000
set_option maxHeartbeats 1000000
namespace Gq
open PySem PySem.Spec PyProof.Rows L2 Gn Gp
section
variable {X : Cx} {pins : List (Addr × Obj)} {σ : L2.St} {H : Hp} {s : Shared}
end
end Gq

end
section
set_option Elab.async false
set_option linter.all false
set_option maxRecDepth 100000
set_option maxHeartbeats 1000000
namespace Ev
open PySem PySem.Spec PyProof.Rows L2
def sqN (nx : NX) (tg : TgF) (te : EF) (ρ : Ro) : Nat → Nat → Store → Bool
  | 0, i, μ => match nx i μ with
    | some none => true
    | _ => false
  | k + 1, i, μ => match nx i μ with
    | some (some d) => match tg d ρ with
      | some ρ2 => match te ρ2 μ with
        | .ok (.bl _) μ1 => sqN nx tg te ρ k (i + 1) μ1
        | _ => false
      | none => false
    | _ => false
def alN (nx : NX) (tg : TgF) (te : EF) (ρ : Ro) : Nat → Nat → Store → R D
  | 0, i, μ => match nx i μ with
    | some none => .ok (.bl true) μ
    | _ => .bad
  | k + 1, i, μ => match nx i μ with
    | some (some d) => match tg d ρ with
      | some ρ2 => match te ρ2 μ with
        | .ok (.bl true) μ1 => alN nx tg te ρ k (i + 1) μ1
        | .ok (.bl false) μ1 => if sqN nx tg te ρ k (i + 1) μ1 = true then .ok (.bl false) μ1 else .bad
        | _ => .bad
      | none => .bad
    | _ => .bad
def eAllN (it : IG) (vs : List Nat) (tg : TgF) (te : EF) : EF := fun ρ μ => (it ρ μ).bind fun p μ1 => alN p.1 tg te (wipeR ρ vs) p.2 0 μ1
structure SeqN (nx : NX) (tg : TgF) (te : EF) (ρ : Ro) (N i0 : Nat) (μ : Store) (b : Nat → Bool) (ms : Nat → Store) : Prop where
  z : ms 0 = μ
  st : ∀ j, j < N → ∃ d ρ2, nx (i0 + j) (ms j) = some (some d) ∧ tg d ρ = some ρ2 ∧ te ρ2 (ms j) = .ok (.bl (b j)) (ms (j + 1))
  en : nx (i0 + N) (ms N) = some none
theorem SeqN.cons {nx : NX} {tg : TgF} {te : EF} {ρ ρ2 : Ro} {N i0 : Nat} {μ μ1 : Store} {b : Nat → Bool} {ms : Nat → Store} {d : D} {k : Bool} (h : SeqN nx tg te ρ N (i0 + 1) μ1 b ms) (e1 : nx i0 μ = some (some d)) (e2 : tg d ρ = some ρ2) (e3 : te ρ2 μ = .ok (.bl k) μ1) :
    SeqN nx tg te ρ (N + 1) i0 μ (fun i => match i with | 0 => k | i + 1 => b i) (fun i => match i with | 0 => μ | i + 1 => ms i) := by
  refine ⟨rfl, fun j hj => ?_, ?_⟩
  · cases j with
    | zero => exact ⟨d, ρ2, e1, e2, by show te ρ2 μ = .ok (.bl k) (ms 0); rw [h.z]; exact e3⟩
    | succ j =>
      obtain ⟨d', ρ', q1, q2, q3⟩ := h.st j (by omega)
      exact ⟨d', ρ', by rw [show i0 + (j + 1) = i0 + 1 + j by omega]; exact q1, q2, q3⟩
  · show nx (i0 + (N + 1)) (ms N) = _
    rw [show i0 + (N + 1) = i0 + 1 + N by omega]; exact h.en
section
variable {X : Cx} {q : Q0} {W : XW} {elt iter tg : Expr} {re : EF} {ri : IG} {pos : Pos}
end
def tpGo (nx : NX) (tg : TgF) (te : EF) (ρ : Ro) (n : Nat) : Nat → Nat → Store → R Unit
  | 0, i, μ => match nx i μ with
    | some none => .ok () μ
    | _ => .bad
  | k + 1, i, μ => match nx i μ with
    | some (some d) => match tg d ρ with
      | some ρ2 => (te ρ2 μ).nox.bind fun y μ2 => match μ2[n]? with
        | some (.lst acc) => if acc.length < sizeLine then tpGo nx tg te ρ n k (i + 1) (μ2.set n (.lst (acc ++ [y]))) else .bad
        | _ => .bad
      | none => .bad
    | _ => .bad
def eTupN (it : IG) (vs : List Nat) (tg : TgF) (te : EF) : EF := fun ρ μ => (it ρ μ).bind fun p μ1 => (tpGo p.1 tg te (wipeR ρ vs) μ1.length p.2 0 (μ1 ++ [.lst []])).bind fun _ μ2 => tupEnd μ1.length μ2
section
variable {X : Cx} {q : Q0} {W : XW} {elt iter tg : Expr} {re : EF} {ri : IG} {pos : Pos}
end
end Ev

end
section
set_option Elab.async false
set_option linter.all false
set_option maxRecDepth 100000
set_option maxHeartbeats 1000000
namespace Ev
open PySem PySem.Spec PyProof.Rows L2
section
variable {prog : Program} {w : World} {A : Around} {E : Value → Shared → Prop} {s : Shared} {l : Addr} {xs : Array (Int × Tok)} {its : List Value} {ns : List Int}
end
section
variable {X : Cx} {q : Q0} {W : XW}
end
end Ev

end
section
set_option Elab.async false
set_option linter.all false
set_option maxRecDepth 100000
set_option maxHeartbeats 1000000
namespace Ev
open PySem PySem.Spec PyProof.Rows L2
section
variable {P : Program} {w : World} {K : PySem.W.Frag} {mg : Str → Option Value} {base : Heap} {q : Q0} {k : Nat} {x : Str} {f : Addr} {fd : FuncData} {ps : List Str}
theorem bad_ok (hm : mg x = some (.ref f)) (hk : PySem.W.keepIn K (.ref f) = true) (hb : Binds K fd ps []) : CallOk P w K mg base q k x (fun _ _ => .bad) := by
  refine ⟨f, fd, ps, hm, hk, hb, ⟨fun vs H Q E z => ?_, fun A outer s H args us vs Q E hr e0 hbd rv z => ?_⟩⟩
  · obtain ⟨ds, μ, α, _, _, h⟩ := z
    exact h.elim
  · obtain ⟨ds, μ, α, _, _, h⟩ := z
    exact h.elim
end
end Ev
namespace Xc
open PySem PySem.Spec PyProof.Rows L2 Ev
theorem bad_okX {P : Program} {w : World} {K : PySem.W.Frag} {mg : Str → Option Value} {base : Heap} {q : Q0} {k : Nat} {x : Str} {f : Addr} {fd : FuncData} {ps : List Str} (hm : mg x = some (.ref f)) (hk : PySem.W.keepIn K (.ref f) = true) (hb : Binds K fd ps []) : CallOkX P w K mg base q k x (fun _ _ => .bad) := by
  refine ⟨f, fd, ps, hm, hk, hb, ⟨fun vs H Q E z => ?_, fun A outer s H args us vs Q E hr e0 hbd rv z => ?_⟩⟩
  · obtain ⟨ds, μ, α, _, _, h⟩ := z
    exact h.elim
  · obtain ⟨ds, μ, α, _, _, h⟩ := z
    exact h.elim
end Xc

end
section
set_option Elab.async false
set_option linter.all false
set_option maxRecDepth 100000
set_option maxHeartbeats 1000000
namespace Ev
open PySem PySem.Spec PyProof.Rows L2
def keyD : D → Option Key
  | .int i => some (.inl i)
  | .str x => some (.inr x)
  | _ => none
def putD (kvs : List (Key × D)) (k : Key) (d : D) : List (Key × D) :=
  if (kvs.any fun kv => decide (kv.1 = k)) = true then kvs.map (fun kv => if kv.1 = k then (kv.1, d) else kv) else kvs ++ [(k, d)]
section
variable {X : Cx} {q : Q0} {W : XW} {a b : Expr} {ra rb : EF} {pos : Pos}
def dsD (o i d : D) (μ : Store) : R Unit := match o with
  | .ob j => match μ[j]? with
    | some (.dic kvs) => match keyD i with
      | some k => if kvs.length < sizeLine then .ok () (μ.set j (.dic (putD kvs k d))) else .bad
      | none => .bad
    | _ => .bad
  | _ => .bad
def gDix (o i : EF) : GF := fun d ρ μ => (o ρ μ).bind fun od μ1 => (i ρ μ1).bind fun id μ2 => (dsD od id d μ2).bind fun _ μ3 => .ok ρ μ3
end
end Ev

end
section
set_option Elab.async false
set_option linter.all false
set_option maxRecDepth 100000
set_option maxHeartbeats 1000000
namespace Ev
open PySem PySem.Spec PyProof.Rows L2
section
variable {X : Cx} {q : Q0} {W : XW}
end
end Ev

end
section
set_option Elab.async false
set_option linter.all false
set_option maxRecDepth 100000
set_option maxHeartbeats 1000000
namespace L2
open PySem PySem.Spec PyProof.Rows
section
variable {X : Cx}
end
end L2

end
section
set_option Elab.async false
set_option linter.all false
set_option maxRecDepth 100000
set_option maxHeartbeats 1000000
namespace Ev
open PySem PySem.Spec PyProof.Rows L2
section
variable {X : Cx} {q : Q0} {W : XW} {kx vx iter : Expr} {rk re : EF} {pos : Pos}
def dcGo (nx : NX) (tg : TgF) (tt : TF) (tk te : EF) (ρ : Ro) (n : Nat) : Nat → Nat → Store → R Unit
  | 0, i, μ => match nx i μ with
    | some none => .ok () μ
    | _ => .bad
  | m + 1, i, μ => match nx i μ with
    | some none => .ok () μ
    | some (some d) => match tg d ρ with
      | some ρ2 => (tt ρ2 μ).nox.bind fun b μ1 => match b with
        | true => (tk ρ2 μ1).nox.bind fun y μ5 => (te ρ2 μ5).nox.bind fun z μ4 => (match keyD y, μ4[n]? with
          | some k, some (.dic acc) => if acc.length < sizeLine then dcGo nx tg tt tk te ρ n m (i + 1) (μ4.set n (.dic (putD acc k z))) else .bad
          | _, _ => .bad)
        | false => dcGo nx tg tt tk te ρ n m (i + 1) μ1
      | none => .bad
    | none => .bad
def eDc (it : IG) (vs : List Nat) (tg : TgF) (tt : TF) (tk te : EF) : EF := fun ρ μ => (it ρ μ).bind fun p μ1 => (dcGo p.1 tg tt tk te (wipeR ρ vs) μ1.length p.2 0 (μ1 ++ [.dic []])).bind fun _ μ2 => .ok (.ob μ1.length) μ2
end
end Ev

end
section
set_option Elab.async false
set_option linter.all false
set_option maxRecDepth 100000
set_option maxHeartbeats 2000000
namespace Rvr
open PySem PySem.Spec PyProof.Rows L2
open Sem (wp)
section
variable {prog : Program} {w : World} {A : Around} {E : Value → Shared → Prop} {s : Shared}
end
section
variable {X : Cx} {tg : Expr}
end
end Rvr
namespace Ev
open PySem PySem.Spec PyProof.Rows L2
section
variable {X : Cx} {q : Q0} {W : XW} {tg a : Expr} {ra : EF} {pos pos' : Pos}
def iRr (r : EF) : IF_ := fun ρ μ => (r ρ μ).bind fun d μ1 => match d with
  | .int j => if -(2 ^ 62) ≤ j ∧ j < 2 ^ 62 then .ok ((List.range j.toNat).map fun (k : Nat) => D.int ((j.toNat : Int) - 1 - (k : Nat))) μ1 else .bad
  | _ => .bad
end
end Ev

end
section
set_option Elab.async false
set_option linter.all false
set_option maxRecDepth 100000
set_option maxHeartbeats 2000000
namespace Ex
open PySem PySem.Spec PyProof.Rows L2
open Sem (wp)
open AutoSeq1 (wpAny_loadPart')
section
variable {prog : Program} {w : World} {A : Around} {E : Value → Shared → Prop} {s : Shared}
end
section
variable {prog : Program} {w : World} {A : Around} {E : Value → Shared → Prop} {s : Shared}
end
end Ex
namespace Ev
open PySem PySem.Spec PyProof.Rows L2
section
variable {X : Cx} {q : Q0} {W : XW} {e e2 : Expr} {ra rb : EF} {pos : Pos}
def nxEn (ns : List Int) (l : D) (j : Int) : NX := fun i μ => match lstOf ns μ l with
  | some xs => match xs[i]? with
    | some x => some (some (.tup [.int (j + (i : Nat)), x]))
    | none => some none
  | none => none
def iEnL (ns : List Int) (r u : EF) : IG := fun ρ μ => (r ρ μ).bind fun l μ1 => (u ρ μ1).bind fun k μ2 => match k, lstOf ns μ2 l with
  | .int j, some xs => if -(2 ^ 62) ≤ j ∧ j < 2 ^ 62 then .ok (nxEn ns l j, xs.length) μ2 else .bad
  | _, _ => .bad
def iEnL0 (ns : List Int) (r : EF) : IG := fun ρ μ => (r ρ μ).bind fun l μ1 => match lstOf ns μ1 l with
  | some xs => .ok (nxEn ns l 0, xs.length) μ1
  | _ => .bad
end
end Ev

end
section
set_option Elab.async false
set_option linter.all false
set_option maxRecDepth 100000
set_option maxHeartbeats 2000000
namespace Mxd
open PySem PySem.Spec PyProof.Rows L2
open Sem (wp)
section
variable {prog : Program} {w : World} {A : Around} {R : Result → Shared → Prop} {I : Addr} {fp wr : List Addr} {n : Nat} {P : Nat → Value → Prop} {St : Nat → Heap → Prop}
end
section
variable {prog : Program} {w : World} {A : Around} {E : Value → Shared → Prop} {s : Shared}
end
end Mxd
namespace Ev
open PySem PySem.Spec PyProof.Rows L2
section
variable {X : Cx} {q : Q0} {W : XW} {e e2 : Expr} {ra rb : EF} {pos : Pos}
end
end Ev

end
section
set_option Elab.async false
set_option linter.all false
set_option maxRecDepth 100000
set_option maxHeartbeats 1000000
namespace L2
open PySem PySem.Spec PyProof.Rows
section
variable {X : Cx}
end
end L2
namespace Ev
open PySem PySem.Spec PyProof.Rows L2
section
variable {X : Cx} {q : Q0} {W : XW} {o i e : Expr} {ro ri re : EF} {pos tpos : Pos}
end
end Ev

end
section
set_option Elab.async false
set_option linter.all false
set_option maxRecDepth 100000
set_option maxHeartbeats 2000000
namespace Zq
open PySem PySem.Spec PyProof.Rows L2 Zp
open Sem (wp)
abbrev P2 (t1 t2 : Bool) (h : Heap) (l1 l2 : Addr) : Heap := (P1 t1 h l1).push { cls := .type (itN t2), data := .fields #[.ref l2, .int 0 0] }
abbrev P3 (t1 t2 t3 : Bool) (h : Heap) (l1 l2 l3 : Addr) : Heap := (P2 t1 t2 h l1 l2).push { cls := .type (itN t3), data := .fields #[.ref l3, .int 0 0] }
abbrev P6 (t1 t2 t3 : Bool) (h : Heap) (l1 l2 l3 : Addr) : Heap :=
  (((P3 t1 t2 t3 h l1 l2 l3).push { cls := .type "tuple", data := .seq #[.ref h.objs.size, .ref (h.objs.size + 1), .ref (h.objs.size + 2)] }).push { cls := .type "tuple", data := .seq #[.none, .none, .none] }).push
    { cls := .type "zip", data := .fields #[.none, .bool false, .bool false, .ref (h.objs.size + 3), .ref (h.objs.size + 4)] }
section
variable {prog : Program} {w : World} {A : Around} {E : Value → Shared → Prop} {s : Shared}
end
structure Ap (z TI TO i1 i2 i3 l1 l2 l3 : Nat) : Prop where
  o1 : i1 < i2
  o2 : i2 < i3
  o3 : i3 < TI
  o4 : TI < TO
  o5 : TO < z
  o6 : l1 < i1
  o7 : l2 < i1
  o8 : l3 < i1
theorem Ap.ne {z TI TO i1 i2 i3 l1 l2 l3 : Nat} (D : Ap z TI TO i1 i2 i3 l1 l2 l3) : i1 ≠ z ∧ i2 ≠ z ∧ i3 ≠ z ∧ l1 ≠ z ∧ l2 ≠ z ∧ l3 ≠ z ∧ TO ≠ z ∧ TO ≠ i1 ∧ TO ≠ i2 ∧ TO ≠ i3 ∧ i1 ≠ i2 ∧ i1 ≠ i3 ∧ i2 ≠ i3 ∧ l2 ≠ i1 ∧ l2 ≠ TO ∧ l3 ≠ i1 ∧ l3 ≠ i2 ∧ l3 ≠ TO := by
  obtain ⟨o1, o2, o3, o4, o5, o6, o7, o8⟩ := D
  refine ⟨?_, ?_, ?_, ?_, ?_, ?_, ?_, ?_, ?_, ?_, ?_, ?_, ?_, ?_, ?_, ?_, ?_, ?_⟩ <;> omega
section
variable {prog : Program} {w : World} {A : Around} {E : Value → Shared → Prop} {s : Shared}
end
end Zq

end
section
set_option Elab.async false
set_option linter.all false
set_option maxRecDepth 100000
set_option maxHeartbeats 2000000
namespace Zq
open PySem PySem.Spec PyProof.Rows L2 Zp
open Sem (wp)
section
variable {prog : Program} {w : World} {A : Around} {E : Value → Shared → Prop} {s : Shared}
end
end Zq
namespace Ev
open PySem PySem.Spec PyProof.Rows L2
section
variable {X : Cx} {q : Q0} {W : XW} {e e2 e3 : Expr} {ra rb rc : EF} {pos : Pos}
def zip3 : List D → List D → List D → List D
  | x :: xs, y :: ys, z :: zs => D.tup [x, y, z] :: zip3 xs ys zs
  | _, _, _ => []
def nxZ3 (ns : List Int) (d e f : D) : NX := fun i μ => match seqOf ns μ d, seqOf ns μ e, seqOf ns μ f with
  | some xs, some ys, some zs => some (zip3 xs ys zs)[i]?
  | _, _, _ => none
def iZp3 (ns : List Int) (r u v : EF) : IG := fun ρ μ => (r ρ μ).bind fun d μ1 => (u ρ μ1).bind fun k μ2 => (v ρ μ2).bind fun l μ3 => match seqOf ns μ3 d, seqOf ns μ3 k, seqOf ns μ3 l with
  | some xs, some ys, some zs => .ok (nxZ3 ns d k l, (zip3 xs ys zs).length) μ3
  | _, _, _ => .bad
end
end Ev

end
section
set_option Elab.async false
set_option linter.all false
set_option maxRecDepth 100000
set_option maxHeartbeats 2000000
namespace Lrv
open PySem PySem.Spec PyProof.Rows L2
open Sem (wp)
theorem slot_h : Slot "list_reverseiterator" (Str.ofString "__length_hint__") "list_reverseiterator.__length_hint__" :=
  .of (owner := "list_reverseiterator") (n := "__length_hint__") (by rw [typeLookup_type, builtinLookup_eq_fast]; kernel_rfl) (by decide +kernel) (by decide +kernel) (by decide +kernel)
    (by first | exact .inl (by decide +kernel) | exact .inr (by decide +kernel)) (by rw [isSubtype_type]; kernel_rfl)
theorem no_len : typeLookup (.type "list_reverseiterator") "__len__" = pure none := by rw [typeLookup_type, builtinLookup_eq_fast]; kernel_rfl
theorem sid : splitId "list_reverseiterator.__length_hint__" = some ("list_reverseiterator", "__length_hint__") := by kernel_rfl
theorem sub_self : isSubtype (.type "list_reverseiterator") (.type "list_reverseiterator") = pure true := by rw [isSubtype_type]; kernel_rfl
section
variable {prog : Program} {w : World} {A : Around} {E : Value → Shared → Prop} {s : Shared}
theorem hint {r l : Addr} {items : Array Value} {Q : Bool → Shared → Prop} (hr : s.heap.IsRevIter r l ((items.size : Int) - 1)) (hl : s.heap.IsList l items) (hz : items.size ≤ sizeLine)
    (h : ∀ b tk, Q b { s with toks := tk }) : wpAny (model prog w) A (Builtin.List.listLengthHint (.ref r)) Q E s := by
  have hT : s.TypeIs (.ref r) "list_reverseiterator" := hr.typeIs
  have s63 : sizeLine < 2 ^ 63 := by rw [sizeLine_eq]; decide
  unfold Builtin.List.listLengthHint
  refine wpAny_bind (wpAny_specialOf hT no_len ?_)
  show wpAny _ _ (specialOf (Value.ref r) (Str.ofString "__length_hint__") >>= _) _ _ _
  refine wpAny_bind (wpAny_specialOf hT slot_h.lookup ?_)
  simp only [sid]
  refine wpAny_bind (wpAny_isInstance (T := "list_reverseiterator") (b := true) hT sub_self ?_)
  simp only [Bool.not_true, Bool.false_eq_true, if_false]
  split
  · have e : (Value.builtin "list_reverseiterator.__length_hint__" == Value.builtin "range_iterator.__length_hint__") = false := by decide
    simp only [e, Bool.false_eq_true, if_false]
    exact wpAny_pure (h _ _)
  · rename_i hc
    exact absurd (by decide +kernel) hc
theorem extend_rev {R : Result → Shared → Prop} {r l : Addr} {items : Array Value} (hh : A.handled = none) (hr : s.heap.IsRevIter r l ((items.size : Int) - 1)) (hl : s.heap.IsList l items) (hlr : l ≠ r)
    (hz : items.size ≤ sizeLine) (S : Addr) (hSr : S ≠ r) (hSl : S ≠ l) (res : Value) (c₀ : Nat) (hS : s.heap.get? S = some { cls := .type "list", data := .seq #[] c₀ })
    (hR : ∀ h' tk acc' c', (∀ b o, b ≠ S → b ≠ r → s.heap.get? b = some o → h'.get? b = some o) → h'.get? S = some { cls := .type "list", dict := none, data := .seq acc' c', slots := #[] } →
      ItemsOf (fun i v => items[items.size - 1 - i]? = some v) acc' items.size → R (.ok (.ret res)) { s with heap := h', toks := tk }) :
    wpAny (model prog w) A.in1 (Builtin.List.listExtendWith (.ref S) (.ref r) res)
      (fun fin s' => match fin with | .done f => R (.ok f) s' | .again c' => c'.quiet = true ∧ codeAny (model prog w) A c' R s') (fun e s' => R (.error e) s') s := by
  have hSf : S ∉ [r, l] := fun hm => by
    rcases List.mem_cons.mp hm with e | hm
    · exact hSr e
    · exact hSl (List.mem_singleton.mp hm)
  have W := (Walks.listRev (prog := prog) (w := w) (A := A.in1) hh r l hlr items).toS
  have key : ∀ (h : Heap) (c₁ tk : Nat), h.IsRevIter r l ((items.size : Int) - 1) → h.IsList l items → (∀ b o, b ≠ S → s.heap.get? b = some o → h.get? b = some o) →
      h.get? S = some { cls := .type "list", data := .seq #[] c₁ } → codeAny (model prog w) A (.builtin "list.extend.loop" ⟨[.ref S, .ref r, res], []⟩) R { s with heap := h, toks := tk } := by
    intro h c₁ tk hit hil hk hS₁
    refine codeAny_extend_loopS W hz S hSf res items.size 0 _ #[] c₁ rfl (Nat.zero_le _) ⟨Nat.zero_le _, by simpa using hit, hil⟩ hS₁ (ItemsOf.nil _) fun s' acc' c' hm hS' hacc => ?_
    rw [Moved.eq_with hm]
    refine hR s'.heap s'.toks acc' c' (fun b o hb hb2 e => hm.heap b o (fun hmem => ?_) (hk b o hb e)) hS' hacc
    rcases List.mem_cons.mp hmem with e' | hmem
    · exact hb e'
    · exact hb2 (List.mem_singleton.mp hmem)
  unfold Builtin.List.listExtendWith
  refine wpAny_bind (wpAny_typeOf (T := "list_reverseiterator") hr.typeIs ?_)
  have h1 : Builtin.List.listSameRef (.ref S) (.ref r) = false := by simp [Builtin.List.listSameRef, hSr]
  have h2 : (Value.type "list_reverseiterator" == Value.type "list") = false := by decide
  have h3 : (Value.type "list_reverseiterator" == Value.type "tuple") = false := by decide
  simp only [h1, h2, h3, Bool.or_false, Bool.false_eq_true, if_false]
  refine wpAny_bind (wpAny_pyIter_revIter hr ?_)
  refine wpAny_bind (wpAny_holding (hint hr hl hz fun b tk => ?_))
  refine wpAny_ite_split (fun _ => ?_) (fun _ => wpAny_pure ⟨plainId_quiet F.plain_extend_loop _, key _ c₀ _ hr hl (fun b o _ e => e) hS⟩)
  refine wpAny_bind (wpAny_rule ?_)
  refine wpAny_bind ?_
  show wpAny _ _ (updateSeq S (·.push .none) >>= fun _ => updateSeq S (·.pop)) _ _ _
  refine wpAny_bind (wpAny_updateSeq hS rfl ?_)
  have hS₂ := Heap.get?_update_self (Obj.mapSeq (·.push Value.none)) hS rfl
  refine wpAny_updateSeq (hz := by seq_fits) hS₂ rfl ?_
  have hS₃ := Heap.get?_update_self (Obj.mapSeq (·.pop)) hS₂ rfl
  refine wpAny_pure ⟨plainId_quiet F.plain_extend_loop _, key _ _ _ (hr.at fun o e => ?_) (hl.at fun o e => ?_) (fun b o hb e => ?_) hS₃⟩
  · exact (Heap.get?_update_other _ _ hSr).trans ((Heap.get?_update_other _ _ hSr).trans e)
  · exact (Heap.get?_update_other _ _ hSl).trans ((Heap.get?_update_other _ _ hSl).trans e)
  · exact (Heap.get?_update_other _ _ (Ne.symm hb)).trans ((Heap.get?_update_other _ _ (Ne.symm hb)).trans e)
theorem init_rev {R : Result → Shared → Prop} {r l : Addr} {items : Array Value} (hh : A.handled = none) (hr : s.heap.IsRevIter r l ((items.size : Int) - 1)) (hl : s.heap.IsList l items) (hlr : l ≠ r)
    (hz : items.size ≤ sizeLine) (S : Addr) (hSr : S ≠ r) (hSl : S ≠ l) (hS : s.heap.get? S = some { cls := .type "list", data := .seq #[] })
    (hR : ∀ h' tk acc' c', (∀ b o, b ≠ S → b ≠ r → s.heap.get? b = some o → h'.get? b = some o) → h'.get? S = some { cls := .type "list", dict := none, data := .seq acc' c', slots := #[] } →
      ItemsOf (fun i v => items[items.size - 1 - i]? = some v) acc' items.size → R (.ok (.ret .none)) { s with heap := h', toks := tk }) :
    wpAny (model prog w) A.in1 (Builtin.«list.__init__» ⟨[.ref S, .ref r], []⟩)
      (fun fin s' => match fin with | .done f => R (.ok f) s' | .again c' => c'.quiet = true ∧ codeAny (model prog w) A c' R s') (fun e s' => R (.error e) s') s := by
  show wpAny _ _ (do let old ← Builtin.List.listItems (.ref S); Builtin.List.listUpdate (.ref S) (fun _ => #[]); letGo old.toList.reverse; Builtin.List.listExtendWith (.ref S) (.ref r) .none) _ _ s
  refine wpAny_bind ?_
  unfold Builtin.List.listItems
  refine wpAny_bind (wpAny_seqItems hS rfl (wpAny_pure ?_))
  show wpAny _ _ (updateSeq S (fun _ => #[]) >>= fun _ => letGo (#[] : Array Value).toList.reverse >>= fun _ => Builtin.List.listExtendWith (.ref S) (.ref r) .none) _ _ s
  refine wpAny_bind (wpAny_updateSeq hS rfl ?_)
  have hS₂ := Heap.get?_update_self (Obj.mapSeq (fun _ => (#[] : Array Value))) hS rfl
  have oth : ∀ b o, b ≠ S → s.heap.get? b = some o → (s.heap.update S (Obj.mapSeq (fun _ => (#[] : Array Value)))).get? b = some o :=
    fun b o hb e => (Heap.get?_update_other _ _ (Ne.symm hb)).trans e
  refine wpAny_bind (wpAny_letGo ?_)
  refine extend_rev hh (hr.at fun o e => oth r o (Ne.symm hSr) e) (hl.at fun o e => oth l o (Ne.symm hSl) e) hlr hz S hSr hSl .none _ hS₂ fun h' tk acc' c' hk hS' hacc => ?_
  exact hR h' tk acc' c' (fun b o hb hb2 e => hk b o hb hb2 (oth b o hb e)) hS' hacc
theorem call_listrev {Q : Value → Shared → Prop} {r l : Addr} {items : Array Value} (hh : A.handled = none) (hr : s.heap.IsRevIter r l ((items.size : Int) - 1)) (hl : s.heap.IsList l items) (hlr : l ≠ r) (hz : items.size ≤ sizeLine)
    (hQ : ∀ h' tk acc' c', (∀ b o, b ≠ r → s.heap.get? b = some o → h'.get? b = some o) →
      h'.get? s.heap.objs.size = some { cls := .type "list", dict := none, data := .seq acc' c', slots := #[] } → ItemsOf (fun i v => items[items.size - 1 - i]? = some v) acc' items.size → Q (.ref s.heap.objs.size) { s with heap := h', toks := tk }) :
    wpAny (model prog w) A (call (.type "list") [.ref r]) Q E s := by
  refine callType_codes (Q₁ := fun obj s₁ => obj = .ref s.heap.objs.size ∧ s₁ = { s with heap := s.heap.push { cls := .type "list", data := .seq #[] } }) F.called_list (F.typeCall_list_1 _) F.entry_list_init
    (code_list_new _ ⟨rfl, rfl⟩) fun obj s₁ h₁ => ?_
  obtain ⟨rfl, rfl⟩ := h₁
  have hS : (s.heap.push { cls := .type "list", data := .seq #[] }).get? s.heap.objs.size = some { cls := .type "list", data := .seq #[] } := Heap.get?_push_size _ rfl
  have lr : r < s.heap.objs.size := by obtain ⟨o, e, _⟩ := hr; exact Heap.lt_size e
  have ll : l < s.heap.objs.size := by obtain ⟨o, e, _⟩ := hl; exact Heap.lt_size e
  refine ⟨⟨_, hS, rfl⟩, F.args_list_init_2 _ _, init_rev (A := A.in1) hh (hr.at fun o e => Heap.get?_push_of_some _ e) (hl.at fun o e => Heap.get?_push_of_some _ e) hlr hz _ (Nat.ne_of_gt lr) (Nat.ne_of_gt ll) hS fun h' tk acc' c' hk hS' hacc => ?_⟩
  exact ⟨rfl, hQ h' tk acc' c' (fun b o b2 e => hk b o (Nat.ne_of_lt (Heap.lt_size e)) b2 (Heap.get?_push_of_some _ e)) hS' hacc⟩
end
end Lrv

end
section
set_option Elab.async false
set_option linter.all false
set_option maxRecDepth 100000
set_option maxHeartbeats 2000000
namespace Lrv
open PySem PySem.Spec PyProof.Rows L2
open Sem (wp)
section
variable {X : Cx} {e : Expr} {pos : Pos}
def tLrev (K : PySem.W.Frag) (ta : TA) : TE := fun σ H Q => ta σ H fun us H1 => ∃ (a : Addr) (xs : List V), us = [.ref a] ∧ SqL K H1 a xs ∧ ∀ p, H1 p = none → Q (.ref p) (upd H1 p (.lst xs.reverse))
theorem rev_items {its : List Value} {acc : Array Value} (it : ItemsOf (fun i v => its.toArray[its.toArray.size - 1 - i]? = some v) acc its.toArray.size) : acc.toList = its.reverse := by
  have h1 : acc.size = its.length := by have := it.1; simpa using this
  refine List.ext_getElem? fun i => ?_
  by_cases hi : i < its.length
  · have ha : i < acc.size := by omega
    have e := it.2 i acc[i] (by simp [ha])
    rw [List.getElem?_reverse hi]
    have e2 : its[its.length - 1 - i]? = some acc[i] := by simpa using e
    rw [e2]
    simp [ha]
  · rw [List.getElem?_eq_none (by simp; omega), List.getElem?_eq_none (by simp; omega)]
theorem pe_lrev {ta : TA} {p p2 pos2 : Pos} (hc : X.calm = true) (hg : Gl X "list") (hm : X.mg "list" = none) (hg2 : Gl X "reversed") (hm2 : X.mg "reversed" = none) (ha : PA X [e] ta)
    (hs : starEach [e] X.env = [(false, eval e X.env)] := by rfl) : PE X (.Call (.Name "list" p) [.Call (.Name "reversed" p2) [e] [] pos2] [] pos) (tLrev X.K ta) := by
  intro pins s σ H Q I h
  refine wpAny_Call_Name_kw (ld_blt I hg hm (u := .type "list") (by decide +kernel) ?_)
  refine PyProof.Rows.callWith_type1 ?_ rfl rfl
  show wpAny _ _ (spliced ((false, eval (.Call (.Name "reversed" p2) [e] [] pos2) X.env) :: backTo pos [])) _ _ s
  refine Calls.spliced_cons ?_
  refine Call_ (ld_blt I hg2 hm2 boot_reversed5 (PyProof.Rows.callWith_type1 ?_ hs rfl))
  refine thn (ha pos2 pins s σ H _ I h) fun us s1 ⟨vs, H1, I1, r1, q1⟩ => ?_
  obtain ⟨a, xs, ev, hq, hQ⟩ := q1
  subst ev
  cases r1 with
  | cons r rr =>
    cases rr
    cases r
    obtain ⟨its, rv, p', hz⟩ := I1.list hq
    have la : a < s1.heap.objs.size := p'.lt
    refine call_reversed_list p'.isList ?_
    show wpAny _ _ (spliced []) _ _ _
    refine Calls.spliced_nil ?_
    have zz : (s1.heap.push (revObj a ((its.toArray.size : Int) - 1))).objs.size = s1.heap.objs.size + 1 := Heap.size_push ..
    have I2 : Inv X pins σ H1 { s1 with heap := s1.heap.push (revObj a ((its.toArray.size : Int) - 1)) } := I1.kept (t' := s1.toks) fun b o e => Heap.get?_push_of_some _ e
    refine call_listrev (l := a) (items := its.toArray) (I2.ok.hd hc) ⟨_, Heap.get?_push_size _ rfl, rfl, rfl⟩ (p'.isList.at fun o e => Heap.get?_push_of_some _ e) (Nat.ne_of_lt la) (by have := rv.length; rw [List.size_toArray]; omega) fun h' tk acc' c' kp hl it => ?_
    have hv : Vals xs.reverse acc'.toList := by rw [rev_items it]; exact rv.reverse
    refine ⟨.ref _, _, I1.laid (a := (s1.heap.push (revObj a ((its.toArray.size : Int) - 1))).objs.size) (t' := tk) (o := .lst xs.reverse) (fun b o e => kp b o (Nat.ne_of_lt (Heap.lt_size e)) (Heap.get?_push_of_some _ e)) (by rw [zz]; exact Nat.le_succ _) ?_, rfl, hQ _ (I1.hok.fresh (by rw [zz]; exact Nat.le_succ _))⟩
    have hl2 := rv.length
    exact ⟨by rw [List.length_reverse]; first | omega | (rw [hl2]; exact hz), acc'.toList, c', hv, by simpa using hl⟩
end
end Lrv
namespace Ev
open PySem PySem.Spec PyProof.Rows L2
section
variable {X : Cx} {q : Q0} {W : XW} {e : Expr} {ra : EF} {pos : Pos}
def eLrev (ns : List Int) (r : EF) : EF := fun ρ μ => (r ρ μ).bind fun l μ1 => match lstOf ns μ1 l with
  | some xs => .ok (.ob μ1.length) (μ1 ++ [.lst xs.reverse])
  | none => .bad
theorem ee_lrev {p p2 pos2 : Pos} (hc : X.calm = true) (hg : Gl X "list") (hm : X.mg "list" = none) (hg2 : Gl X "reversed") (hm2 : X.mg "reversed" = none) (he : EE X q W e ra)
    (hs : starEach [e] X.env = [(false, eval e X.env)] := by rfl) : EE X q W (.Call (.Name "list" p) [.Call (.Name "reversed" p2) [e] [] pos2] [] pos) (eLrev q.ns ra) := by
  refine ⟨PE.imp (Lrv.pe_lrev hc hg hm hg2 hm2 (pa_cons he.p pa_nil hs) hs) fun σ H Q hh => ?_⟩
  obtain ⟨ρ, μ, α, C, P⟩ := hh
  refine ⟨ρ, μ, α, C, P.bind.imp fun l μ1 α1 H1 w1 s1 P1 v rv => ?_⟩
  split at P1
  · rename_i xs hx
    obtain ⟨a, vs, rfl, q1, r1⟩ := lst_sq s1 rv hx
    refine ⟨a, vs, rfl, q1, fun p hp => ?_⟩
    obtain ⟨S2, w2, rr⟩ := new_lst s1 r1.rev hp
    exact P1.out2 w2 S2 _ rr
  · exact P1.elim
end
end Ev

end
section
set_option Elab.async false
set_option linter.all false
set_option maxRecDepth 100000
set_option maxHeartbeats 2000000
namespace Ev
open PySem PySem.Spec PyProof.Rows L2
section
variable {X : Cx} {q : Q0} {W : XW}
end
end Ev

end
section
set_option Elab.async false
set_option linter.all false
set_option maxRecDepth 100000
set_option maxHeartbeats 2000000
namespace Ev
open PySem PySem.Spec PyProof.Rows L2
section
variable {X : Cx} {q : Q0} {W : XW} {a b : Expr} {ra rb : EF} {pos : Pos}
def eLrng2 (r u : EF) : EF := fun ρ μ => (r ρ μ).bind fun d μ1 => (u ρ μ1).bind fun e μ2 => match d, e with
  | .int i, .int j => if -(2 ^ 61) ≤ i ∧ i < 2 ^ 61 ∧ j < 2 ^ 61 ∧ -(2 ^ 61) ≤ j ∧ j - i ≤ 1000000 then .ok (.ob μ2.length) (μ2 ++ [.lst ((List.range (j - i).toNat).map fun (k : Nat) => D.int (i + (k : Nat)))]) else .bad
  | _, _ => .bad
end
end Ev

end
section
set_option Elab.async false
set_option linter.all false
set_option maxRecDepth 100000
set_option maxHeartbeats 2000000
namespace Unl
open PySem PySem.Spec PyProof.Rows
open Sem (wp)
section
variable {prog : Program} {w : World} {A : Around} {E : Value → Shared → Prop} {s : Shared}
end
end Unl
namespace Ev
open PySem PySem.Spec PyProof.Rows L2
section
variable {X : Cx} {q : Q0} {W : XW} {es : List Expr} {pos : Pos}
def gU (ns : List Int) (n : Nat) (t : List D → Ro → Store → R Ro) : GF := fun d ρ μ => match lstOf ns μ d with
  | some xs => if xs.length = n then t xs ρ μ else .bad
  | none => .bad
end
end Ev

end
section
set_option Elab.async false
set_option linter.all false
set_option maxRecDepth 100000
set_option maxHeartbeats 2000000
namespace Aug
open PySem PySem.Spec PyProof.Rows
open Sem (wp)
theorem noI_tup : typeLookup (.type "tuple") (dunderI "add") = pure none := by rw [typeLookup_type, builtinLookup_eq_fast]; kernel_rfl
section
variable {prog : Program} {w : World} {A : Around} {E : Value → Shared → Prop} {s : Shared}
theorem icat {t b : Addr} {vs ws : List Value} {Q : Value → Shared → Prop} (ht : IsTup s.heap t vs.toArray) (hb : IsTup s.heap b ws.toArray) (hv : vs ≠ []) (hw : ws ≠ [])
    (h2 : Q (.ref s.heap.objs.size) { s with heap := s.heap.push { cls := .type "tuple", data := .seq (vs ++ ws).toArray } })
    (hsz : vs.length + ws.length ≤ sizeLine) : wpAny (model prog w) A (inplaceOp .Add (.ref t) (.ref b)) Q E s := by
  obtain ⟨⟨cls, dd, data, sl⟩, ho, hc, n, hd⟩ := id ht
  obtain ⟨⟨cls2, dd2, data2, sl2⟩, ho2, hc2, n2, hd2⟩ := id hb
  simp only at hc hd hc2 hd2
  subst hc hd hc2 hd2
  have e : vs.toArray ++ ws.toArray = (vs ++ ws).toArray := by simp
  refine PySem.wpAny_inplaceOp_concat ⟨_, ho, rfl⟩ ⟨_, ho2, rfl⟩ noI_tup noFill_tuple_add seq_tuple_add (call_meets PySem.F.slot_tuple_add ⟨_, ho, rfl⟩ PySem.F.entry_tuple_add (PySem.F.args_tuple_add_2 _ _)
      (tuple_addW2 t b vs.toArray ws.toArray n n2 dd dd2 sl sl2 (by simpa using hv) (by simpa using hw) (by rw [List.size_toArray, List.size_toArray]; exact hsz)) ⟨ho, ho2, ?_⟩)
  rw [e]
  exact h2
end
end Aug
namespace Ev
open PySem PySem.Spec PyProof.Rows L2
section
variable {X : Cx} {q : Q0} {W : XW} {e : Expr} {ra : EF} {pos : Pos}
def ipT (K : PySem.W.Frag) : TIp := fun x y H Q => ∃ a b xs ys, x = .ref a ∧ y = .ref b ∧ SqT K H a xs ∧ SqT K H b ys ∧ xs ≠ [] ∧ ys ≠ [] ∧ xs.length + ys.length ≤ sizeLine ∧
  ∀ p, H p = none → Q (.ref p) (upd H p (.tup (xs ++ ys)))
theorem ip_cat : PIp X .Add (ipT X.K) := by
  intro pins s σ H x y v u Q I rx ry h
  obtain ⟨a, b, xs, ys, rfl, rfl, ha, hb, hx, hy, hz, q2⟩ := h
  cases rx
  cases ry
  obtain ⟨its, r1, p1, _⟩ := I.tuple ha
  obtain ⟨its2, r2, p2, _⟩ := I.tuple hb
  refine Aug.icat p1 p2 (fun z => hx (r1.nil_iff.mp z)) (fun z => hy (r2.nil_iff.mp z)) ?_ (by rw [← r1.length, ← r2.length]; exact hz)
  refine ⟨.ref s.heap.objs.size, _, I.laid (t' := s.toks) (o := .tup (xs ++ ys)) (fun b ob q => Heap.get?_push_of_some _ q) (Nat.le_refl _) ?_, rfl, q2 _ (I.hok.fresh (Nat.le_refl _))⟩
  exact ⟨by rw [List.length_append]; exact hz, _, r1.append r2, IsTup.new _ _⟩
def sAugT (i : Nat) (r : EF) : SF := fun ρ μ => match ρ[i]? with
  | some (some (.tup xs)) => (r ρ μ).bind fun d μ1 => match d with
    | .tup ys => if 0 < xs.length ∧ 0 < ys.length ∧ xs.length + ys.length ≤ sizeLine then .ok (.nx (ρ.set i (some (.tup (xs ++ ys))))) μ1 else .bad
    | _ => .bad
  | _ => .bad
theorem es_augT {i : Nat} {x : Str} {pos' : Pos} (hN : X.N.Nodup) (hi : X.N[i]? = some x) (hx : Loc X.env.scope x) (he : EE X q W e ra) (hf : X.fn x = true ∨ X.env.scope.names.lookup x = some .local := by first | exact .inl rfl | exact .inr rfl | assumption) :
    ES X q W (.AugAssign (.Name x pos') .Add e pos) (sAugT i ra) := by
  refine ⟨PS.imp (ps_aug hN hi hx he.p ip_cat hf) fun E σ H hh => ?_⟩
  obtain ⟨ρ, μ, α, C, P⟩ := hh
  unfold sAugT at P
  split at P
  · rename_i xs hk
    obtain ⟨v, h1, h2⟩ := C.st.2 i _ hk
    cases h2 with
    | tup hs hr =>
      rename_i a1 vs1
      refine ⟨_, h1, ρ, μ, α, C, P.bind.imp fun d μ1 α1 H1 w1 s1 P1 v rv => ?_⟩
      cases d with
      | tup ys =>
        cases rv with
        | tup hs2 hr2 =>
          rename_i a2 vs2
          dsimp only at P1
          split at P1
          · rename_i hz
            have hr1 := hr.mv w1
            refine ⟨_, _, _, _, rfl, rfl, w1.tup _ _ hs, hs2, ?_, ?_, by rw [← hr1.len, ← hr2.len]; exact hz.2.2, fun p hp => ?_⟩
            · intro z; rw [z] at hr1; have := hr1.len; have := hz.1; simp_all
            · intro z; rw [z] at hr2; have := hr2.len; have := hz.2.1; simp_all
            · have w2 : Grow (gx X q) α1 H1 α1 (upd H1 p (.tup (vs1 ++ vs2))) := grow_new hp
              exact P1.out2 w2 (s1.keepN hp) _ (((C.st.grow w1).grow w2).set (.tup (.inl (.inl upd_same)) ((hr1.app hr2).mv w2)) i)
          · exact P1.elim
      | _ => exact P1.elim
  · exact P.elim
structure GTup (K : PySem.W.Frag) (mg : Str → Option Value) (x : Str) (ds : List D) : Prop where
  ex : ∃ (a : Addr) (o : Obj) (its : Array Value) (n : Nat) (xs : List V), mg x = some (.ref a) ∧ K.lookup a = some o ∧ o.cls = .type "tuple" ∧ o.data = .seq its n ∧ its.size ≤ sizeLine ∧ Vals xs its.toList ∧ ∀ (g : Gx) α H, Rvs g α H ds xs
theorem gtup_si {K : PySem.W.Frag} {mg : Str → Option Value} {x s : Str} {i : Int} {a : Addr} {od : Option Addr} {n : Nat} {sl : Array (Option Value)} {t u : Tok} (hm : mg x = some (.ref a)) (hk : K.lookup a = some ⟨.type "tuple", od, .seq #[.str s t, .int i u] n, sl⟩) : GTup K mg x [.str s, .int i] :=
  ⟨a, _, _, n, [.str s, .int i], hm, hk, rfl, rfl, by rw [sizeLine_eq]; exact (by simp : (2 : Nat) ≤ 16777216), .cons ⟨t, rfl⟩ (.cons ⟨u, rfl⟩ .nil), fun _ _ _ => .cons (.str _) (.cons (.int _) .nil)⟩
theorem ee_gtup {x : Str} {ds : List D} {pos : Pos} (hg : Gl X x) (h : GTup X.K X.mg x ds) (hd : (x == ("__debug__" : Str)) = false := by decide) : EE X q W (.Name x pos) (eC (.tup ds)) := by
  obtain ⟨a, o, its, n, xs, h1, h2, h3, h4, h5, h6, h7⟩ := h.ex
  exact ee_const (v := .ref a) (pe_glob hg h1 rfl hd) fun α H => .tup (.inr ⟨o, its, n, h2, h3, h4, h5, h6⟩) (h7 _ α H)
end
end Ev

end
section
set_option Elab.async false
set_option linter.all false
set_option maxRecDepth 100000
set_option maxHeartbeats 1000000
namespace L2
open PySem PySem.Spec PyProof.Rows
structure RoomH (k : Nat) (A : Around) : Prop where
  dp : A.depth + 3 * k + 5 < recursionLimit
  un : A.units + 16 * k + 200 < cLine
theorem RoomH.mono {j k : Nat} {A : Around} (r : RoomH k A) (h : j ≤ k) : RoomH j A := ⟨by have := r.dp; omega, by have := r.un; omega⟩
theorem RoomH.deeper {k : Nat} {A : Around} (r : RoomH (k + 1) A) (env : Env) : RoomH k (A.deeper env) :=
  ⟨by have := r.dp; show A.depth + 1 + 3 * k + 5 < _; omega, by have := r.un; show A.units + 3 + 16 * k + 200 < _; omega⟩
theorem RoomH.depth {k : Nat} {A : Around} (r : RoomH k A) : A.depth < recursionLimit := by have := r.dp; omega
theorem Room.mk' {k : Nat} {A : Around} (r : Room k A) (v : Option Value) : RoomH k (A.mark v) := ⟨r.dp, r.un⟩
structure FnOkH (P : Program) (w : World) (K : PySem.W.Frag) (mg : Str → Option Value) (base : Heap) (CX : CXT) (k : Nat) (f : Addr) (fd : FuncData) (ps : List Str) (sp : Sp) : Prop where
  len : ∀ vs H Q E, sp vs H Q E → vs.length = ps.length
  run : ∀ (A : Around) (outer : List Env) (s : Shared) (H : Hp) (args : Args) (us : List Value) (vs : List V) (Q : VK) (E : XK), RoomH k A → Env0 P w K mg base A outer s H → BindsTo s fd args (ps.zip us) → Vals vs us → sp vs H Q E →
    codeAny (model P w) A (.call (.ref f) args) (CR CX outer P w H s Q E) s
section
variable {X : Cx} {CX : CXT} {k : Nat} {f C : Addr} {fd : FuncData} {ps : List Str} {sp : Sp} {dvs : List V} {ds : List Value} {E : XK} {x m : Str} {p pos apos : Pos} {e o : Expr} {es : List Expr} {ta : TE} {t : TA}
theorem run_fnH {pins : List (Addr × Obj)} {σ : St} {H : Hp} {s : Shared} {Q : VK} {us : List Value} {vs : List V} (F : FnOkH X.prog X.w X.K X.mg X.base CX k f fd ps sp) (hr : RoomH k X.A) (hb : Binds X.K fd ps ds) (hd : Vals dvs ds) (hx : Passes CX X E)
    (I : Inv X pins σ H s) (r : Vals vs us) (h : sp (vs ++ dvs) H Q E) : wpAny (model X.prog X.w) X.A (call (.ref f) us) (EP X pins σ Q) X.xe s := by
  have r2 : Vals (vs ++ dvs) (us ++ ds) := r.append hd
  have hl : (us ++ ds).length = ps.length := by rw [← r2.length]; exact F.len _ _ _ _ h
  refine wpAny_call (codeAny_mono (F.run X.A X.stack s H ⟨us, []⟩ (us ++ ds) (vs ++ dvs) Q E hr I.env0 (hb s us I.kIn hl) r2 h) fun r s' hq => ?_)
  cases r with
  | error e => exact hx pins σ H s e s' I hq
  | ok fl =>
    cases fl with
    | ret u => exact I.after hq
    | next => exact False.elim hq
    | brk => exact False.elim hq
    | cont => exact False.elim hq
theorem pe_callH (F : FnOkH X.prog X.w X.K X.mg X.base CX k f fd ps sp) (hr : RoomH k X.A) (hg : Gl X x) (hm : X.mg x = some (.ref f)) (hk : PySem.W.keepIn X.K (.ref f) = true) (hb : Binds X.K fd ps ds) (hd : Vals dvs ds) (hx : Passes CX X E)
    (ha : PA X (e :: es) t) (hdb : (x == ("__debug__" : Str)) = false := by decide) (he : starEach (e :: es) X.env = (false, eval e X.env) :: starEach es X.env := by rfl) (hpl : (backTo pos (starEach es X.env)).any (·.1) = false := by rfl) :
    PE X (.Call (.Name x p) (e :: es) [] pos) (tCall sp dvs E t) := by
  intro pins s σ H Q I h
  refine wpAny_Call_Name_kw (ld_glob I hg hm ?_ hdb)
  refine PySem.W.callWith_K (h₀ := X.base) I.ok.mod.kin hk (thn (ha pos pins s σ H _ I h) fun us s1 ⟨vs, H1, I1, r, q⟩ => ⟨I1.kIn, ?_⟩) he hpl
  exact run_fnH F hr hb hd hx I1 r q
end
abbrev cxH (CX : CXT) (P : Program) (w : World) (K : PySem.W.Frag) (mg : Str → Option Value) (base : Heap) (N : List Str) (qual : Str) (scope : Scope) (f : Addr) (cd : Value) (A : Around) (outer : List Env) (s : Shared) (H : Hp) (E : XK) : Cx :=
  { cxOf CX P w K mg base N qual scope f cd A outer s H E with calm := false }
theorem inv_startH {CX : CXT} {P : Program} {w : World} {K : PySem.W.Frag} {mg : Str → Option Value} {base : Heap} {N ps : List Str} {qual : Str} {scope : Scope} {f : Addr} {cd : Value} {A : Around} {outer : List Env} {s s1 : Shared} {H : Hp} {E : XK} {us : List Value} {vs : List V}
    (S : FnScope N ps scope) (e0 : Env0 P w K mg base A outer s H) (hl : vs.length = ps.length) (r : Vals vs us)
    (x : InCallC s s.heap.objs.size (bindL (envOfC qual scope s.heap.objs.size f cd).kindOf (ps.zip us) fun _ => none) (cellsFrom (s.heap.objs.size + 1) scope.names []) (bindC (envOfC qual scope s.heap.objs.size f cd).kindOf (ps.zip us) fun _ => none) s1) :
    Inv (cxH CX P w K mg base N qual scope f cd A outer s H E) [] (start N vs) H s1 := by
  have hpl : ps.length ≤ N.length := by have := congrArg List.length S.pre; rw [List.length_take] at this; omega
  obtain ⟨h1, tk, rfl, hk⟩ := x.done
  have noA : ∀ b : Addr, b ∉ (cxH CX P w K mg base N qual scope f cd A outer s H E).ex := fun b z => absurd (show b ∈ ([] : List Addr) from z) (by simp)
  refine ⟨⟨e0.mod, S.kind, rfl, rfl, Nat.le_refl _, fun y z c h1 h2 => ?_, fun y hy => ?_, fun y c _ h => ?_, fun h => (by cases h), Around.frames_deeper e0.frames, .inr ⟨rfl, rfl⟩, fun b z => absurd z (noA b), e0.bs, e0.bsz, fun b _ _ => noA b, fun b z => absurd z (noA b), e0.funs, e0.frf⟩,
    rfl, e0.bare, Un.kept hk, ⟨_, x.toInCall.ns, fun i y v h1 h2 h3 => ?_⟩, fun y c h => ⟨_, x.cell y c h⟩, e0.hok.fresh (Nat.le_refl _), fun y c h => ?_, fun p hp => absurd (show p ∈ ([] : List (Addr × Obj)) from hp) (by simp), e0.hok.kept hk, ?_⟩
  · exact name_of_addr x.apart (PySem.mem_of_lookup h1) (PySem.mem_of_lookup h2)
  · have hy : scope.names.lookup y = some .cell ∨ scope.names.lookup y = some .free := hy
    rcases hy with hy | hy
    · exact cell_has hy
    · exact absurd rfl (S.nofree _ (PySem.mem_of_lookup hy))
  · exact Nat.le_of_lt (x.above y c (PySem.mem_of_lookup h))
  · have hi : i < vs.length := by
      unfold start at h2
      by_cases hi : i < vs.length
      · exact hi
      · rw [List.getElem?_append_right (by simpa using hi)] at h2
        rw [List.getElem?_replicate] at h2
        split at h2 <;> cases h2
    have ha : vs[i]? = some v := by
      unfold start at h2
      rw [List.getElem?_append_left (by simpa using hi), List.getElem?_map] at h2
      cases e : vs[i]? with
      | none => rw [e] at h2; cases h2
      | some a => rw [e] at h2; cases h2; rfl
    obtain ⟨u, hu, rv⟩ := r.get ha
    have hp : ps[i]? = some y := by
      rw [← S.pre, List.getElem?_take_of_lt (by omega)]; exact h1
    have ndP : ps.Nodup := by rw [← S.pre]; exact S.nd.sublist (List.take_sublist _ _)
    refine ⟨u, rv, ?_⟩
    rcases S.par y (List.mem_of_getElem? hp) with k | k
    · exact .inl ⟨k, bindL_get ndP hp hu k⟩
    · obtain ⟨c, e⟩ := cell_has (n := s.heap.objs.size + 1) k
      refine .inr ⟨.inl k, c, e, ?_⟩
      have q := x.cell y c e
      rw [bindC_get ndP hp hu (by show scope.names.lookup y ≠ _; rw [k]; decide)] at q
      exact q
  · exact e0.hok.fresh (Nat.le_of_lt (x.above y c (PySem.mem_of_lookup h)))
  · unfold start
    show _ = N.length
    rw [List.length_append, List.length_map, List.length_replicate]
    omega
theorem fn_ofH {CX : CXT} {P : Program} {w : World} {K : PySem.W.Frag} {mg : Str → Option Value} {base : Heap} {k : Nat} {f : Addr} {name qual : Str} {params : Arguments} {body : List Stmt} {scope : Scope} {dV kV doc pm cdv ct oc : Value} {an od : Option Addr}
    {osl : Array (Option Value)} {N ps : List Str} {sp : Sp} (lk : K.lookup f = some ⟨oc, od, .func (PySem.W.fnOf name qual params body scope dV kV doc pm an cdv ct), osl⟩) (hcd : PySem.W.codeIn K cdv qual = true) (S : FnScope N ps scope)
    (len : ∀ vs H Q E, sp vs H Q E → vs.length = ps.length)
    (hbody : ∀ (A : Around) (outer : List Env) (s : Shared) (H : Hp) (vs : List V) (Q : VK) (E : XK), RoomH k (A.deeper (envOfC qual scope s.heap.objs.size f cdv)) → sp vs H Q E →
      ∃ t, PSs (cxH CX P w K mg base N qual scope f cdv A outer s H E) body t ∧ t { nx := fun _ H' => Q .non H', rt := Q } (start N vs) H) :
    FnOkH P w K mg base CX (k + 1) f (PySem.W.fnOf name qual params body scope dV kV doc pm an cdv ct) ps sp := by
  refine ⟨len, fun A outer s H args us vs Q E hr e0 hb r hsp => ?_⟩
  have hl := len _ _ _ _ hsp
  have KX : K.In s.heap := e0.mod.kin.keeps fun b o e => (e0.bs b o e).1
  have lim : s.heap.NoLimit := e0.mod.nolimit.keeps fun b o e => (e0.bs b o e).1
  have hkind : ∀ y ∈ ps.zip us, scope.names.lookup y.1 = some .local ∨ (scope.names.lookup y.1 = some .cell ∧ ((cellsFrom (s.heap.objs.size + 1) scope.names []).lookup y.1).isSome = true) := fun ⟨n, v⟩ hy => by
    rcases S.par n (List.of_mem_zip hy).1 with q | q
    · exact .inl q
    · exact .inr ⟨q, PySem.W.cellsFrom_some _ _ _ (.inl q)⟩
  refine codeAny_call_function hr.depth (KX _ _ lk) rfl S.co S.gen rfl (PySem.W.codeRec_of KX hcd) (hb _ _ _ _ ?_)
  refine wpAny_newFunctionEnv_cells S.kind hkind fun env he s1 x => ?_
  subst he
  refine ⟨lim.keeps x.toInCall.keep, codeAny_func ?_⟩
  obtain ⟨t, ht, hq⟩ := hbody A outer s H vs Q E (hr.deeper _) hsp
  have I : Inv (cxH CX P w K mg base N qual scope f cdv A outer s H E) [] (start N vs) H s1 := inv_startH S e0 hl r x
  refine wpAny_mono (ht [] s1 (start N vs) H _ I hq) (fun fl s' hs => ?_) fun e s' hs => hs
  have fin : ∀ {σ' : St} {H' : Hp} {v : V} {u : Value}, Inv (cxH CX P w K mg base N qual scope f cdv A outer s H E) [] σ' H' s' → RelV v u → Q v H' → CE outer P w H s Q u s' :=
    fun {σ' H' v u} J rv q => ⟨v, H', J.os, J.bare, J.base, J.hok, rv, q⟩
  cases fl with
  | ret u =>
    obtain ⟨v, σ', H', J, rv, q⟩ := hs
    exact fin J rv q
  | next =>
    obtain ⟨σ', H', J, q⟩ := hs
    exact fin (v := V.non) (u := Value.none) J rfl q
  | brk =>
    obtain ⟨_, _, _, q⟩ := hs
    exact False.elim q
  | cont =>
    obtain ⟨_, _, _, q⟩ := hs
    exact False.elim q
section
variable {X : Cx}
def rCountL (K : PySem.W.Frag) : V → List V → Hp → VK → Prop := fun x xs H Q => ∃ (a : Addr) (ys : List V) (y : V), x = V.ref a ∧ xs = [y] ∧ SqL K H a ys ∧ flatV y = true ∧ ys.all flatV = true ∧ Q (.int (ys.countP (fun z => eqV z y) : Nat)) H
theorem count_rel {y : V} : ∀ {ys : List V} {us : List Value}, Vals ys us → ys.all flatV = true → us.countP (eqU y) = ys.countP fun z => eqV z y
  | _, _, .nil, _ => rfl
  | z :: ys, u :: us, .cons r t, f => by
    rw [List.all_cons, Bool.and_eq_true] at f
    rw [List.countP_cons, List.countP_cons, count_rel t f.2, eqU_of r f.1]
theorem mt_countL : MtR X "list.count" (rCountL X.K) := by
  intro pins s σ H x xs v us Q I rx rxs h
  obtain ⟨a, ys, y, rfl, rfl, hs, fy, fys, q⟩ := h
  cases rx
  cases rxs with
  | cons ry rt =>
    rename_i uy ut
    cases rt
    obtain ⟨its, rv, ⟨⟨cls, dd, data, sl⟩, n, ho, hc, hdn, hd⟩, hlen⟩ := I.list hs
    simp only at hc hd
    subst hc hd
    refine call_meets PySem.F.slot_list_count ⟨_, ho, rfl⟩ PySem.F.entry_list_count (PySem.F.args_list_count_2 _ _)
      (SeqAt.list_countAt a its.toArray n dd sl uy (eqU y)) ⟨ho, fun u' hu' => mem_eqAt ry fy rv fys u' (by simpa using hu'), ?_⟩
    rw [show its.toArray.toList = its from rfl, count_rel rv fys]
    exact ⟨.int (ys.countP fun z => eqV z y : Nat), H, I.tok _, ⟨_, rfl⟩, q⟩
end
end L2
namespace Ev
open PySem PySem.Spec PyProof.Rows L2
section
variable {X : Cx} {q : Q0} {W : XW} {e : Expr} {es : List Expr} {pos : Pos} {rs : AF}
def CallOkH (P : Program) (w : World) (K : PySem.W.Frag) (mg : Str → Option Value) (base : Heap) (q : Q0) (k : Nat) (x : Str) (f : Fn) : Prop :=
  ∃ (a : Addr) (fd : FuncData) (ps : List Str), mg x = some (.ref a) ∧ PySem.W.keepIn K (.ref a) = true ∧ Binds K fd ps [] ∧ FnOkH P w K mg base CX0 k a fd ps (spE ⟨K, mg, q.a0, q.ns, q.tb⟩ W0 f)
structure FOkH (X : Cx) (q : Q0) (W : XW) (k : Nat) (x : Str) (f : Fn) : Prop where
  ex : ∃ (a : Addr) (fd : FuncData) (ps : List Str), X.mg x = some (.ref a) ∧ PySem.W.keepIn X.K (.ref a) = true ∧ Binds X.K fd ps [] ∧ FnOkH X.prog X.w X.K X.mg X.base CX0 k a fd ps (spE (gx X q) W f)
theorem ee_callH {k : Nat} {x : Str} {p : Pos} {f : Fn} (F : FOkH X q W k x f) (hr : RoomH k X.A) (hg : Gl X x) (ha : EA X q W (e :: es) rs) (hdb : (x == ("__debug__" : Str)) = false := by decide)
    (he : starEach (e :: es) X.env = (false, eval e X.env) :: starEach es X.env := by rfl) (hpl : (backTo pos (starEach es X.env)).any (·.1) = false := by rfl) : EE X q W (.Call (.Name x p) (e :: es) [] pos) (eCall f rs) := by
  obtain ⟨a, fd, ps, hm, hk, hb, F⟩ := F.ex
  exact ⟨PE.imp (pe_callH F hr hg hm hk hb .nil pass0 ha.p hdb he hpl) fun σ H Q hh => call_tr hh⟩
theorem fn_okH {P : Program} {w : World} {K : PySem.W.Frag} {mg : Str → Option Value} {base : Heap} {x qual : Str} {st : Stmt} {f : Addr} {fd : FuncData} {N ps : List Str} {k : Nat} {g : Gx} {q : Q0} {body : SF} (F : Fun K x qual st f fd) (S : FnScope N ps (defScope st))
    (hg : g = ⟨K, mg, q.a0, q.ns, q.tb⟩)
    (hb : ∀ (cdv : Value) (A : Around) (outer : List Env) (s : Shared) (H : Hp) (E : XK), RoomH k (A.deeper (envOfC qual (defScope st) s.heap.objs.size f cdv)) →
      ESs (cxH CX0 P w K mg base N qual (defScope st) f cdv A outer s H E).nox q W0 (defBody st) body) : FnOkH P w K mg base CX0 (k + 1) f fd ps (spE g W0 (run ps.length N.length body)) := by
  obtain ⟨oc, od, kV, doc, pm, an, cdv, ct, osl, rfl, lk, hcd⟩ := F.ex
  refine fn_ofH lk hcd S (fun vs H Q E h => ?_) fun A outer s H vs Q E hr h => ?_
  · obtain ⟨ds, μ, α, r, S', P⟩ := h
    unfold run at P
    split at P
    · rename_i hl
      rw [← r.len]; exact hl
    · exact P.elim
  · obtain ⟨ds, μ, α, r, S', P⟩ := h
    subst hg
    refine ⟨_, (hb cdv A outer s H E hr).p.nox, ?_⟩
    unfold run at P
    split at P
    · refine ⟨_, μ, α, ⟨start_rel N r, S'⟩, P.bind.imp fun fl μ1 α1 H1 w1 s1 P1 => ?_⟩
      cases fl with
      | rt d => exact fun v rv => P1.out s1 v rv
      | nx ρ => exact fun σ _ => P1.out s1 _ .non
      | bk ρ => exact P1.elim
      | ct ρ => exact P1.elim
    · exact P.elim
theorem hu64H {A : Around} {k : Nat} (hr : RoomH k A) : A.units + 64 < cLine := by have := hr.un; omega
def mCount : D → List D → Store → R D
  | .ob i, [y], μ => match μ[i]? with
    | some (.lst xs) => if flatD y = true ∧ xs.all flatD = true then .ok (.int (xs.countP (fun z => eqF z y) : Nat)) μ else .bad
    | _ => .bad
  | _, _, _ => .bad
theorem count_rv {g : Gx} {α : List Addr} {H : Hp} {y : D} {yv : V} (r : Rv g α H y yv) (f : flatD y = true) : ∀ {ds : List D} {vs : List V}, Rvs g α H ds vs → ds.all flatD = true → vs.countP (fun z => eqV z yv) = ds.countP fun z => eqF z y
  | _, _, .nil, _ => rfl
  | d :: ds, v :: vs, .cons r1 t, h => by
    rw [List.all_cons, Bool.and_eq_true] at h
    rw [List.countP_cons, List.countP_cons, count_rv r f t h.2, eqF_rv r1 r h.1 f]
theorem m_count : MD X q W "list.count" mCount := by
  refine ⟨fun pins s σ H x xs v us Q I rx rv hh => mt_countL pins s σ H x xs v us Q I rx rv ?_⟩
  obtain ⟨d, ds, μ, α, rd, rds, S, P⟩ := hh
  unfold mCount at P
  split at P
  · rename_i i y
    split at P
    · rename_i ys e
      split at P
      · rename_i hf
        obtain ⟨a0, ha, vs, h1, h2⟩ := S.at_ i _ e
        cases rd with
        | ob e' =>
          rw [e'] at ha; cases ha
          cases rds with
          | cons r1 r2 =>
            cases r2
            rename_i yv
            refine ⟨_, vs, yv, rfl, rfl, SqL.of h1, flat_rv r1 hf.1, flats_rv h2 hf.2, ?_⟩
            rw [count_rv r1 hf.1 h2 hf.2]
            exact P.out S _ (.int _)
      · exact P.elim
    · exact P.elim
  · exact P.elim
theorem rsz_pos {i j c : Int} (hc : 1 ≤ c) : Builtin.Range.rangeSize i j c = ((if i < j then (j - i - 1) / c + 1 else 0).toNat : Nat) := by
  unfold Builtin.Range.rangeSize
  rw [if_pos (show c > 0 by omega)]
  split
  · have := Int.ediv_nonneg (show 0 ≤ j - i - 1 by omega) (show 0 ≤ c by omega)
    omega
  · rfl
theorem small_pos {i j c : Int} (hc : 1 ≤ c) (hc2 : c < 1073741824) (ha : -(2 ^ 61) ≤ i) (ha' : i < 2 ^ 61) (hb : -(2 ^ 61) ≤ j) (hb' : j < 2 ^ 61) : Builtin.Range.small i j c = true := by
  unfold Builtin.Range.small
  have e : Builtin.Range.rangeSize i j c = if i < j then (j - i - 1) / c + 1 else 0 := by unfold Builtin.Range.rangeSize; rw [if_pos (show c > 0 by omega)]
  rw [e]
  have q : i < j → 0 ≤ (j - i - 1) / c ∧ (j - i - 1) / c ≤ j - i - 1 := fun h => ⟨Int.ediv_nonneg (by omega) (by omega), Int.ediv_le_self _ (by omega)⟩
  generalize (j - i - 1) / c = z at *
  simp only [Builtin.Range.rangeFitsLong, Bool.and_eq_true, Bool.or_eq_true, decide_eq_true_eq, beq_iff_eq, show c > 0 by omega, if_true]
  by_cases h : i < j
  · have := q h; rw [if_pos h]; omega
  · rw [if_neg h]; omega
def iR3p (r u v : EF) : IF_ := fun ρ μ => (r ρ μ).bind fun d μ1 => (u ρ μ1).bind fun e μ2 => (v ρ μ2).bind fun c μ3 => match d, e, c with
  | .int i, .int j, .int c => if (-(2 ^ 61) ≤ i ∧ i < 2 ^ 61 ∧ -(2 ^ 61) ≤ j ∧ j < 2 ^ 61) ∧ 1 ≤ c ∧ c < 1073741824 then .ok ((List.range (if i < j then (j - i - 1) / c + 1 else 0).toNat).map fun (k : Nat) => D.int (i + (k : Nat) * c)) μ3 else .bad
  | _, _, _ => .bad
theorem ei_range3p {tg a b c : Expr} {ra rb rc : EF} {p : Pos} (hg : Gl X "range") (hm : X.mg "range" = none) (ha : EE X q W a ra) (hb : EE X q W b rb) (hc : EE X q W c rc) (hs : starEach [a, b, c] X.env = [(false, eval a X.env), (false, eval b X.env), (false, eval c X.env)] := by rfl) (hs2 : starEach [b, c] X.env = [(false, eval b X.env), (false, eval c X.env)] := by rfl) (hs3 : starEach [c] X.env = [(false, eval c X.env)] := by rfl) :
    EI X q W tg (.Call (.Name "range" p) [a, b, c] [] pos) (iR3p ra rb rc) := by
  refine ⟨PI.imp (pi_range3 hg hm (pa_cons ha.p (pa_cons hb.p (pa_cons hc.p pa_nil hs3) (by rw [hs2, hs3])) (by rw [hs, hs2])) (by rw [hs, hs2]) (by rw [hs2]; rfl)) fun σ H Q hh => ?_⟩
  obtain ⟨ρ, μ, α, C, P⟩ := hh
  refine ⟨ρ, μ, α, C, P.bind.imp fun d μ1 α1 H1 w1 s1 P1 v rv => ?_⟩
  refine ⟨ρ, μ1, α1, ⟨C.st.grow w1, s1⟩, P1.bind.imp fun e μ2 α2 H2 w2 s2 P2 u ru => ?_⟩
  refine ⟨ρ, μ2, α2, ⟨(C.st.grow w1).grow w2, s2⟩, P2.bind.imp fun f μ3 α3 H3 w3 s3 P3 z rz => ?_⟩
  split at P3
  · rename_i i j c
    cases rv
    cases ru
    cases rz
    split at P3
    · rename_i hj
      obtain ⟨⟨h1, h2, h3, h4⟩, h5, h6⟩ := hj
      exact ⟨i, j, c, _, rfl, ⟨by omega, by omega, small_pos h5 h6 h1 h2 h3 h4, rsz_pos h5⟩, P3.out s3 _ (items_rangeC (g := gx X q) (α0 := α3) (H0 := H3) i c _)⟩
    · exact P3.elim
  · exact P3.elim
def CDivW (_ j : Int) : Prop := 0 < j ∧ j < 18446744073709551616
theorem op_fdivW : OpR X (binaryOp .FloorDiv) (rI CDivW fun i j => .int (i / j)) := opI fun i j _ _ _ _ _ hc q => by
  have h1 : (0 : Int) < j := hc.1
  have h2 : j < 18446744073709551616 := hc.2
  refine floordiv_int (by omega) (by rw [Int.fdiv_eq_ediv_of_nonneg i (by omega)]; exact q) (.inl (PyProof.noPylong_of_log2 ?_))
  by_cases h0 : j.natAbs = 0
  · rw [h0]; decide +kernel
  · have e : (2 : Nat) ^ 64 = 18446744073709551616 := by decide +kernel
    have h64 : j.natAbs.log2 < 64 := (Nat.log2_lt h0).mpr (by rw [e]; omega)
    omega
def opDivW (d e : D) (μ : Store) : R D := match d, e with
  | .int i, .int j => if 0 < j ∧ j < 18446744073709551616 then .ok (.int (i / j)) μ else .bad
  | _, _ => .bad
theorem o_divW : O2 X q W (binaryOp .FloorDiv) opDivW := o2_intC (m := fun i j => .int (i / j)) op_fdivW (fun _ _ _ _ => .int _) fun d e μ => by
  unfold opDivW; split
  · split
    · exact .inl ⟨_, _, rfl, rfl, by assumption, rfl⟩
    · exact .inr rfl
  · exact .inr rfl
end
end Ev

end
section
set_option Elab.async false
set_option linter.all false
set_option maxRecDepth 100000
set_option maxHeartbeats 1000000
namespace Ev
open PySem PySem.Spec PyProof.Rows L2
theorem atI_at {α : Type} {xs : List α} {i : Int} (h0 : 0 ≤ i) {v : α} (h : xs[i.toNat]? = some v) : atI xs i = some v := by
  have := atI_nat h
  rwa [Int.toNat_of_nonneg h0] at this
theorem bind_ok {β γ : Type} {b : β} {μ : Store} {f : β → Store → R γ} : (R.ok b μ).bind f = f b μ := rfl
theorem CMul_r (i : Int) {j : Int} (h1 : -(2 ^ 64) < j) (h2 : j < 2 ^ 64) : CMul i j := .inr ⟨h1, h2⟩
theorem CMul_l {i : Int} (j : Int) (h1 : -(2 ^ 64) < i) (h2 : i < 2 ^ 64) : CMul i j := .inl ⟨h1, h2⟩
end Ev
namespace Ev
open PySem PySem.Spec PyProof.Rows L2
end Ev
namespace Ev
open PySem PySem.Spec PyProof.Rows L2
theorem run_rt {np n : Nat} {body : SF} {ds : List D} {μ μ' : Store} {d : D} (hl : ds.length = np) (h : body (ds.map some ++ List.replicate (n - ds.length) none) μ = .ok (.rt d) μ') : Ev.run np n body ds μ = .ok d μ' := by
  unfold Ev.run
  rw [if_pos hl, h]
  rfl
theorem sret_ok {r : EF} {ρ : Ro} {μ μ' : Store} {d : D} (h : r ρ μ = .ok d μ') : sRet r ρ μ = .ok (.rt d) μ' := by unfold sRet; rw [h]; rfl
end Ev

end
section
set_option Elab.async false
set_option linter.all false
set_option maxRecDepth 100000
set_option maxHeartbeats 1000000
namespace Ev
open PySem PySem.Spec PyProof.Rows L2
structure Ok {β : Type} (r : R β) (P : β → Store → Prop) : Prop where
  ex : ∃ b μ, r = .ok b μ ∧ P b μ
section
variable {β γ : Type} {P Q : β → Store → Prop} {ρ : Ro} {μ : Store} {ns : List Int}
theorem wOk {b : β} : Ok (R.ok b μ) P = P b μ := propext ⟨fun ⟨_, _, e, h⟩ => by cases e; exact h, fun h => ⟨_, _, rfl, h⟩⟩
theorem wBad : Ok (R.bad : R β) P = False := propext ⟨fun ⟨_, _, e, h⟩ => (by cases e), fun h => h.elim⟩
theorem wExc {e : Exc} : Ok (R.ex e μ : R β) P = False := propext ⟨fun ⟨_, _, e, h⟩ => (by cases e), fun h => h.elim⟩
theorem Ok.bind {r : R β} {f : β → Store → R γ} {P : γ → Store → Prop} : Ok (r.bind f) P = Ok r (fun b μ => Ok (f b μ) P) := by
  cases r with
  | ok b μ => rw [wOk]; rfl
  | ex e μ => rw [wExc]; exact wExc
  | bad => rw [wBad]; exact wBad
theorem Ok.mono {r : R β} (h : Ok r P) (f : ∀ b μ, P b μ → Q b μ) : Ok r Q :=
  let ⟨b, μ, e, q⟩ := h.ex; ⟨b, μ, e, f b μ q⟩
theorem Ok.of {r : R β} {b : β} {μ : Store} (e : r = .ok b μ) (h : P b μ) : Ok r P := ⟨b, μ, e, h⟩
theorem wC {d : D} {P : D → Store → Prop} : Ok (eC d ρ μ) P = P d μ := wOk
theorem wV {i : Nat} {P : D → Store → Prop} : Ok (eVar i ρ μ) P = (match ρ[i]? with | some (some d) => P d μ | _ => False) := by
  unfold eVar; split <;> simp_all [wOk, wBad]
theorem wBin {h : D → D → Store → R D} {a b : EF} {P : D → Store → Prop} : Ok (eBin h a b ρ μ) P = Ok (a ρ μ) fun d μ1 => Ok (b ρ μ1) fun e μ2 => Ok (h d e μ2) P := by
  unfold eBin; rw [Ok.bind]; congr; funext d μ1; rw [Ok.bind]
theorem wACons {a : EF} {r : AF} {P : List D → Store → Prop} : Ok (aCons a r ρ μ) P = Ok (a ρ μ) fun d μ1 => Ok (r ρ μ1) fun ds μ2 => P (d :: ds) μ2 := by
  unfold aCons; rw [Ok.bind]; congr; funext d μ1; rw [Ok.bind]; congr; funext ds μ2; exact wOk
theorem wANil {P : List D → Store → Prop} : Ok (aNil ρ μ) P = P [] μ := wOk
theorem wBi {h : List D → Store → R D} {r : AF} {P : D → Store → Prop} : Ok (eBi h r ρ μ) P = Ok (r ρ μ) fun ds μ1 => Ok (h ds μ1) P := by unfold eBi; rw [Ok.bind]
theorem wCall {f : Fn} {r : AF} {P : D → Store → Prop} : Ok (eCall f r ρ μ) P = Ok (r ρ μ) fun ds μ1 => Ok (f ds μ1) P := by unfold eCall; rw [Ok.bind]
theorem wTup {r : AF} {P : D → Store → Prop} : Ok (eTup r ρ μ) P = Ok (r ρ μ) fun ds μ1 => Ok (mkTup ds μ1) P := by unfold eTup; rw [Ok.bind]
theorem wLst {r : AF} {P : D → Store → Prop} : Ok (eLst r ρ μ) P = Ok (r ρ μ) fun ds μ1 => Ok (mkLst ds μ1) P := by unfold eLst; rw [Ok.bind]
theorem mkTup_s {ds : List D} (h : ds.length ≤ 1000000) : mkTup ds μ = .ok (.tup ds) μ := by unfold mkTup; rw [if_pos (by rw [sizeLine_eq]; omega)]
theorem mkLst_s {ds : List D} (h : ds.length ≤ 1000000) : mkLst ds μ = .ok (.ob μ.length) (μ ++ [.lst ds]) := by unfold mkLst; rw [if_pos (by rw [sizeLine_eq]; omega)]
theorem wB1 {r : EF} {P : Bool → Store → Prop} : Ok (tB1 r ρ μ) P = Ok (r ρ μ) fun d μ1 => (match d with | .bl b => P b μ1 | _ => False) := by
  unfold tB1; rw [Ok.bind]; congr; funext d μ1; cases d <;> first | exact wOk | exact wBad
theorem wNot {t : TF} {P : Bool → Store → Prop} : Ok (tNotF t ρ μ) P = Ok (t ρ μ) fun b μ1 => P (!b) μ1 := by unfold tNotF; rw [Ok.bind]; congr; funext b μ1; exact wOk
theorem wOr {t u : TF} {P : Bool → Store → Prop} : Ok (tOrF t u ρ μ) P = Ok (t ρ μ) fun b μ1 => (b = true → P true μ1) ∧ (b = false → Ok (u ρ μ1) P) := by
  unfold tOrF; rw [Ok.bind]; congr; funext b μ1; cases b <;> simp [wOk]
theorem wAnd {t u : TF} {P : Bool → Store → Prop} : Ok (tAndF t u ρ μ) P = Ok (t ρ μ) fun b μ1 => (b = true → Ok (u ρ μ1) P) ∧ (b = false → P false μ1) := by
  unfold tAndF; rw [Ok.bind]; congr; funext b μ1; cases b <;> simp [wOk]
theorem wTru {r : EF} {P : Bool → Store → Prop} : Ok (tTru ns r ρ μ) P = Ok (r ρ μ) fun d μ1 => (match truD ns μ1 d with | some b => P b μ1 | none => False) := by
  unfold tTru; rw [Ok.bind]; congr; funext d μ1; cases truD ns μ1 d <;> first | exact wOk | exact wBad
theorem wEAnd {a b : EF} {P : D → Store → Prop} : Ok (eAnd a b ρ μ) P = Ok (a ρ μ) fun d μ1 => (match d with | .bl c => (c = true → Ok (b ρ μ1) P) ∧ (c = false → P (.bl false) μ1) | _ => False) := by
  unfold eAnd; rw [Ok.bind]; congr; funext d μ1
  cases d with
  | bl c => cases c <;> simp [wOk]
  | _ => exact wBad
theorem wENot {a : EF} {P : D → Store → Prop} : Ok (eNotB a ρ μ) P = Ok (a ρ μ) fun d μ1 => (match d with | .bl b => P (.bl (!b)) μ1 | _ => False) := by
  unfold eNotB; rw [Ok.bind]; congr; funext d μ1; cases d <;> first | exact wOk | exact wBad
theorem wChain {h h' : D → D → Store → R D} {a b c : EF} {P : D → Store → Prop} : Ok (eChain h h' a b c ρ μ) P = Ok (a ρ μ) fun d μ1 => Ok (b ρ μ1) fun e μ2 => Ok (h d e μ2) fun z μ3 => (match z with | .bl k => (k = true → Ok (c ρ μ3) fun g μ4 => Ok (h' e g μ4) P) ∧ (k = false → P (.bl false) μ3) | _ => False) := by
  unfold eChain; rw [Ok.bind]; congr; funext d μ1; rw [Ok.bind]; congr; funext e μ2; rw [Ok.bind]; congr; funext z μ3
  cases z with
  | bl k =>
    cases k with
    | true => show Ok ((c ρ μ3).bind _) P = _; rw [Ok.bind]; simp
    | false => simp [wOk]
  | _ => exact wBad
theorem wSeq {r u : SF} {P : Fl → Store → Prop} : Ok (sSeq r u ρ μ) P = Ok (r ρ μ) fun f μ1 => (match f with | .nx ρ1 => Ok (u ρ1 μ1) P | g => P g μ1) := by
  unfold sSeq; rw [Ok.bind]; congr; funext f μ1; cases f <;> first | rfl | exact wOk | exact wBad
theorem wIf {t : TF} {r u : SF} {P : Fl → Store → Prop} : Ok (sIf t r u ρ μ) P = Ok (t ρ μ) fun b μ1 => (b = true → Ok (r ρ μ1) P) ∧ (b = false → Ok (u ρ μ1) P) := by
  unfold sIf; rw [Ok.bind]; congr; funext b μ1; cases b <;> simp
theorem wAsg {r : EF} {g : GF} {P : Fl → Store → Prop} : Ok (sAsg r g ρ μ) P = Ok (r ρ μ) fun d μ1 => Ok (g d ρ μ1) fun ρ1 μ2 => P (.nx ρ1) μ2 := by
  unfold sAsg; rw [Ok.bind]; congr; funext d μ1; rw [Ok.bind]; congr; funext ds μ2; exact wOk
theorem wGN {i : Nat} {d : D} {P : Ro → Store → Prop} : Ok (gN i d ρ μ) P = P (ρ.set i (some d)) μ := wOk
theorem wRet {r : EF} {P : Fl → Store → Prop} : Ok (sRet r ρ μ) P = Ok (r ρ μ) fun d μ1 => P (.rt d) μ1 := by unfold sRet; rw [Ok.bind]; congr; funext d μ1; exact wOk
theorem wNx {P : Fl → Store → Prop} : Ok (sNext ρ μ) P = P (.nx ρ) μ := wOk
theorem wDrop {r : EF} {P : Fl → Store → Prop} : Ok (sDrop r ρ μ) P = Ok (r ρ μ) fun _ μ1 => P (.nx ρ) μ1 := by unfold sDrop; rw [Ok.bind]; congr; funext d μ1; exact wOk
theorem wRun {np n : Nat} {body : SF} {ds : List D} {P : D → Store → Prop} (hl : ds.length = np) : Ok (Ev.run np n body ds μ) P = Ok (body (ds.map some ++ List.replicate (n - ds.length) none) μ) fun f μ1 => (match f with | .rt d => P d μ1 | .nx _ => P .non μ1 | _ => False) := by
  unfold Ev.run; rw [if_pos hl, Ok.bind]; congr; funext f μ1; cases f <;> first | rfl | exact wOk | exact wBad
theorem wAdd {i j : Int} {P : D → Store → Prop} : Ok (opAdd (.int i) (.int j) μ) P = P (.int (i + j)) μ := wOk
theorem wSub {i j : Int} {P : D → Store → Prop} : Ok (opSub (.int i) (.int j) μ) P = P (.int (i - j)) μ := wOk
theorem wCmp {p : Int → Int → Bool} {i j : Int} {P : D → Store → Prop} : Ok (opCmp p (.int i) (.int j) μ) P = P (.bl (p i j)) μ := wOk
theorem eq_int {i j : Int} : eqD ns μ (.int i) (.int j) = some (decide (i = j)) := by
  show (if SeqAt.shaped (.int i) = true ∧ SeqAt.shaped (.int j) = true then some (PyData.eqv (.int i) (.int j)) else none) = _
  rw [if_pos ⟨rfl, rfl⟩]
  congr 1
theorem wEqI {i j : Int} {P : D → Store → Prop} : Ok (opEq ns (.int i) (.int j) μ) P = P (.bl (decide (i = j))) μ := by unfold opEq; rw [eq_int]; exact wOk
theorem wNeI {i j : Int} {P : D → Store → Prop} : Ok (opNe ns (.int i) (.int j) μ) P = P (.bl (!decide (i = j))) μ := by unfold opNe; rw [eq_int]; exact wOk
theorem ok_for {it : IF_} {g : GF} {body : SF} {P : Fl → Store → Prop} {ds : List D} {μ1 : Store} (hit : it ρ μ = .ok ds μ1) (I : Nat → Ro → Store → Prop) (h0 : I 0 ρ μ1)
    (step : ∀ (i : Nat) d ρ μ, ds[i]? = some d → I i ρ μ → Ok (g d ρ μ) fun ρ1 μ1 => Ok (body ρ1 μ1) fun f μ2 => match f with | .nx ρ2 => I (i + 1) ρ2 μ2 | .ct ρ2 => I (i + 1) ρ2 μ2 | .bk ρ2 => P (.nx ρ2) μ2 | .rt d => P (.rt d) μ2)
    (fin : ∀ ρ μ, I ds.length ρ μ → P (.nx ρ) μ) : Ok (sFor it g body ρ μ) P := by
  unfold sFor
  rw [hit, bind_ok]
  have gen : ∀ (es : List D) (i : Nat) ρ μ, (∀ (k : Nat) d, es[k]? = some d → ds[i + k]? = some d) → i + es.length = ds.length → I i ρ μ → Ok (sLoop g body es ρ μ) P := by
    intro es
    induction es with
    | nil => intro i ρ μ _ hl h; exact .of rfl (fin ρ μ (by rw [← hl]; exact h))
    | cons d es ih =>
      intro i ρ μ hk hl h
      unfold sLoop
      rw [Ok.bind]
      refine (step i d ρ μ (hk 0 d rfl) h).mono fun ρ1 μ1 h1 => ?_
      rw [Ok.bind]
      refine h1.mono fun f μ2 h2 => ?_
      have nx : ∀ ρ2, I (i + 1) ρ2 μ2 → Ok (sLoop g body es ρ2 μ2) P := fun ρ2 h3 => ih (i + 1) ρ2 μ2 (fun k d' e => by have := hk (k + 1) d' (by simpa using e); rwa [show i + (k + 1) = i + 1 + k by omega] at this) (by rw [List.length_cons] at hl; omega) h3
      cases f with
      | nx ρ2 => exact nx ρ2 h2
      | ct ρ2 => exact nx ρ2 h2
      | bk ρ2 => exact .of rfl h2
      | rt d => exact .of rfl h2
  exact gen ds 0 ρ μ1 (fun k d e => by rwa [Nat.zero_add]) (Nat.zero_add _) h0
end
end Ev

end
section
set_option Elab.async false
set_option linter.all false
set_option maxRecDepth 100000
set_option maxHeartbeats 1000000
namespace Ev
open PySem PySem.Spec PyProof.Rows L2
section
variable {ns : List Int} {μ : Store} {α : Type}
theorem toPys_map (f : α → D) (g : α → PyData) (m : Nat) (h : ∀ x n, m ≤ n → toPy ns μ n (f x) = some (g x)) : ∀ (xs : List α) (n : Nat), xs.length + m + 1 ≤ n → toPys ns μ n (xs.map f) = some (xs.map g)
  | [], n, hn => by
    obtain ⟨k, rfl⟩ : ∃ k, n = k + 1 := ⟨n - 1, by omega⟩
    rfl
  | x :: xs, n, hn => by
    rw [List.length_cons] at hn
    obtain ⟨k, rfl⟩ : ∃ k, n = k + 1 := ⟨n - 1, by omega⟩
    show (match toPy ns μ k (f x), toPys ns μ k (xs.map f) with
      | some p, some ps => some (p :: ps)
      | _, _ => none) = _
    rw [h x k (by omega), toPys_map f g m h xs k (by omega)]
    rfl
theorem toPy_int {i : Int} {n : Nat} (h : 1 ≤ n) : toPy ns μ n (.int i) = some (.int i) := by
  obtain ⟨k, rfl⟩ : ∃ k, n = k + 1 := ⟨n - 1, by omega⟩
  rfl
theorem toPy_tup {xs : List D} {ps : List PyData} {n : Nat} (h : toPys ns μ n xs = some ps) : toPy ns μ (n + 1) (.tup xs) = some (.tuple ps) := by
  show (toPys ns μ n xs).map PyData.tuple = _
  rw [h]; rfl
theorem toPy_lst {i : Nat} {xs : List D} {ps : List PyData} {n : Nat} (e : μ[i]? = some (.lst xs)) (h : toPys ns μ n xs = some ps) : toPy ns μ (n + 1) (.ob i) = some (.list ps) := by
  show (match μ[i]? with
    | some (.lst xs) => (toPys ns μ n xs).map PyData.list
    | _ => none) = _
  rw [e]
  show (toPys ns μ n xs).map PyData.list = _
  rw [h]; rfl
theorem can_map {g : α → PyData} (h : ∀ x, PyData.canLay0 (g x) = true) : ∀ xs : List α, PyData.canLayAll0 (xs.map g) = true
  | [] => rfl
  | x :: xs => by
    show (PyData.canLay0 (g x) && PyData.canLayAll0 (xs.map g)) = true
    rw [h x, can_map h xs]; rfl
theorem dep_map {g : α → PyData} {m : Nat} (h : ∀ x, PyData.depth (g x) ≤ m) : ∀ xs : List α, PyData.depthAll (xs.map g) ≤ m
  | [] => Nat.zero_le _
  | x :: xs => by
    show max (PyData.depth (g x)) (PyData.depthAll (xs.map g)) ≤ m
    exact Nat.max_le.mpr ⟨h x, dep_map h xs⟩
theorem shaped_of {p : PyData} (h1 : PyData.canLay0 p = true) (h2 : PyData.depth p ≤ 64) : SeqAt.shaped p = true := by
  unfold SeqAt.shaped; rw [h1, decide_eq_true h2]; rfl
theorem eq_nil {i j : Nat} {es : List Int} (h1 : μ[i]? = some (.lst (es.map D.int))) (h2 : μ[j]? = some (.lst [])) (hl : es.length ≤ 3000) : eqD ns μ (.ob i) (.ob j) = some (es.isEmpty) := by
  unfold eqD
  rw [show fuel = 3999 + 1 from rfl, toPy_lst h1 (toPys_map D.int PyData.int 1 (fun x n h => toPy_int h) es 3999 (by omega)), toPy_lst h2 (ps := []) rfl]
  dsimp only
  have sh : SeqAt.shaped (.list (es.map PyData.int)) = true := by
    have d := dep_map (g := PyData.int) (m := 0) (fun x => Nat.le_refl _) es
    exact shaped_of (can_map (fun _ => rfl) es) (by show PyData.depthAll (es.map PyData.int) + 1 ≤ 64; omega)
  rw [if_pos ⟨sh, rfl⟩]
  congr 1
  cases es with
  | nil => rfl
  | cons x xs => rfl
def prD (p : Int × Int) : D := .tup [.int p.1, .int p.2]
def netD (w : Int) (kn : List (Int × Int)) (es : List Int) : D := .tup [.int w, .tup (kn.map prD), .tup (es.map D.int)]
end
end Ev

end
section
set_option Elab.async false
set_option linter.all false
set_option maxRecDepth 100000
set_option maxHeartbeats 1000000
namespace Ev
open PySem PySem.Spec PyProof.Rows L2
section
variable {α : Type} {β : Type}
theorem y1 {x : α} {xs : List α} : (x :: xs)[0]? = some x := rfl
theorem y2 {x : α} {xs : List α} {i : Nat} : (x :: xs)[i + 1]? = xs[i]? := List.getElem?_cons_succ
theorem y3 {x y : α} {xs : List α} : (x :: xs).set 0 y = y :: xs := rfl
theorem y4 {x y : α} {xs : List α} {i : Nat} : (x :: xs).set (i + 1) y = x :: xs.set i y := rfl
theorem y5 {x : α} {xs : List α} : (x :: xs).length = xs.length + 1 := rfl
theorem y6 : ([] : List α).length = 0 := rfl
theorem y7 {x : α} {xs : List α} {i : Nat} : (xs.set i x).length = xs.length := List.length_set
theorem y8 {xs ys : List α} : (xs ++ ys).length = xs.length + ys.length := List.length_append
theorem y9 {f : α → β} {xs : List α} : (xs.map f).length = xs.length := List.length_map ..
theorem y10 {x : α} {n : Nat} : (List.replicate n x).length = n := List.length_replicate
theorem y11 {c : Prop} [Decidable c] {a b : α} (h : c) : (if c then a else b) = a := if_pos h
theorem y12 {a b : α} : (if True then a else b) = a := if_true ..
theorem y13 {a b : α} : (if False then a else b) = b := if_false ..
theorem y14 : (!true) = false := rfl
theorem y15 : (!false) = true := rfl
theorem y16 {d : Decidable True} : @decide True d = true := decide_true ..
theorem y17 {d : Decidable False} : @decide False d = false := decide_false ..
theorem y18 {f : α → β} {x : α} : (some x).map f = some (f x) := rfl
theorem y19 {f : α → β} {xs : List α} {i : Nat} : (xs.map f)[i]? = (xs[i]?).map f := List.getElem?_map ..
theorem y20 : sizeLine = 16777216 := sizeLine_eq
theorem y21 {f : α → β} {x : α} {xs : List α} : (x :: xs).map f = f x :: xs.map f := rfl
theorem y22 {f : α → β} : ([] : List α).map f = [] := rfl
theorem y23 {x : α} {xs ys : List α} : (x :: xs) ++ ys = x :: (xs ++ ys) := rfl
theorem y24 {ys : List α} : [] ++ ys = ys := rfl
theorem y25 {b : Bool} : (true && b) = b := Bool.true_and ..
theorem y26 {b : Bool} : (b && true) = b := Bool.and_true ..
theorem y27 {b : Bool} : (false && b) = false := rfl
theorem y28 {b : Bool} : (b && false) = false := Bool.and_false ..
theorem y29 {p : Prop} : (True → p) = p := propext true_imp_iff
theorem y30 {p : Prop} : (False → p) = True := by simp
theorem y31 {p : Prop} : (p ∧ True) = p := and_true ..
theorem y32 {p : Prop} : (True ∧ p) = p := true_and ..
theorem y33 : (false = true) = False := by simp
theorem y34 : (true = false) = False := by simp
theorem y35 {n : Nat} : n - n = 0 := Nat.sub_self ..
theorem y36 {n : Nat} : 1 * n = n := Nat.one_mul ..
theorem y37 {n : Nat} : 0 + n = n := Nat.zero_add ..
theorem y38 {n : Nat} : ((n : Int)).toNat = n := Int.toNat_natCast ..
theorem y39 {xs : List α} : [].take 0 = ([] : List α) := rfl
theorem y40 {n : Nat} : (List.range n).length = n := List.length_range
theorem y41 {xs : List α} : xs.reverse.length = xs.length := List.length_reverse
end
section
variable {ns : List Int} {μ : Store}
theorem tru1 : truD ns μ .non = some false := rfl
theorem tru2 {b : Bool} : truD ns μ (.bl b) = some b := rfl
theorem tru3 {i : Int} : truD ns μ (.int i) = some (i != 0) := rfl
theorem tru5 {xs : List D} : truD ns μ (.tup xs) = some (!xs.isEmpty) := rfl
theorem tru6 {k : Nat} : truD ns μ (.ob k) = (match μ[k]? with | some (.lst xs) => some (!xs.isEmpty) | some (.dic kvs) => some (!kvs.isEmpty) | _ => none) := rfl
theorem isD1 {d : D} : isD d .non = some (match d with | .non => true | _ => false) := rfl
theorem isD2 {d : D} {b : Bool} : isD d (.bl b) = some (match d with | .bl c => c == b | _ => false) := rfl
theorem beq1 : (true == true) = true := rfl
theorem beq2 : (false == false) = true := rfl
theorem beq3 : (true == false) = false := rfl
theorem beq4 : (false == true) = false := rfl
theorem ty1 : tyN μ .non = some "NoneType" := rfl
theorem ty2 {b : Bool} : tyN μ (.bl b) = some "bool" := rfl
theorem ty3 {i : Int} : tyN μ (.int i) = some "int" := rfl
theorem ty4 {s : Str} : tyN μ (.str s) = some "str" := rfl
theorem ty5 {xs : List D} : tyN μ (.tup xs) = some "tuple" := rfl
theorem ty6 : tyN μ .scr = some "list" := rfl
theorem ty7 {k : Nat} : tyN μ (.ob k) = (match μ[k]? with | some (.lst _) => some "list" | some (.dic _) => some "dict" | _ => none) := rfl
theorem it00 : isTab "NoneType" "int" = false := by decide
theorem it01 : isTab "NoneType" "bool" = false := by decide
theorem it02 : isTab "NoneType" "str" = false := by decide
theorem it03 : isTab "NoneType" "tuple" = false := by decide
theorem it04 : isTab "NoneType" "list" = false := by decide
theorem it05 : isTab "NoneType" "dict" = false := by decide
theorem it10 : isTab "bool" "int" = true := by decide
theorem it11 : isTab "bool" "bool" = true := by decide
theorem it12 : isTab "bool" "str" = false := by decide
theorem it13 : isTab "bool" "tuple" = false := by decide
theorem it14 : isTab "bool" "list" = false := by decide
theorem it15 : isTab "bool" "dict" = false := by decide
theorem it20 : isTab "int" "int" = true := by decide
theorem it21 : isTab "int" "bool" = false := by decide
theorem it22 : isTab "int" "str" = false := by decide
theorem it23 : isTab "int" "tuple" = false := by decide
theorem it24 : isTab "int" "list" = false := by decide
theorem it25 : isTab "int" "dict" = false := by decide
theorem it30 : isTab "str" "int" = false := by decide
theorem it31 : isTab "str" "bool" = false := by decide
theorem it32 : isTab "str" "str" = true := by decide
theorem it33 : isTab "str" "tuple" = false := by decide
theorem it34 : isTab "str" "list" = false := by decide
theorem it35 : isTab "str" "dict" = false := by decide
theorem it40 : isTab "tuple" "int" = false := by decide
theorem it41 : isTab "tuple" "bool" = false := by decide
theorem it42 : isTab "tuple" "str" = false := by decide
theorem it43 : isTab "tuple" "tuple" = true := by decide
theorem it44 : isTab "tuple" "list" = false := by decide
theorem it45 : isTab "tuple" "dict" = false := by decide
theorem it50 : isTab "list" "int" = false := by decide
theorem it51 : isTab "list" "bool" = false := by decide
theorem it52 : isTab "list" "str" = false := by decide
theorem it53 : isTab "list" "tuple" = false := by decide
theorem it54 : isTab "list" "list" = true := by decide
theorem it55 : isTab "list" "dict" = false := by decide
theorem it60 : isTab "dict" "int" = false := by decide
theorem it61 : isTab "dict" "bool" = false := by decide
theorem it62 : isTab "dict" "str" = false := by decide
theorem it63 : isTab "dict" "tuple" = false := by decide
theorem it64 : isTab "dict" "list" = false := by decide
theorem it65 : isTab "dict" "dict" = true := by decide
theorem im0 : ("int" ∈ isTys) = True := eq_true (by decide)
theorem im1 : ("bool" ∈ isTys) = True := eq_true (by decide)
theorem im2 : ("str" ∈ isTys) = True := eq_true (by decide)
theorem im3 : ("tuple" ∈ isTys) = True := eq_true (by decide)
theorem im4 : ("list" ∈ isTys) = True := eq_true (by decide)
theorem im5 : ("dict" ∈ isTys) = True := eq_true (by decide)
end
section
variable {β γ : Type} {ρ : Ro} {μ μ' μ'' : Store} {ns : List Int}
theorem xSeq {r u : SF} {P : Fl → Store → Prop} : Ok (sSeq r u ρ μ) P = Ok (r ρ μ) fun f μ1 => (match f with | .nx ρ1 => Ok (u ρ1 μ1) P | .rt d => P (.rt d) μ1 | .bk ρ1 => P (.bk ρ1) μ1 | .ct ρ1 => P (.ct ρ1) μ1) := by
  rw [wSeq]; congr; funext f μ1; cases f <;> rfl
theorem xIx {i : Int} {d : D} {P : D → Store → Prop} : Ok (ixD ns d (.int i) μ) P = (match seqOf ns μ d with | some xs => (match atI xs i with | some y => P y μ | none => False) | none => False) := by
  unfold ixD; dsimp only
  cases seqOf ns μ d with
  | none => exact wBad
  | some xs =>
    dsimp only
    cases atI xs i with
    | none => exact wBad
    | some y => exact wOk
theorem seq_tup {xs : List D} : seqOf ns μ (.tup xs) = some xs := rfl
theorem seq_obj {k : Nat} : seqOf ns μ (.ob k) = (match μ[k]? with | some (.lst xs) => some xs | _ => none) := rfl
theorem lst_obj {k : Nat} : lstOf ns μ (.ob k) = (match μ[k]? with | some (.lst xs) => some xs | _ => none) := rfl
theorem xLenT {xs : List D} {P : D → Store → Prop} : Ok (bLen ns [.tup xs] μ) P = P (.int xs.length) μ := wOk
theorem xLenO {k : Nat} {P : D → Store → Prop} : Ok (bLen ns [.ob k] μ) P = (match μ[k]? with | some (.lst xs) => P (.int xs.length) μ | _ => False) := by
  rcases e : μ[k]? with _ | (_ | _ | _) <;> simp [bLen, seqOf, lstOf, e, wOk, wBad]
theorem xListT {xs : List D} {P : D → Store → Prop} : Ok (bList ns [.tup xs] μ) P = P (.ob μ.length) (μ ++ [.lst xs]) := wOk
theorem xListO {k : Nat} {P : D → Store → Prop} : Ok (bList ns [.ob k] μ) P = (match μ[k]? with | some (.lst xs) => P (.ob μ.length) (μ ++ [.lst xs]) | _ => False) := by
  rcases e : μ[k]? with _ | (_ | _ | _) <;> simp [bList, seqOf, lstOf, e, wOk, wBad]
theorem xTupleT {xs : List D} {P : D → Store → Prop} : Ok (bTuple ns [.tup xs] μ) P = P (.tup xs) μ := wOk
theorem xTupleO {k : Nat} {P : D → Store → Prop} : Ok (bTuple ns [.ob k] μ) P = (match μ[k]? with | some (.lst xs) => P (.tup xs) μ | _ => False) := by
  rcases e : μ[k]? with _ | (_ | _ | _) <;> simp [bTuple, seqOf, lstOf, e, wOk, wBad]
theorem xIntI {i : Int} {P : D → Store → Prop} : Ok (bInt [.int i] μ) P = P (.int i) μ := wOk
theorem xIntB {b : Bool} {P : D → Store → Prop} : Ok (bInt [.bl b] μ) P = P (.int (if b then 1 else 0)) μ := wOk
theorem xAbs {i : Int} {P : D → Store → Prop} : Ok (bAbs [.int i] μ) P = P (.int (if i < 0 then -i else i)) μ := wOk
theorem xMax2 {i j : Int} {P : D → Store → Prop} : Ok (bMax2 [.int i, .int j] μ) P = P (.int (max i j)) μ := by
  have e : (if j > i then j else i) = max i j := by split <;> omega
  show Ok (R.ok (.int (if j > i then j else i)) μ) P = _
  rw [e]; exact wOk
theorem xMin2 {i j : Int} {P : D → Store → Prop} : Ok (bMin2 [.int i, .int j] μ) P = P (.int (min i j)) μ := by
  have e : (if j < i then j else i) = min i j := by split <;> omega
  show Ok (R.ok (.int (if j < i then j else i)) μ) P = _
  rw [e]; exact wOk
theorem xMod {i j : Int} {P : D → Store → Prop} (h : 0 < j) : Ok (opMod (.int i) (.int j) μ) P = P (.int (i % j)) μ := by
  unfold opMod; simp only; rw [if_pos h]; exact wOk
theorem xDiv {i j : Int} {P : D → Store → Prop} (h : 0 < j) (h2 : j < 1073741824) : Ok (opDiv (.int i) (.int j) μ) P = P (.int (i / j)) μ := by
  unfold opDiv; simp only; rw [if_pos ⟨h, h2⟩]; exact wOk
theorem xMulL {i j : Int} {P : D → Store → Prop} (h : -(2 ^ 64) < i) (h2 : i < 2 ^ 64) : Ok (opMul (.int i) (.int j) μ) P = P (.int (i * j)) μ := by
  unfold opMul; simp only; rw [if_pos (.inl ⟨h, h2⟩)]; exact wOk
theorem xMulR {i j : Int} {P : D → Store → Prop} (h : -(2 ^ 64) < j) (h2 : j < 2 ^ 64) : Ok (opMul (.int i) (.int j) μ) P = P (.int (i * j)) μ := by
  unfold opMul; simp only; rw [if_pos (.inr ⟨h, h2⟩)]; exact wOk
theorem cut_to {α : Type} {xs : List α} {i : Int} (h0 : 0 ≤ i) : cutL xs none (some i) = xs.take i.toNat := by
  unfold cutL HT.sIx
  simp only [List.drop_zero, Nat.sub_zero]
  rw [if_neg (by omega)]
  by_cases h : i.toNat ≤ xs.length
  · rw [Nat.min_eq_left h]
  · rw [Nat.min_eq_right (by omega), List.take_length, List.take_of_length_le (by omega)]
theorem cut_from {α : Type} {xs : List α} {i : Int} (h0 : 0 ≤ i) : cutL xs (some i) none = xs.drop i.toNat := by
  unfold cutL HT.sIx
  simp only
  rw [if_neg (by omega)]
  by_cases h : i.toNat ≤ xs.length
  · rw [Nat.min_eq_left h, List.take_of_length_le (by rw [List.length_drop]; omega)]
  · rw [Nat.min_eq_right (by omega), Nat.sub_self, List.take_zero, List.drop_eq_nil_of_le (by omega)]
theorem cut_all {α : Type} {xs : List α} : cutL xs none none = xs := by
  unfold cutL HT.sIx; simp
theorem cut_ft {α : Type} {xs : List α} {i j : Int} (h0 : 0 ≤ i) (h1 : 0 ≤ j) : cutL xs (some i) (some j) = (xs.drop i.toNat).take (j.toNat - i.toNat) := by
  unfold cutL HT.sIx
  simp only
  rw [if_neg (by omega), if_neg (by omega)]
  apply List.ext_getElem?
  intro k
  simp only [List.getElem?_take, List.getElem?_drop]
  by_cases h : k < j.toNat - i.toNat
  · rw [if_pos h]
    by_cases h2 : k < min j.toNat xs.length - min i.toNat xs.length
    · rw [if_pos h2, Nat.min_eq_left (by omega)]
    · rw [if_neg h2, List.getElem?_eq_none (by omega)]
  · rw [if_neg h, if_neg (by omega)]
theorem cut_m1 {α : Type} {xs : List α} : cutL xs none (some (-1)) = xs.dropLast := by
  unfold cutL HT.sIx
  simp only [List.drop_zero, Nat.sub_zero]
  rw [if_pos (by omega), List.dropLast_eq_take]
  congr 1
  omega
theorem rep_flat {α : Type} (k : Nat) (x : α) : (List.replicate k [x]).flatten = List.replicate k x := by
  induction k with
  | zero => rfl
  | succ k ih => rw [List.replicate_succ, List.flatten_cons, ih]; rfl
theorem xRepT {x : D} {k : Int} {P : D → Store → Prop} (h : k ≤ 1000000) (h2 : -1000000 ≤ k) : Ok (opMul (.tup [x]) (.int k) μ) P = P (.tup (List.replicate k.toNat x)) μ := by
  unfold opMul; simp only
  rw [if_pos ⟨by omega, by omega, by rw [sizeLine_eq]; show 1 * k.toNat ≤ _; omega⟩, rep_flat]; exact wOk
theorem xRepL {i : Nat} {k : Int} {P : D → Store → Prop} (h : k ≤ 1000000) (h2 : -1000000 ≤ k) : Ok (opMul (.ob i) (.int k) μ) P = (match μ[i]? with | some (.lst xs) => (if xs.length * k.toNat ≤ 16777216 then P (.ob μ.length) (μ ++ [.lst (List.replicate k.toNat xs).flatten]) else False) | _ => False) := by
  rcases e : μ[i]? with _ | (xs | _ | _) <;> simp only [opMul, e, wBad]
  by_cases hs : xs.length * k.toNat ≤ 16777216
  · rw [if_pos ⟨by omega, by omega, by rw [sizeLine_eq]; omega⟩, if_pos hs]; exact wOk
  · rw [if_neg (fun z => hs (by have := z.2.2; rw [sizeLine_eq] at this; omega)), if_neg hs]; exact wBad
theorem xAddT {xs ys : List D} {P : D → Store → Prop} (h : xs.length + ys.length ≤ 1000000) : Ok (opAdd (.tup xs) (.tup ys) μ) P = P (.tup (xs ++ ys)) μ := by
  unfold opAdd; simp only; rw [if_pos (by rw [sizeLine_eq]; omega)]; exact wOk
theorem xAddO {i j : Nat} {P : D → Store → Prop} : Ok (opAdd (.ob i) (.ob j) μ) P = (match μ[i]?, μ[j]? with | some (.lst xs), some (.lst ys) => (if xs.length + ys.length ≤ 16777216 then P (.ob μ.length) (μ ++ [.lst (xs ++ ys)]) else False) | _, _ => False) := by
  rcases e : μ[i]? with _ | (xs | _ | _) <;> rcases e2 : μ[j]? with _ | (ys | _ | _) <;> simp only [opAdd, e, e2, wBad]
  by_cases hs : xs.length + ys.length ≤ 16777216
  · rw [if_pos (by rw [sizeLine_eq]; exact hs), if_pos hs]; exact wOk
  · rw [if_neg (by rw [sizeLine_eq]; exact hs), if_neg hs]; exact wBad
theorem xIs {neg : Bool} {d e : D} {P : D → Store → Prop} : Ok (opIs neg d e μ) P = (match isD d e with | some k => P (.bl (if neg then !k else k)) μ | none => False) := by
  unfold opIs; cases isD d e <;> first | exact wOk | exact wBad
theorem xEq {d e : D} {P : D → Store → Prop} : Ok (opEq ns d e μ) P = (match eqD ns μ d e with | some k => P (.bl k) μ | none => False) := by
  unfold opEq; cases eqD ns μ d e <;> first | exact wOk | exact wBad
theorem xNe {d e : D} {P : D → Store → Prop} : Ok (opNe ns d e μ) P = (match eqD ns μ d e with | some k => P (.bl (!k)) μ | none => False) := by
  unfold opNe; cases eqD ns μ d e <;> first | exact wOk | exact wBad
theorem xBIs {d : D} {T : String} {P : D → Store → Prop} : Ok (bIs [d, .ty T] μ) P = (match tyN μ d with | some t => (if T ∈ isTys then P (.bl (isTab t T)) μ else False) | none => False) := by
  unfold bIs; dsimp only
  cases tyN μ d with
  | none => exact wBad
  | some t =>
    dsimp only
    by_cases h : T ∈ isTys
    · rw [if_pos h, if_pos h]; exact wOk
    · rw [if_neg h, if_neg h]; exact wBad
theorem xMt {h : D → List D → Store → R D} {o : EF} {r : AF} {P : D → Store → Prop} : Ok (eMt h o r ρ μ) P = Ok (o ρ μ) fun x μ1 => (if isL μ1 x = true then Ok (r ρ μ1) fun ds μ2 => Ok (h x ds μ2) P else False) := by
  unfold eMt; rw [Ok.bind]; congr; funext x μ1; split
  · rw [Ok.bind]
  · exact wBad
theorem isL_obj {k : Nat} : isL μ (.ob k) = (match μ[k]? with | some (.lst _) => true | _ => false) := rfl
theorem xApp {i : Nat} {y : D} {P : D → Store → Prop} : Ok (mApp (.ob i) [y] μ) P = (match μ[i]? with | some (.lst xs) => (if xs.length < sizeLine then P .non (μ.set i (.lst (xs ++ [y]))) else False) | _ => False) := by
  rcases e : μ[i]? with _ | (xs | _ | _) <;> simp only [mApp, e, wBad]
  by_cases h : xs.length < sizeLine
  · rw [if_pos h, if_pos h]; exact wOk
  · rw [if_neg h, if_neg h]; exact wBad
theorem xRev {i : Nat} {P : D → Store → Prop} : Ok (mRev (.ob i) [] μ) P = (match μ[i]? with | some (.lst xs) => P .non (μ.set i (.lst xs.reverse)) | _ => False) := by
  rcases e : μ[i]? with _ | (xs | _ | _) <;> simp only [mRev, e, wBad, wOk]
theorem xSl {r : EF} {lo hi : OF} {P : D → Store → Prop} : Ok (eSl ns r lo hi ρ μ) P = Ok (r ρ μ) fun d μ1 => Ok (lo ρ μ1) fun l μ2 => Ok (hi ρ μ2) fun h μ3 => Ok (slD ns d l h μ3) P := by
  unfold eSl; rw [Ok.bind]; congr; funext d μ1; rw [Ok.bind]; congr; funext l μ2; rw [Ok.bind]
theorem xON {P : Option Int → Store → Prop} : Ok (oNone ρ μ) P = P none μ := wOk
theorem xOS {r : EF} {P : Option Int → Store → Prop} : Ok (oSome r ρ μ) P = Ok (r ρ μ) fun d μ1 => (match d with | .int i => P (some i) μ1 | _ => False) := by
  unfold oSome; rw [Ok.bind]; congr; funext d μ1; cases d <;> first | exact wOk | exact wBad
theorem xSlT {xs : List D} {l h : Option Int} {P : D → Store → Prop} : Ok (slD ns (.tup xs) l h μ) P = P (.tup (cutL xs l h)) μ := wOk
theorem xSlO {k : Nat} {l h : Option Int} {P : D → Store → Prop} : Ok (slD ns (.ob k) l h μ) P = (match μ[k]? with | some (.lst xs) => P (.ob μ.length) (μ ++ [.lst (cutL xs l h)]) | _ => False) := by
  rcases e : μ[k]? with _ | (_ | _ | _) <;> simp [slD, lstOf, e, wOk, wBad]
theorem xRevL {r : EF} {P : D → Store → Prop} : Ok (eRevL ns r ρ μ) P = Ok (r ρ μ) fun d μ1 => (match lstOf ns μ1 d with | some xs => P (.ob μ1.length) (μ1 ++ [.lst xs.reverse]) | none => False) := by
  unfold eRevL; rw [Ok.bind]; congr; funext d μ1; cases lstOf ns μ1 d <;> first | exact wOk | exact wBad
theorem xRevT {r : EF} {P : D → Store → Prop} : Ok (eRevT r ρ μ) P = Ok (r ρ μ) fun d μ1 => (match d with | .tup xs => P (.tup xs.reverse) μ1 | _ => False) := by
  unfold eRevT; rw [Ok.bind]; congr; funext d μ1; cases d <;> first | exact wOk | exact wBad
theorem xNeg {r : EF} {P : D → Store → Prop} : Ok (eNeg r ρ μ) P = Ok (r ρ μ) fun d μ1 => (match d with | .int i => P (.int (-i)) μ1 | _ => False) := by
  unfold eNeg; rw [Ok.bind]; congr; funext d μ1; cases d <;> first | exact wOk | exact wBad
theorem xMkT {ds : List D} {P : D → Store → Prop} (h : ds.length ≤ 1000000) : Ok (mkTup ds μ) P = P (.tup ds) μ := by rw [mkTup_s h, wOk]
theorem xMkL {ds : List D} {P : D → Store → Prop} (h : ds.length ≤ 1000000) : Ok (mkLst ds μ) P = P (.ob μ.length) (μ ++ [.lst ds]) := by rw [mkLst_s h, wOk]
theorem xGT {n : Nat} {t : List D → Ro → Store → R Ro} {xs : List D} {P : Ro → Store → Prop} : Ok (gT n t (.tup xs) ρ μ) P = (if xs.length = n then Ok (t xs ρ μ) P else False) := by
  unfold gT; dsimp only
  by_cases h : xs.length = n
  · rw [if_pos h, if_pos h]
  · rw [if_neg h, if_neg h]; exact wBad
theorem xGC {r : GF} {t : List D → Ro → Store → R Ro} {x : D} {xs : List D} {P : Ro → Store → Prop} : Ok (gCons' r t (x :: xs) ρ μ) P = Ok (r x ρ μ) fun ρ1 μ1 => Ok (t xs ρ1 μ1) P := by
  show Ok ((r x ρ μ).bind _) P = _; rw [Ok.bind]
theorem xGNil {P : Ro → Store → Prop} : Ok (gNil' [] ρ μ) P = P ρ μ := wOk
theorem xGIx {o i : EF} {d : D} {P : Ro → Store → Prop} : Ok (gIx o i d ρ μ) P = Ok (o ρ μ) fun od μ1 => Ok (i ρ μ1) fun id μ2 => Ok (setD od id d μ2) fun _ μ3 => P ρ μ3 := by
  unfold gIx; rw [Ok.bind]; congr; funext od μ1; rw [Ok.bind]; congr; funext id μ2; rw [Ok.bind]; congr; funext u μ3; exact wOk
theorem xSetD {k : Nat} {i : Int} {d : D} {P : Unit → Store → Prop} : Ok (setD (.ob k) (.int i) d μ) P = (match μ[k]? with | some (.lst xs) => (match ixN xs.length i with | some m => P () (μ.set k (.lst (xs.set m d))) | none => False) | _ => False) := by
  rcases e : μ[k]? with _ | (xs | _ | _) <;> simp only [setD, e, wBad]
  cases ixN xs.length i <;> first | exact wOk | exact wBad
theorem xEIf {t : TF} {a b : EF} {P : D → Store → Prop} : Ok (eIf t a b ρ μ) P = Ok (t ρ μ) fun c μ1 => (c = true → Ok (a ρ μ1) P) ∧ (c = false → Ok (b ρ μ1) P) := by
  unfold eIf; rw [Ok.bind]; congr; funext b μ1; cases b <;> simp
theorem xEOr {a b : EF} {P : D → Store → Prop} : Ok (eOr a b ρ μ) P = Ok (a ρ μ) fun d μ1 => (match d with | .bl c => (c = true → P (.bl true) μ1) ∧ (c = false → Ok (b ρ μ1) P) | _ => False) := by
  unfold eOr; rw [Ok.bind]; congr; funext d μ1
  cases d with
  | bl c => cases c <;> simp [wOk]
  | _ => exact wBad
theorem xD0 {P : D → Store → Prop} : Ok (eDic0 ρ μ) P = P (.ob μ.length) (μ ++ [MO.dic []]) := wOk
theorem xNever {P : Fl → Store → Prop} : Ok (sNever ρ μ) P = False := wBad
theorem xRetN {P : Fl → Store → Prop} : Ok (sRetN ρ μ) P = P (.rt .non) μ := wOk
theorem xBrk {P : Fl → Store → Prop} : Ok (sBreak ρ μ) P = P (.bk ρ) μ := wOk
theorem xCnt {P : Fl → Store → Prop} : Ok (sCont ρ μ) P = P (.ct ρ) μ := wOk
theorem xAug {i : Nat} {r : EF} {f : Int → Int → Int} {P : Fl → Store → Prop} : Ok (sAug i r f ρ μ) P = (match ρ[i]? with | some (some (.int k)) => (Ok (r ρ μ) fun d μ1 => (match d with | .int m => P (.nx (ρ.set i (some (.int (f k m))))) μ1 | _ => False)) | _ => False) := by
  unfold sAug
  rcases ρ[i]? with _ | (_ | d) <;> first | exact wBad | skip
  cases d <;> first | exact wBad | skip
  dsimp only
  rw [Ok.bind]; congr; funext d μ1; cases d <;> first | exact wOk | exact wBad
theorem at_nn {α : Type} {xs : List α} {i : Int} (h : 0 ≤ i) : atI xs i = xs[i.toNat]? := by
  cases e : xs[i.toNat]? with
  | some v => exact atI_at h e
  | none =>
    have hl : xs.length ≤ i.toNat := List.getElem?_eq_none_iff.mp e
    unfold atI ixN
    rw [if_pos h, if_neg (by omega)]; rfl
theorem ixN_nn {n : Nat} {i : Int} (h0 : 0 ≤ i) (h1 : i < n) : ixN n i = some i.toNat := by
  unfold ixN; rw [if_pos h0, if_pos h1]
theorem app_lt {k : Nat} {xs : Store} (h : k < μ.length) : (μ ++ xs)[k]? = μ[k]? := List.getElem?_append_left h
theorem app_eq {x : MO} {xs : Store} {k : Nat} (h : k = μ.length) : (μ ++ x :: xs)[k]? = some x := by
  subst h; rw [List.getElem?_append_right (Nat.le_refl _), Nat.sub_self]; rfl
theorem set_eq {k j : Nat} {x : MO} (h : j = k) (h2 : k < μ.length) : (μ.set j x)[k]? = some x := by
  subst h; exact List.getElem?_set_self h2
theorem set_ne {k j : Nat} {x : MO} (h : j ≠ k) : (μ.set j x)[k]? = μ[k]? := List.getElem?_set_ne h
theorem set_app {xs : Store} {x y : MO} {j : Nat} (h : j = μ.length) : (μ ++ x :: xs).set j y = μ ++ y :: xs := by
  subst h; rw [List.set_append_right _ _ (Nat.le_refl _), Nat.sub_self]; rfl
theorem lt_of_at {k : Nat} {o : MO} (h : μ[k]? = some o) : k < μ.length := (List.getElem?_eq_some_iff.mp h).1
theorem ok_run {np n : Nat} {body : SF} {ds : List D} {P : D → Store → Prop} (hl : ds.length = np) (h : Ok (body (ds.map some ++ List.replicate (n - ds.length) none) μ) fun f μ1 => (match f with | .rt d => P d μ1 | .nx _ => P .non μ1 | _ => False)) : Ok (Ev.run np n body ds μ) P := by rw [wRun hl]; exact h
structure Fr (μ μ' : Store) : Prop where
  len : μ.length ≤ μ'.length
  keep : ∀ k, k ≠ 0 → k < μ.length → μ'[k]? = μ[k]?
theorem Fr.refl : Fr μ μ := ⟨Nat.le_refl _, fun _ _ _ => rfl⟩
theorem Fr.trans (a : Fr μ μ') (b : Fr μ' μ'') : Fr μ μ'' := ⟨Nat.le_trans a.len b.len, fun k h1 h2 => (b.keep k h1 (Nat.lt_of_lt_of_le h2 a.len)).trans (a.keep k h1 h2)⟩
theorem Fr.at {k : Nat} {o : MO} (a : Fr μ μ') (hk : k ≠ 0) (h : μ[k]? = some o) : μ'[k]? = some o := (a.keep k hk (lt_of_at h)).trans h
theorem Fr.app (a : Fr μ μ') (xs : Store) : Fr μ (μ' ++ xs) := ⟨by rw [List.length_append]; exact Nat.le_trans a.len (Nat.le_add_right _ _), fun k h1 h2 => by rw [app_lt (Nat.lt_of_lt_of_le h2 a.len)]; exact a.keep k h1 h2⟩
theorem Fr.set {j : Nat} {x : MO} (a : Fr μ μ') (h : μ.length ≤ j) : Fr μ (μ'.set j x) := ⟨by rw [List.length_set]; exact a.len, fun k h1 h2 => by rw [set_ne (by omega)]; exact a.keep k h1 h2⟩
end
end Ev

end
section
set_option Elab.async false
set_option linter.all false
set_option maxRecDepth 100000
set_option maxHeartbeats 1000000
namespace Ev
open PySem PySem.Spec PyProof.Rows L2
section
variable {β γ : Type} {ρ : Ro} {μ μ' μ'' : Store} {ns : List Int}
theorem xFor {it : IF_} {g : GF} {body : SF} {P : Fl → Store → Prop} : Ok (sFor it g body ρ μ) P = Ok (it ρ μ) fun ds μ1 => Ok (sLoop g body ds ρ μ1) P := by unfold sFor; rw [Ok.bind]
theorem xR1 {r : EF} {P : List D → Store → Prop} : Ok (iR1 r ρ μ) P = Ok (r ρ μ) fun d μ1 => (match d with | .int j => (if -(2 ^ 62) ≤ j ∧ j < 2 ^ 62 then P ((List.range j.toNat).map fun (k : Nat) => D.int (k : Nat)) μ1 else False) | _ => False) := by
  unfold iR1; rw [Ok.bind]; congr; funext d μ1
  cases d <;> first | exact wBad | skip
  rename_i j
  dsimp only
  by_cases h : -(2 ^ 62) ≤ j ∧ j < 2 ^ 62
  · rw [if_pos h, if_pos h]; exact wOk
  · rw [if_neg h, if_neg h]; exact wBad
theorem xR2 {r u : EF} {P : List D → Store → Prop} : Ok (iR2 r u ρ μ) P = Ok (r ρ μ) fun d μ1 => Ok (u ρ μ1) fun e μ2 => (match d, e with | .int i, .int j => (if -(2 ^ 62) ≤ i ∧ i < 2 ^ 62 ∧ -(2 ^ 62) ≤ j ∧ j < 2 ^ 62 then P ((List.range (j - i).toNat).map fun (k : Nat) => D.int (i + (k : Nat))) μ2 else False) | _, _ => False) := by
  unfold iR2; rw [Ok.bind]; congr; funext d μ1; rw [Ok.bind]; congr; funext e μ2
  cases d <;> cases e <;> first | exact wBad | skip
  rename_i i j
  dsimp only
  by_cases h : -(2 ^ 62) ≤ i ∧ i < 2 ^ 62 ∧ -(2 ^ 62) ≤ j ∧ j < 2 ^ 62
  · rw [if_pos h, if_pos h]; exact wOk
  · rw [if_neg h, if_neg h]; exact wBad
theorem xTupF {r : EF} {P : List D → Store → Prop} : Ok (iTupF r ρ μ) P = Ok (r ρ μ) fun d μ1 => (match d with | .tup xs => P xs μ1 | _ => False) := by
  unfold iTupF; rw [Ok.bind]; congr; funext d μ1; cases d <;> first | exact wOk | exact wBad
theorem xEn {r u : EF} {P : List D → Store → Prop} : Ok (iEn r u ρ μ) P = Ok (r ρ μ) fun d μ1 => Ok (u ρ μ1) fun k μ2 => (match d, k with | .tup xs, .int j => (if -(2 ^ 62) ≤ j ∧ j < 2 ^ 62 then P (xs.mapIdx fun i x => D.tup [.int (j + (i : Nat)), x]) μ2 else False) | _, _ => False) := by
  unfold iEn; rw [Ok.bind]; congr; funext d μ1; rw [Ok.bind]; congr; funext e μ2
  cases d <;> cases e <;> first | exact wBad | skip
  rename_i xs j
  dsimp only
  by_cases h : -(2 ^ 62) ≤ j ∧ j < 2 ^ 62
  · rw [if_pos h, if_pos h]; exact wOk
  · rw [if_neg h, if_neg h]; exact wBad
theorem rngC {j : Int} {a b : Prop} (h1 : -1000000000 ≤ j) (h2 : j < 1000000000) : (if -(2 ^ 62) ≤ j ∧ j < 2 ^ 62 then a else b) = a := if_pos ⟨by omega, by omega⟩
theorem rngC2 {i j : Int} {a b : Prop} (h1 : -1000000000 ≤ i) (h2 : i < 1000000000) (h3 : -1000000000 ≤ j) (h4 : j < 1000000000) : (if -(2 ^ 62) ≤ i ∧ i < 2 ^ 62 ∧ -(2 ^ 62) ≤ j ∧ j < 2 ^ 62 then a else b) = a := if_pos ⟨by omega, by omega, by omega, by omega⟩
theorem ok_loop {g : GF} {body : SF} {P : Fl → Store → Prop} {ds : List D} (I : Nat → Ro → Store → Prop) (h0 : I 0 ρ μ)
    (step : ∀ (i : Nat) d ρ μ, ds[i]? = some d → I i ρ μ → Ok (g d ρ μ) fun ρ1 μ1 => Ok (body ρ1 μ1) fun f μ2 => match f with | .nx ρ2 => I (i + 1) ρ2 μ2 | .ct ρ2 => I (i + 1) ρ2 μ2 | .bk ρ2 => P (.nx ρ2) μ2 | .rt d => P (.rt d) μ2)
    (fin : ∀ ρ μ, I ds.length ρ μ → P (.nx ρ) μ) : Ok (sLoop g body ds ρ μ) P := by
  have := ok_for (it := fun _ m => .ok ds m) (ρ := ρ) (μ := μ) (g := g) (body := body) (P := P) rfl I h0 step fin
  rwa [xFor, wOk] at this
theorem xForL {it : EF} {g : GF} {body : SF} {P : Fl → Store → Prop} : Ok (sForL ns it g body ρ μ) P = Ok (it ρ μ) fun l μ1 => (match lstOf ns μ1 l with | some xs => Ok (sLoopL ns l xs.length g body xs.length ρ μ1) P | none => False) := by
  unfold sForL; rw [Ok.bind]; congr; funext l μ1; cases lstOf ns μ1 l <;> first | rfl | exact wBad
theorem ok_loopL {g : GF} {body : SF} {P : Fl → Store → Prop} {L : Nat} {xs : List D} (I : Nat → Ro → Store → Prop) (h0 : I 0 ρ μ) (keep : ∀ i ρ μ, I i ρ μ → μ[L]? = some (.lst xs))
    (step : ∀ (i : Nat) d ρ μ, xs[i]? = some d → I i ρ μ → Ok (g d ρ μ) fun ρ1 μ1 => Ok (body ρ1 μ1) fun f μ2 => match f with | .nx ρ2 => I (i + 1) ρ2 μ2 | .ct ρ2 => I (i + 1) ρ2 μ2 | .bk ρ2 => P (.nx ρ2) μ2 | .rt d => P (.rt d) μ2)
    (fin : ∀ ρ μ, I xs.length ρ μ → P (.nx ρ) μ) : Ok (sLoopL ns (.ob L) xs.length g body xs.length ρ μ) P := by
  have ls : ∀ m : Store, m[L]? = some (.lst xs) → lstOf ns m (.ob L) = some xs := fun m h => by rw [lst_obj, h]
  have gen : ∀ (k i : Nat) ρ μ, i + k = xs.length → I i ρ μ → Ok (sLoopL ns (.ob L) xs.length g body k ρ μ) P := by
    intro k
    induction k with
    | zero =>
      intro i ρ μ hk h
      unfold sLoopL
      simp only [ls _ (keep _ _ _ h), if_true]
      have e : i = xs.length := by omega
      rw [wOk]
      exact fin ρ μ (e ▸ h)
    | succ k ih =>
      intro i ρ μ hk h
      have hi : i < xs.length := by omega
      unfold sLoopL
      have e : xs[xs.length - (k + 1)]? = some xs[i] := by rw [show xs.length - (k + 1) = i by omega]; exact List.getElem?_eq_getElem hi
      simp only [ls _ (keep _ _ _ h), if_true, e]
      rw [Ok.bind]
      refine (step i xs[i] ρ μ (List.getElem?_eq_getElem hi) h).mono fun ρ1 μ1 h1 => ?_
      rw [Ok.bind]
      refine h1.mono fun f μ2 h2 => ?_
      cases f with
      | nx ρ2 => exact ih (i + 1) ρ2 μ2 (by omega) h2
      | ct ρ2 => exact ih (i + 1) ρ2 μ2 (by omega) h2
      | bk ρ2 => exact .of rfl h2
      | rt d => exact .of rfl h2
  exact gen xs.length 0 ρ μ (by omega) h0
theorem xNox {r : R β} {P : β → Store → Prop} : Ok r.nox P = Ok r P := by cases r <;> first | rfl | (rw [wExc]; exact wBad)
theorem xNoxF {g : Fn} {ds : List D} {P : D → Store → Prop} : Ok (Xc.noxF g ds μ) P = Ok (g ds μ) P := xNox
theorem nox_ok {b : β} {m : Store} : (R.ok b m).nox = .ok b m := rfl
theorem xTry {g : Fn} {rs : AF} {hit : Str → Bool} {i : Nat} {su : SF} {P : Fl → Store → Prop} : Ok (Xc.sTryE g rs hit i su ρ μ) P = Ok (rs ρ μ) fun ds μ1 => (match g ds μ1 with | .ok _ μ2 => P (.nx ρ) μ2 | .ex (.mk y _) μ2 => (if hit y = true then Ok (su (ρ.set i (some (.ob μ2.length))) (μ2 ++ [.exc y])) fun f μ3 => (match f with | .nx ρ3 => P (.nx (ρ3.set i none)) μ3 | _ => False) else False) | .bad => False) := by
  unfold Xc.sTryE; rw [Ok.bind, xNox]; congr; funext ds μ1
  rcases g ds μ1 with ⟨b, m⟩ | ⟨⟨y, fs⟩, m⟩ | _
  · exact wOk
  · dsimp only
    by_cases h : hit y = true
    · rw [if_pos h, if_pos h, Ok.bind, xNox]; congr; funext f μ3; cases f <;> first | exact wOk | exact wBad
    · rw [if_neg h, if_neg h]; exact wBad
  · exact wBad
theorem xIsX {tab : Str → D → Option Bool} {i : Nat} {c : D} {P : D → Store → Prop} : Ok (Xc.bIsX tab [.ob i, c] μ) P = (match μ[i]? with | some (.exc x) => (match tab x c with | some b => P (.bl b) μ | none => False) | _ => False) := by
  rcases e : μ[i]? with _ | (_ | _ | x) <;> simp only [Xc.bIsX, e, wBad]
  cases tab x c <;> first | exact wOk | exact wBad
theorem xLc {it : IG} {vs : List Nat} {tg : TgF} {tt : TF} {te : EF} {P : D → Store → Prop} : Ok (eLc it vs tg tt te ρ μ) P = Ok (it ρ μ) fun p μ1 => Ok (lcGo p.1 tg tt te (wipeR ρ vs) μ1.length p.2 0 (μ1 ++ [.lst []])) fun _ μ2 => P (.ob μ1.length) μ2 := by
  unfold eLc; rw [Ok.bind]; congr; funext p μ1; rw [Ok.bind]; congr; funext u μ2; exact wOk
theorem xIK {it : IF_} {P : NX × Nat → Store → Prop} : Ok (iK it ρ μ) P = Ok (it ρ μ) fun ds μ1 => P (nxK ds, ds.length) μ1 := by
  unfold iK; rw [Ok.bind]; congr; funext ds μ1; exact wOk
theorem xIL {r : EF} {P : NX × Nat → Store → Prop} : Ok (iL ns r ρ μ) P = Ok (r ρ μ) fun l μ1 => (match lstOf ns μ1 l with | some xs => P (nxL ns l xs.length, xs.length) μ1 | none => False) := by
  unfold iL; rw [Ok.bind]; congr; funext l μ1; cases lstOf ns μ1 l <;> first | exact wOk | exact wBad
theorem xZp {r u : EF} {P : NX × Nat → Store → Prop} : Ok (iZp ns r u ρ μ) P = Ok (r ρ μ) fun d μ1 => Ok (u ρ μ1) fun k μ2 => (match seqOf ns μ2 d, seqOf ns μ2 k with | some xs, some ys => P (nxZ ns d k, (zipD xs ys).length) μ2 | _, _ => False) := by
  unfold iZp; rw [Ok.bind]; congr; funext d μ1; rw [Ok.bind]; congr; funext k μ2
  cases seqOf ns μ2 d <;> cases seqOf ns μ2 k <;> first | exact wOk | exact wBad
theorem ok_lcG {nx : NX} {tg : TgF} {tt : TF} {te : EF} {P : Unit → Store → Prop} {n N : Nat} (ds : List D) (I : Nat → List D → Store → Prop) (hN : N = ds.length) (hz : N ≤ 1000000) (h0 : I 0 [] μ)
    (acc : ∀ i ys m, I i ys m → m[n]? = some (.lst ys) ∧ ys.length ≤ i) (hnx : ∀ i ys m, I i ys m → nx i m = some ds[i]?)
    (step : ∀ (i : Nat) d ys m, ds[i]? = some d → I i ys m → ∃ ρ2, tg d ρ = some ρ2 ∧ Ok (tt ρ2 m) fun b m2 => (b = true → Ok (te ρ2 m2) fun y m3 => m3[n]? = some (.lst ys) ∧ I (i + 1) (ys ++ [y]) (m3.set n (.lst (ys ++ [y])))) ∧ (b = false → I (i + 1) ys m2))
    (fin : ∀ ys m, I ds.length ys m → P () m) : Ok (lcGo nx tg tt te ρ n N 0 μ) P := by
  have hs : sizeLine = 16777216 := sizeLine_eq
  have gen : ∀ (k i : Nat) ys m, i + k = ds.length → I i ys m → Ok (lcGo nx tg tt te ρ n k i m) P := by
    intro k
    induction k with
    | zero =>
      intro i ys m hk h
      unfold lcGo
      rw [hnx i ys m h, List.getElem?_eq_none (by omega)]
      exact .of rfl (fin ys m (by rw [← hk]; exact h))
    | succ k ih =>
      intro i ys m hk h
      have hi : i < ds.length := by omega
      unfold lcGo
      rw [hnx i ys m h, List.getElem?_eq_getElem hi]
      obtain ⟨ρ2, e2, h2⟩ := step i ds[i] ys m (List.getElem?_eq_getElem hi) h
      simp only [e2]
      obtain ⟨b, m2, e3, h3⟩ := h2.ex
      rw [e3]
      show Ok (match b with
        | true => (te ρ2 m2).nox.bind fun y μ2 => match μ2[n]? with
          | some (.lst acc) => if acc.length < sizeLine then lcGo nx tg tt te ρ n k (i + 1) (μ2.set n (.lst (acc ++ [y]))) else .bad
          | _ => .bad
        | false => lcGo nx tg tt te ρ n k (i + 1) m2) _
      cases b with
      | false => exact ih (i + 1) ys m2 (by omega) (h3.2 rfl)
      | true =>
        obtain ⟨y, m3, e4, h4, h5⟩ := (h3.1 rfl).ex
        rw [e4]
        show Ok (match m3[n]? with
          | some (.lst acc) => if acc.length < sizeLine then lcGo nx tg tt te ρ n k (i + 1) (m3.set n (.lst (acc ++ [y]))) else .bad
          | _ => .bad) _
        rw [h4]
        show Ok (if ys.length < sizeLine then lcGo nx tg tt te ρ n k (i + 1) (m3.set n (.lst (ys ++ [y]))) else .bad) _
        rw [if_pos (by have := (acc i ys m h).2; omega)]
        exact ih (i + 1) (ys ++ [y]) _ (by omega) h5
  rw [hN]
  exact gen ds.length 0 [] _ (by omega) h0
theorem xYes {P : Bool → Store → Prop} : Ok (tYesF ρ μ) P = P true μ := wOk
theorem ok_lcM {nx : NX} {tg : TgF} {te : EF} {P : Unit → Store → Prop} {N : Nat} (ds ys : List D) (hl : ds.length = ys.length) (hN : N = ds.length) (hz : N ≤ 1000000)
    (hnx : ∀ i m, μ.length ≤ m.length → (∀ k, k < μ.length → m[k]? = μ[k]?) → nx i m = some ds[i]?)
    (step : ∀ (i : Nat) d y m, ds[i]? = some d → ys[i]? = some y → μ.length ≤ m.length → (∀ k, k < μ.length → m[k]? = μ[k]?) → ∃ ρ2, tg d ρ = some ρ2 ∧ Ok (te ρ2 m) fun y' m' => y' = y ∧ m' = m)
    (fin : P () (μ ++ [.lst ys])) : Ok (lcGo nx tg tYesF te ρ μ.length N 0 (μ ++ [.lst []])) P := by
  refine ok_lcG ds (fun i zs m => zs = ys.take i ∧ m = μ ++ [.lst zs]) hN hz ⟨rfl, rfl⟩ ?_ ?_ ?_ ?_
  · rintro i zs m ⟨rfl, rfl⟩
    exact ⟨app_eq rfl, by rw [List.length_take]; omega⟩
  · rintro i zs m ⟨rfl, rfl⟩
    exact hnx i _ (by rw [List.length_append]; omega) fun k hk => app_lt hk
  · rintro i d zs m hd ⟨rfl, rfl⟩
    have hi : i < ys.length := by have := (List.getElem?_eq_some_iff.mp hd).1; omega
    obtain ⟨ρ2, e2, h2⟩ := step i d ys[i] _ hd (List.getElem?_eq_getElem hi) (by rw [List.length_append]; omega) fun k hk => app_lt (xs := [.lst (ys.take i)]) hk
    refine ⟨ρ2, e2, ?_⟩
    rw [xYes]
    refine ⟨fun _ => h2.mono ?_, fun h => by cases h⟩
    rintro y' m' ⟨rfl, rfl⟩
    have e : ys.take i ++ [ys[i]] = ys.take (i + 1) := by rw [List.take_succ, List.getElem?_eq_getElem hi]; rfl
    refine ⟨app_eq rfl, e, ?_⟩
    rw [List.set_append_right _ _ (Nat.le_refl _), Nat.sub_self]; rfl
  · rintro zs m ⟨rfl, rfl⟩
    rw [hl, List.take_length]
    exact fin
structure Py (ns : List Int) (μ : Store) (d : D) (p : PyData) (n k : Nat) : Prop where
  to : ∀ m, n ≤ m → toPy ns μ m d = some p
  can : PyData.canLay0 p = true
  dep : PyData.depth p ≤ k
structure Pys (ns : List Int) (μ : Store) (ds : List D) (ps : List PyData) (n k : Nat) : Prop where
  to : ∀ m, n ≤ m → toPys ns μ m ds = some ps
  can : PyData.canLayAll0 ps = true
  dep : PyData.depthAll ps ≤ k
theorem Py.int {i : Int} : Py ns μ (.int i) (.int i) 1 0 := ⟨fun m h => toPy_int h, rfl, Nat.le_refl _⟩
theorem Py.bl {b : Bool} : Py ns μ (.bl b) (.bool b) 1 0 := ⟨fun m h => by obtain ⟨k, rfl⟩ : ∃ k, m = k + 1 := ⟨m - 1, by omega⟩; rfl, rfl, Nat.le_refl _⟩
theorem Py.non : Py ns μ .non .none 1 0 := ⟨fun m h => by obtain ⟨k, rfl⟩ : ∃ k, m = k + 1 := ⟨m - 1, by omega⟩; rfl, rfl, Nat.le_refl _⟩
theorem Py.str {x : Str} (h : PyData.canLay0 (.str x) = true) : Py ns μ (.str x) (.str x) 1 0 := ⟨fun m h => by obtain ⟨k, rfl⟩ : ∃ k, m = k + 1 := ⟨m - 1, by omega⟩; rfl, h, Nat.le_refl _⟩
theorem Py.tup {xs : List D} {ps : List PyData} {n k : Nat} (h : Pys ns μ xs ps n k) : Py ns μ (.tup xs) (.tuple ps) (n + 1) (k + 1) :=
  ⟨fun m hm => by obtain ⟨j, rfl⟩ : ∃ j, m = j + 1 := ⟨m - 1, by omega⟩; exact toPy_tup (h.to j (by omega)), h.can, Nat.succ_le_succ h.dep⟩
theorem Py.lst {i : Nat} {xs : List D} {ps : List PyData} {n k : Nat} (e : μ[i]? = some (.lst xs)) (h : Pys ns μ xs ps n k) : Py ns μ (.ob i) (.list ps) (n + 1) (k + 1) :=
  ⟨fun m hm => by obtain ⟨j, rfl⟩ : ∃ j, m = j + 1 := ⟨m - 1, by omega⟩; exact toPy_lst e (h.to j (by omega)), h.can, Nat.succ_le_succ h.dep⟩
theorem Pys.nil : Pys ns μ [] [] 1 0 := ⟨fun m h => by obtain ⟨k, rfl⟩ : ∃ k, m = k + 1 := ⟨m - 1, by omega⟩; rfl, rfl, Nat.le_refl _⟩
theorem Pys.cons {d : D} {ds : List D} {p : PyData} {ps : List PyData} {n m k j : Nat} (h : Py ns μ d p n k) (t : Pys ns μ ds ps m j) : Pys ns μ (d :: ds) (p :: ps) (max n m + 1) (max k j) :=
  ⟨fun l hl => by
    obtain ⟨r, rfl⟩ : ∃ r, l = r + 1 := ⟨l - 1, by omega⟩
    show (match toPy ns μ r d, toPys ns μ r ds with
      | some p, some ps => some (p :: ps)
      | _, _ => none) = _
    rw [h.to r (by omega), t.to r (by omega)], by
    show (PyData.canLay0 p && PyData.canLayAll0 ps) = true
    rw [h.can, t.can]; rfl, by
    show max (PyData.depth p) (PyData.depthAll ps) ≤ max k j
    have := h.dep; have := t.dep; omega⟩
theorem Pys.map {α : Type} {f : α → D} {g : α → PyData} {n k : Nat} (h : ∀ x, Py ns μ (f x) (g x) n k) (xs : List α) : Pys ns μ (xs.map f) (xs.map g) (xs.length + n + 1) k :=
  ⟨fun m hm => toPys_map f g n (fun x j hj => (h x).to j hj) xs m hm, can_map (fun x => (h x).can) xs, dep_map (fun x => (h x).dep) xs⟩
theorem Py.mono {d : D} {p : PyData} {n k n' k' : Nat} (h : Py ns μ d p n k) (hn : n ≤ n') (hk : k ≤ k') : Py ns μ d p n' k' := ⟨fun m hm => h.to m (by omega), h.can, Nat.le_trans h.dep hk⟩
theorem eqD_of {d e : D} {p q : PyData} {n m k j : Nat} (h : Py ns μ d p n k) (t : Py ns μ e q m j) (hn : n ≤ 4000) (hm : m ≤ 4000) (hk : k ≤ 64) (hj : j ≤ 64) : eqD ns μ d e = some (PyData.eqv p q) := by
  unfold eqD
  rw [h.to fuel hn, t.to fuel hm]
  dsimp only
  rw [if_pos ⟨shaped_of h.can (Nat.le_trans h.dep hk), shaped_of t.can (Nat.le_trans t.dep hj)⟩]
theorem seq_net {w : Int} {kn : List (Int × Int)} {es : List Int} : seqOf ns μ (netD w kn es) = some [.int w, .tup (kn.map prD), .tup (es.map D.int)] := rfl
theorem xGTn {n : Nat} {t : List D → Ro → Store → R Ro} {w : Int} {kn : List (Int × Int)} {es : List Int} {P : Ro → Store → Prop} : Ok (gT n t (netD w kn es) ρ μ) P = Ok (gT n t (.tup [.int w, .tup (kn.map prD), .tup (es.map D.int)]) ρ μ) P := rfl
structure KnOk (w : Int) (kn : List (Int × Int)) : Prop where
  len : kn.length ≤ 1000
  at_ : ∀ (i : Nat) p, kn[i]? = some p → 0 ≤ p.1 ∧ p.1 ≤ w + i - 1 ∧ 0 ≤ p.2 ∧ p.2 ≤ w + i - 1
theorem KnOk.nil {w : Int} : KnOk w [] := ⟨by simp, fun i p e => by simp at e⟩
theorem KnOk.take {w : Int} {kn : List (Int × Int)} (h : KnOk w kn) (n : Nat) : KnOk w (kn.take n) := ⟨by rw [List.length_take]; have := h.len; omega, fun i p e => by
  rw [List.getElem?_take] at e
  split at e
  · exact h.at_ i p e
  · cases e⟩
end
end Ev

end
section
set_option Elab.async false
set_option linter.all false
set_option maxRecDepth 100000
set_option maxHeartbeats 1000000
namespace Ev
end Ev

end
section
set_option Elab.async false
set_option linter.all false
set_option maxRecDepth 100000
set_option maxHeartbeats 1000000
namespace Ev
open PySem PySem.Spec PyProof.Rows L2
section
variable {β γ : Type} {ρ : Ro} {μ μ' μ'' : Store} {ns : List Int}
theorem xIn {neg : Bool} {d e : D} {P : D → Store → Prop} : Ok (opIn ns neg d e μ) P = (match seqOf ns μ e with | some xs => (if flatD d = true ∧ xs.all flatD = true then P (.bl (if neg then !(xs.any fun y => eqF y d) else xs.any fun y => eqF y d)) μ else False) | none => False) := by
  unfold opIn
  cases seqOf ns μ e with
  | none => exact wBad
  | some xs =>
    dsimp only
    by_cases h : flatD d = true ∧ xs.all flatD = true
    · rw [if_pos h, if_pos h]; exact wOk
    · rw [if_neg h, if_neg h]; exact wBad
theorem xAllN {it : IG} {vs : List Nat} {tg : TgF} {te : EF} {P : D → Store → Prop} : Ok (eAllN it vs tg te ρ μ) P = Ok (it ρ μ) fun p μ1 => Ok (alN p.1 tg te (wipeR ρ vs) p.2 0 μ1) P := by
  unfold eAllN; rw [Ok.bind]
theorem xTupN {it : IG} {vs : List Nat} {tg : TgF} {te : EF} {P : D → Store → Prop} : Ok (eTupN it vs tg te ρ μ) P = Ok (it ρ μ) fun p μ1 => Ok (tpGo p.1 tg te (wipeR ρ vs) μ1.length p.2 0 (μ1 ++ [.lst []])) fun _ μ2 => (match μ2[μ1.length]? with | some (.lst acc) => P (.tup acc) μ2 | _ => False) := by
  unfold eTupN; rw [Ok.bind]; congr; funext p μ1; rw [Ok.bind]; congr; funext u μ2
  unfold tupEnd
  rcases μ2[μ1.length]? with _ | (_ | _ | _) <;> first | exact wOk | exact wBad
theorem xOrV {a b : EF} {P : D → Store → Prop} : Ok (eOrV ns a b ρ μ) P = Ok (a ρ μ) fun d μ1 => (match truD ns μ1 d with | some c => (c = true → P d μ1) ∧ (c = false → Ok (b ρ μ1) P) | none => False) := by
  unfold eOrV; rw [Ok.bind]; congr; funext d μ1
  rcases truD ns μ1 d with _ | (_ | _)
  · exact wBad
  · simp
  · simp [wOk]
theorem xLrng {r : EF} {P : D → Store → Prop} : Ok (eLrng r ρ μ) P = Ok (r ρ μ) fun d μ1 => (match d with | .int j => (if -(2 ^ 62) ≤ j ∧ j ≤ 1000000 then P (.ob μ1.length) (μ1 ++ [.lst ((List.range j.toNat).map fun (k : Nat) => D.int (k : Nat))]) else False) | _ => False) := by
  unfold eLrng; rw [Ok.bind]; congr; funext d μ1
  cases d <;> first | exact wBad | skip
  rename_i j
  dsimp only
  by_cases h : -(2 ^ 62) ≤ j ∧ j ≤ 1000000
  · rw [if_pos h, if_pos h]; exact wOk
  · rw [if_neg h, if_neg h]; exact wBad
theorem rngL {j : Int} {a b : Prop} (h1 : -1000000000 ≤ j) (h2 : j ≤ 1000000) : (if -(2 ^ 62) ≤ j ∧ j ≤ 1000000 then a else b) = a := if_pos ⟨by omega, h2⟩
theorem xR3 {r u v : EF} {P : List D → Store → Prop} : Ok (iR3 r u v ρ μ) P = Ok (r ρ μ) fun d μ1 => Ok (u ρ μ1) fun e μ2 => Ok (v ρ μ2) fun c μ3 => (match d, e, c with | .int i, .int j, .int c => (if -(2 ^ 62) ≤ i ∧ i < 2 ^ 62 ∧ -(2 ^ 62) ≤ j ∧ j < 2 ^ 62 ∧ c = -1 then P ((List.range (i - j).toNat).map fun (k : Nat) => D.int (i - (k : Nat))) μ3 else False) | _, _, _ => False) := by
  unfold iR3; rw [Ok.bind]; congr; funext d μ1; rw [Ok.bind]; congr; funext e μ2; rw [Ok.bind]; congr; funext c μ3
  cases d <;> cases e <;> cases c <;> first | exact wBad | skip
  rename_i i j c
  dsimp only
  by_cases h : -(2 ^ 62) ≤ i ∧ i < 2 ^ 62 ∧ -(2 ^ 62) ≤ j ∧ j < 2 ^ 62 ∧ c = -1
  · rw [if_pos h, if_pos h]; exact wOk
  · rw [if_neg h, if_neg h]; exact wBad
theorem xForG {it : IG} {g : GF} {body : SF} {P : Fl → Store → Prop} : Ok (sForG it g body ρ μ) P = Ok (it ρ μ) fun p μ1 => Ok (sLoopG p.1 g body p.2 0 ρ μ1) P := by unfold sForG; rw [Ok.bind]
theorem xIRv {r : EF} {P : NX × Nat → Store → Prop} : Ok (iRv ns r ρ μ) P = Ok (r ρ μ) fun l μ1 => (match lstOf ns μ1 l with | some xs => P (nxV ns l xs.length, xs.length) μ1 | none => False) := by
  unfold iRv; rw [Ok.bind]; congr; funext l μ1; cases lstOf ns μ1 l <;> first | exact wOk | exact wBad
theorem xTryR {g : Fn} {rs : AF} {hit : Str → Bool} {i : Nat} {su : SF} {P : Fl → Store → Prop} : Ok (Xc.sTryR g rs hit i su ρ μ) P = Ok (rs ρ μ) fun ds μ1 => (match g ds μ1 with | .ok _ μ2 => P (.nx ρ) μ2 | .ex (.mk y _) μ2 => (if hit y = true then Ok (su (ρ.set i (some (.ob μ2.length))) (μ2 ++ [.exc y])) fun f μ3 => (match f with | .nx ρ3 => P (.nx (ρ3.set i none)) μ3 | .rt d => P (.rt d) μ3 | _ => False) else False) | .bad => False) := by
  unfold Xc.sTryR; rw [Ok.bind, xNox]; congr; funext ds μ1
  rcases g ds μ1 with ⟨b, m⟩ | ⟨⟨y, fs⟩, m⟩ | _
  · exact wOk
  · dsimp only
    by_cases h : hit y = true
    · rw [if_pos h, if_pos h, Ok.bind, xNox]; congr; funext f μ3; cases f <;> first | exact wOk | exact wBad
    · rw [if_neg h, if_neg h]; exact wBad
  · exact wBad
theorem ok_while {t : TF} {body : SF} {P : Fl → Store → Prop} (I : Nat → Ro → Store → Prop) {k n : Nat} (h0 : I k ρ μ) (hk : k < n)
    (step : ∀ k ρ μ, I k ρ μ → Ok (t ρ μ) fun b μ1 => (b = true → Ok (body ρ μ1) fun f μ2 => match f with | .nx ρ2 => ∃ j, j < k ∧ I j ρ2 μ2 | .ct ρ2 => ∃ j, j < k ∧ I j ρ2 μ2 | .bk ρ2 => P (.nx ρ2) μ2 | .rt d => P (.rt d) μ2) ∧ (b = false → P (.nx ρ) μ1)) : Ok (sWhile t body n ρ μ) P := by
  induction n generalizing k ρ μ with
  | zero => omega
  | succ n ih =>
    unfold sWhile
    rw [Ok.bind]
    refine (step k ρ μ h0).mono fun b μ1 hb => ?_
    cases b with
    | false => exact .of rfl (hb.2 rfl)
    | true =>
      dsimp only
      rw [Ok.bind]
      refine (hb.1 rfl).mono fun f μ2 hf => ?_
      cases f with
      | nx ρ2 => obtain ⟨j, hj, h⟩ := hf; exact ih h (by omega)
      | ct ρ2 => obtain ⟨j, hj, h⟩ := hf; exact ih h (by omega)
      | bk ρ2 => exact .of rfl hf
      | rt d => exact .of rfl hf
end
end Ev

end
section
set_option Elab.async false
set_option linter.all false
set_option maxRecDepth 100000
set_option maxHeartbeats 1000000
namespace Ev
open PySem PySem.Spec PyProof.Rows L2
section
variable {β γ : Type} {ρ : Ro} {μ μ' μ'' : Store} {ns : List Int}
theorem xGDix {o i : EF} {d : D} {P : Ro → Store → Prop} : Ok (gDix o i d ρ μ) P = Ok (o ρ μ) fun od μ1 => Ok (i ρ μ1) fun id μ2 => Ok (dsD od id d μ2) fun _ μ3 => P ρ μ3 := by
  unfold gDix; rw [Ok.bind]; congr; funext od μ1; rw [Ok.bind]; congr; funext id μ2; rw [Ok.bind]; congr; funext _ μ3; exact wOk
theorem xRr {r : EF} {P : List D → Store → Prop} : Ok (iRr r ρ μ) P = Ok (r ρ μ) fun d μ1 => (match d with | .int j => (if -(2 ^ 62) ≤ j ∧ j < 2 ^ 62 then P ((List.range j.toNat).map fun (k : Nat) => D.int ((j.toNat : Int) - 1 - (k : Nat))) μ1 else False) | _ => False) := by
  unfold iRr; rw [Ok.bind]; congr; funext d μ1
  cases d <;> first | exact wBad | skip
  rename_i j
  dsimp only
  by_cases h : -(2 ^ 62) ≤ j ∧ j < 2 ^ 62
  · rw [if_pos h, if_pos h]; exact wOk
  · rw [if_neg h, if_neg h]; exact wBad
theorem xEnL {r u : EF} {P : NX × Nat → Store → Prop} : Ok (iEnL ns r u ρ μ) P = Ok (r ρ μ) fun l μ1 => Ok (u ρ μ1) fun k μ2 => (match k, lstOf ns μ2 l with | .int j, some xs => (if -(2 ^ 62) ≤ j ∧ j < 2 ^ 62 then P (nxEn ns l j, xs.length) μ2 else False) | _, _ => False) := by
  unfold iEnL; rw [Ok.bind]; congr; funext l μ1; rw [Ok.bind]; congr; funext k μ2
  cases k <;> cases lstOf ns μ2 l <;> first | exact wBad | skip
  rename_i j xs
  dsimp only
  by_cases h : -(2 ^ 62) ≤ j ∧ j < 2 ^ 62
  · rw [if_pos h, if_pos h]; exact wOk
  · rw [if_neg h, if_neg h]; exact wBad
theorem xEnL0 {r : EF} {P : NX × Nat → Store → Prop} : Ok (iEnL0 ns r ρ μ) P = Ok (r ρ μ) fun l μ1 => (match lstOf ns μ1 l with | some xs => P (nxEn ns l 0, xs.length) μ1 | none => False) := by
  unfold iEnL0; rw [Ok.bind]; congr; funext l μ1; cases lstOf ns μ1 l <;> first | exact wOk | exact wBad
theorem xDc {it : IG} {vs : List Nat} {tg : TgF} {tt : TF} {tk te : EF} {P : D → Store → Prop} : Ok (eDc it vs tg tt tk te ρ μ) P = Ok (it ρ μ) fun p μ1 => Ok (dcGo p.1 tg tt tk te (wipeR ρ vs) μ1.length p.2 0 (μ1 ++ [.dic []])) fun _ μ2 => P (.ob μ1.length) μ2 := by
  unfold eDc; rw [Ok.bind]; congr; funext p μ1; rw [Ok.bind]; congr; funext u μ2; exact wOk
theorem ok_loopG {nx : NX} {g : GF} {body : SF} {P : Fl → Store → Prop} {N : Nat} (ds : List D) (hN : N = ds.length) (I : Nat → Ro → Store → Prop) (h0 : I 0 ρ μ) (hnx : ∀ i ρ m, I i ρ m → nx i m = some ds[i]?)
    (step : ∀ (i : Nat) d ρ μ, ds[i]? = some d → I i ρ μ → Ok (g d ρ μ) fun ρ1 μ1 => Ok (body ρ1 μ1) fun f μ2 => match f with | .nx ρ2 => I (i + 1) ρ2 μ2 | .ct ρ2 => I (i + 1) ρ2 μ2 | .bk ρ2 => P (.nx ρ2) μ2 | .rt d => P (.rt d) μ2)
    (fin : ∀ ρ μ, I ds.length ρ μ → P (.nx ρ) μ) : Ok (sLoopG nx g body N 0 ρ μ) P := by
  have gen : ∀ (k i : Nat) ρ μ, i + k = ds.length → I i ρ μ → Ok (sLoopG nx g body k i ρ μ) P := by
    intro k
    induction k with
    | zero =>
      intro i ρ μ hk h
      unfold sLoopG
      rw [hnx i ρ μ h, List.getElem?_eq_none (by omega)]
      exact .of rfl (fin ρ μ (by rw [← hk]; exact h))
    | succ k ih =>
      intro i ρ μ hk h
      have hi : i < ds.length := by omega
      unfold sLoopG
      rw [hnx i ρ μ h, List.getElem?_eq_getElem hi]
      dsimp only
      rw [Ok.bind]
      refine (step i ds[i] ρ μ (List.getElem?_eq_getElem hi) h).mono fun ρ1 μ1 h1 => ?_
      rw [Ok.bind]
      refine h1.mono fun f μ2 h2 => ?_
      cases f with
      | nx ρ2 => exact ih (i + 1) ρ2 μ2 (by omega) h2
      | ct ρ2 => exact ih (i + 1) ρ2 μ2 (by omega) h2
      | bk ρ2 => exact .of rfl h2
      | rt d => exact .of rfl h2
  rw [hN]
  exact gen ds.length 0 ρ μ (by omega) h0
theorem xTupG {it : IF_} {ix : Nat} {te : EF} {P : D → Store → Prop} : Ok (eTupG it ix te ρ μ) P = Ok (it ρ μ) fun ds μ1 => Ok (tupGo te ix ρ μ1.length ds (μ1 ++ [.lst []])) fun _ μ2 => (match μ2[μ1.length]? with | some (.lst acc) => P (.tup acc) μ2 | _ => False) := by
  unfold eTupG; rw [Ok.bind]; congr; funext p μ1; rw [Ok.bind]; congr; funext u μ2
  unfold tupEnd
  rcases μ2[μ1.length]? with _ | (_ | _ | _) <;> first | exact wOk | exact wBad
end
end Ev

end
section
set_option Elab.async false
set_option linter.all false
set_option maxRecDepth 100000
set_option maxHeartbeats 1000000
namespace Ev
open PySem PySem.Spec PyProof.Rows L2
section
variable {ρ : Ro} {μ : Store} {ns : List Int}
end
end Ev

end
section
set_option Elab.async false
set_option linter.all false
set_option maxRecDepth 100000
set_option maxHeartbeats 1000000
namespace Ev
inductive Pa where
  | st (n : Nat)
  | bl (o : Pa) (bs : List Pa)
theorem Pa.ind {P : Pa → Prop} (h1 : ∀ n, P (.st n)) (h2 : ∀ o bs, P o → (∀ b ∈ bs, P b) → P (.bl o bs)) : ∀ p, P p
  | .st n => h1 n
  | .bl o bs => h2 o bs (Pa.ind h1 h2 o) fun b _ => Pa.ind h1 h2 b
def dbl : Nat → Nat → Nat → Nat
  | 0, _, _ => 0
  | f + 1, s, n => if s < n then (n - s) + dbl f (2 * s) n else 0
def ldp : Nat → Nat → Nat → Nat → Nat
  | 0, _, d, _ => d
  | f + 1, r, d, n => if r < n then ldp f (2 * r) (d + 1) n else d
mutual
def wid : Pa → Nat
  | .st n => n
  | .bl _ bs => wids bs
def wids : List Pa → Nat
  | [] => 0
  | b :: bs => wid b + wids bs
end
def exs : List Pa → Nat
  | [] => 0
  | b :: bs => (wid b - 1) + exs bs
mutual
def kno : Pa → Nat
  | .st n => dbl 7 1 n
  | .bl o bs => kno o + knos bs + exs bs.tail
def knos : List Pa → Nat
  | [] => 0
  | b :: bs => kno b + knos bs
end
mutual
def dep : Pa → Nat
  | .st _ => 1
  | .bl o bs => 1 + max (dep o) (deps bs)
def deps : List Pa → Nat
  | [] => 0
  | b :: bs => max (dep b) (deps bs)
end
mutual
def okP : Pa → Prop
  | .st n => 1 ≤ n ∧ n ≤ 64
  | .bl o bs => okP o ∧ okPs bs ∧ wid o = bs.length ∧ 2 ≤ bs.length ∧ wids bs ≤ 64 ∧ kno o + knos bs + exs bs.tail ≤ 1000
def okPs : List Pa → Prop
  | [] => True
  | b :: bs => okP b ∧ okPs bs
end
theorem deps_le : ∀ {bs : List Pa} {n : Nat}, deps bs ≤ n ↔ ∀ b ∈ bs, dep b ≤ n
  | [], n => by simp [deps]
  | b :: bs, n => by simp only [deps, List.mem_cons, forall_eq_or_imp, Nat.max_le, deps_le (bs := bs)]
theorem wid_pos : ∀ {p : Pa}, okP p → 1 ≤ wid p ∧ wid p ≤ 64 := by
  intro p
  induction p using Pa.ind with
  | h1 n => intro h; rw [okP] at h; rw [wid]; exact h
  | h2 o bs io ib =>
    intro h
    rw [okP] at h
    rw [wid]
    refine ⟨?_, h.2.2.2.2.1⟩
    match bs, h.2.2.2.1, h.2.1, ib with
    | b :: bs, _, h2, ib =>
      rw [okPs] at h2
      have := (ib b List.mem_cons_self h2.1).1
      rw [wids]; omega
theorem exs_eq : ∀ {bs : List Pa}, okPs bs → exs bs + bs.length = wids bs
  | [], _ => by simp [exs, wids]
  | b :: bs, h => by
    rw [okPs] at h
    have := exs_eq h.2
    have := (wid_pos h.1).1
    rw [exs, wids, List.length_cons]; omega
theorem dbl_le : ∀ n : Nat, n < 65 → dbl 7 1 n ≤ 6 * (n - 1) := by decide +kernel
structure Drw (d w : Nat) (p : Pa) : Prop where
  ok : okP p
  wi : wid p = w
  de : dep p ≤ d
  kn : kno p ≤ (d + 5) * (w - 1)
theorem Drw.st {d w : Nat} (h1 : 1 ≤ w) (h2 : w ≤ 64) (h3 : 1 ≤ d) : Drw d w (.st w) := by
  refine ⟨by rw [okP]; exact ⟨h1, h2⟩, by rw [wid], by rw [dep]; exact h3, ?_⟩
  rw [kno]
  refine Nat.le_trans (dbl_le w (by omega)) ?_
  exact Nat.mul_le_mul_right _ (by omega)
theorem drw_sum {d : Nat} : ∀ {bs : List Pa} {ws : List Nat}, bs.length = ws.length → (∀ (i : Nat) b w, bs[i]? = some b → ws[i]? = some w → 1 ≤ w ∧ Drw d w b) → okPs bs ∧ wids bs = ws.sum ∧ deps bs ≤ d ∧ knos bs + (d + 5) * bs.length ≤ (d + 5) * ws.sum
  | [], [], _, _ => by simp [okPs, wids, deps, knos]
  | b :: bs, w :: ws, hl, h => by
    have h0 := h 0 b w rfl rfl
    obtain ⟨a1, a2, a3, a4⟩ := drw_sum (bs := bs) (ws := ws) (by simpa using hl) fun i c v hc hv => h (i + 1) c v (by simpa using hc) (by simpa using hv)
    obtain ⟨w1, k1, k2, k3, k4⟩ := h0
    refine ⟨by rw [okPs]; exact ⟨k1, a1⟩, by rw [wids, k2, a2, List.sum_cons], by rw [deps]; omega, ?_⟩
    rw [knos, List.sum_cons, List.length_cons, Nat.mul_add, Nat.mul_add]
    have : (d + 5) * w = (d + 5) * (w - 1) + (d + 5) * 1 := by rw [← Nat.mul_add]; congr 1; omega
    omega
  | [], _ :: _, h, _ => by simp at h
  | _ :: _, [], h, _ => by simp at h
theorem Drw.bl {d w m : Nat} {o : Pa} {bs : List Pa} {ws : List Nat} (ho : Drw d m o) (hl : bs.length = ws.length) (hm : bs.length = m) (hb : ∀ (i : Nat) b w, bs[i]? = some b → ws[i]? = some w → 1 ≤ w ∧ Drw d w b) (hw : ws.sum = w) (h2 : 2 ≤ m) (h3 : w ≤ 64) (hd : d ≤ 8) : Drw (d + 1) w (.bl o bs) := by
  obtain ⟨a1, a2, a3, a4⟩ := drw_sum hl hb
  have ex := exs_eq a1
  have hk : kno o + knos bs + exs bs.tail ≤ (d + 1 + 5) * (w - 1) := by
    have e1 : exs bs.tail ≤ exs bs := by
      cases bs with
      | nil => exact Nat.le_refl _
      | cons b bs => rw [List.tail_cons]; conv => rhs; rw [exs]
                     omega
    have k := ho.kn
    rw [hm] at a4 ex
    rw [a2, hw] at ex
    have q1 : (d + 5) * m = (d + 5) * (m - 1) + (d + 5) * 1 := by rw [← Nat.mul_add]; congr 1; omega
    have q2 : (d + 5) * w = (d + 5) * (w - 1) + (d + 5) * 1 := by rw [← Nat.mul_add]; congr 1; omega
    have q3 : (d + 1 + 5) * (w - 1) = (d + 5) * (w - 1) + (w - 1) := by rw [show d + 1 + 5 = (d + 5) + 1 by omega, Nat.add_mul, Nat.one_mul]
    rw [hw] at a4
    omega
  have hk2 : (d + 1 + 5) * (w - 1) ≤ 14 * 63 := Nat.mul_le_mul (by omega) (by omega)
  refine ⟨?_, by rw [wid, a2, hw], by rw [dep]; have := ho.de; omega, by rw [kno]; exact hk⟩
  rw [okP]
  exact ⟨ho.ok, a1, by rw [ho.wi, hm], by omega, by rw [a2, hw]; exact h3, by omega⟩
theorem d1 : dbl 7 1 1 = 0 := by decide
theorem d2 : dbl 7 1 2 = 1 := by decide
theorem d3 : dbl 7 1 3 = 3 := by decide
end Ev

end
section
set_option Elab.async false
set_option linter.all false
set_option maxRecDepth 100000
set_option maxHeartbeats 1000000
namespace Ev
def s2 (σ : Int → Int) (q : Int × Int) : Int × Int := (σ q.1, σ q.2)
def s3 (σ : Int → Int) (z : Int × Int × List Int) : Int × Int × List Int := (σ z.1, σ z.2.1, z.2.2.map σ)
def Nm (σ : Int → Int) (w : Int) (k : Nat) (w' : Int) (k' n : Nat) : Prop := ∀ j : Nat, j < n → σ (w + (k : Int) + (j : Int)) = w' + (k' : Int) + (j : Int)
theorem Nm.rest {σ : Int → Int} {w w' : Int} {k k' n m : Nat} (a : Nat) (h : Nm σ w k w' k' n) (hm : a + m ≤ n) : Nm σ w (k + a) w' (k' + a) m := fun j hj => by
  have := h (a + j) (by omega)
  rw [show w + ((k + a : Nat) : Int) + (j : Int) = w + (k : Int) + ((a + j : Nat) : Int) by omega, this]; omega
def nms (ts : List Int) (f : Int) (n : Nat) : List Int := ts ++ (List.range n).map fun (k : Nat) => f + (k : Int)
end Ev

end
section
set_option Elab.async false
set_option linter.all false
set_option maxRecDepth 100000
set_option maxHeartbeats 1000000
namespace Ev
open PySem PySem.Spec PyProof.Rows L2
section
variable {ρ : Ro} {μ μ' μ'' : Store} {ns : List Int}
theorem xU {n k : Nat} {t : List D → Ro → Store → R Ro} {P : Ro → Store → Prop} : Ok (gU ns n t (.ob k) ρ μ) P = (match μ[k]? with | some (.lst xs) => (if xs.length = n then Ok (t xs ρ μ) P else False) | _ => False) := by
  unfold gU; rw [lst_obj]
  rcases e : μ[k]? with _ | (xs | _ | _) <;> simp only [wBad]
  by_cases h : xs.length = n
  · rw [if_pos h, if_pos h]
  · rw [if_neg h, if_neg h]; exact wBad
theorem xZp3 {r u v : EF} {P : NX × Nat → Store → Prop} : Ok (iZp3 ns r u v ρ μ) P = Ok (r ρ μ) fun d μ1 => Ok (u ρ μ1) fun k μ2 => Ok (v ρ μ2) fun l μ3 => (match seqOf ns μ3 d, seqOf ns μ3 k, seqOf ns μ3 l with | some xs, some ys, some zs => P (nxZ3 ns d k l, (zip3 xs ys zs).length) μ3 | _, _, _ => False) := by
  unfold iZp3; rw [Ok.bind]; congr; funext d μ1; rw [Ok.bind]; congr; funext k μ2; rw [Ok.bind]; congr; funext l μ3
  cases seqOf ns μ3 d <;> cases seqOf ns μ3 k <;> cases seqOf ns μ3 l <;> first | exact wOk | exact wBad
theorem xLrev {r : EF} {P : D → Store → Prop} : Ok (eLrev ns r ρ μ) P = Ok (r ρ μ) fun l μ1 => (match lstOf ns μ1 l with | some xs => P (.ob μ1.length) (μ1 ++ [.lst xs.reverse]) | none => False) := by
  unfold eLrev; rw [Ok.bind]; congr; funext l μ1; cases lstOf ns μ1 l <;> first | exact wOk | exact wBad
theorem xLrng2 {r u : EF} {P : D → Store → Prop} : Ok (eLrng2 r u ρ μ) P = Ok (r ρ μ) fun d μ1 => Ok (u ρ μ1) fun e μ2 => (match d, e with | .int i, .int j => (if -(2 ^ 61) ≤ i ∧ i < 2 ^ 61 ∧ j < 2 ^ 61 ∧ -(2 ^ 61) ≤ j ∧ j - i ≤ 1000000 then P (.ob μ2.length) (μ2 ++ [.lst ((List.range (j - i).toNat).map fun (k : Nat) => D.int (i + (k : Nat)))]) else False) | _, _ => False) := by
  unfold eLrng2; rw [Ok.bind]; congr; funext d μ1; rw [Ok.bind]; congr; funext e μ2
  cases d <;> cases e <;> first | exact wBad | skip
  rename_i i j
  dsimp only
  by_cases h : -(2 ^ 61) ≤ i ∧ i < 2 ^ 61 ∧ j < 2 ^ 61 ∧ -(2 ^ 61) ≤ j ∧ j - i ≤ 1000000
  · rw [if_pos h, if_pos h]; exact wOk
  · rw [if_neg h, if_neg h]; exact wBad
theorem rngL2 {i j : Int} {a b : Prop} (h1 : -1000000000 ≤ i) (h2 : i < 1000000000) (h3 : -1000000000 ≤ j) (h4 : j < 1000000000) (h5 : j - i ≤ 1000000) : (if -(2 ^ 61) ≤ i ∧ i < 2 ^ 61 ∧ j < 2 ^ 61 ∧ -(2 ^ 61) ≤ j ∧ j - i ≤ 1000000 then a else b) = a := if_pos ⟨by omega, by omega, by omega, by omega, h5⟩
theorem mulC {k m : Int} {a b : Prop} {d : Decidable (CMul k m)} (h : -(2 ^ 64) < m) (h2 : m < 2 ^ 64) : (@ite Prop (CMul k m) d a b) = a := if_pos (.inr ⟨h, h2⟩)
theorem xAugM {i : Nat} {r : EF} {P : Fl → Store → Prop} : Ok (sAugM i r ρ μ) P = (match ρ[i]? with | some (some (.int k)) => (Ok (r ρ μ) fun d μ1 => (match d with | .int m => (if CMul k m then P (.nx (ρ.set i (some (.int (k * m))))) μ1 else False) | _ => False)) | _ => False) := by
  unfold sAugM
  rcases ρ[i]? with _ | (_ | d) <;> first | exact wBad | skip
  cases d <;> first | exact wBad | skip
  rename_i k
  dsimp only
  rw [Ok.bind]; congr; funext d μ1; cases d <;> first | exact wBad | skip
  rename_i m
  dsimp only
  by_cases h : CMul k m
  · rw [if_pos h, if_pos h]; exact wOk
  · rw [if_neg h, if_neg h]; exact wBad
theorem xShl1 {j : Int} {P : D → Store → Prop} (h0 : 0 ≤ j) (h1 : j ≤ 1000) : Ok (opShl (.int 1) (.int j) μ) P = P (.int (2 ^ j.toNat)) μ := by
  unfold opShl; dsimp only; rw [if_pos ⟨h0, by omega, by decide⟩, Int.one_mul]; exact wOk
theorem xPop0 {i : Nat} {xs : List D} {y : D} {P : D → Store → Prop} (h : μ[i]? = some (.lst (xs ++ [y]))) : Ok (mPop (.ob i) [] μ) P = P y (μ.set i (.lst xs)) := by
  unfold mPop; simp only [h, List.length_append, List.length_cons, List.length_nil, Nat.zero_add, Nat.add_sub_cancel]
  rw [show (xs ++ [y])[xs.length]? = some y by simp]
  simp only [List.dropLast_concat]
  exact wOk
theorem eqS1 : eqD ns μ (.str "steps") (.str "steps") = some true := by
  rw [eqD_of (Py.str (by decide +kernel)) (Py.str (by decide +kernel)) (by decide) (by decide) (by decide) (by decide)]; exact congrArg some (by decide +kernel)
theorem eqS3 : eqD ns μ (.str "blocks") (.str "blocks") = some true := by
  rw [eqD_of (Py.str (by decide +kernel)) (Py.str (by decide +kernel)) (by decide) (by decide) (by decide) (by decide)]; exact congrArg some (by decide +kernel)
theorem at_m1 {α : Type} {xs : List α} {x : α} : atI (xs ++ [x]) (-1) = some x := by
  unfold atI ixN
  rw [if_neg (by decide), if_pos (by simp; omega)]
  show (xs ++ [x])[(-1 + ((xs ++ [x]).length : Int)).toNat]? = some x
  rw [List.length_append, show (-1 + ((xs.length + [x].length : Nat) : Int)).toNat = xs.length by simp; omega]
  simp
theorem ixN_m1 {n : Nat} : ixN (n + 1) (-1) = some n := by
  unfold ixN
  rw [if_neg (by decide), if_pos (by omega)]
  congr 1; omega
structure Ex (p : Nat → Prop) (μ m : Store) : Prop where
  len : μ.length ≤ m.length
  keep : ∀ k, k < μ.length → ¬ p k → m[k]? = μ[k]?
variable {p p' : Nat → Prop}
theorem Ex.refl : Ex p μ μ := ⟨Nat.le_refl _, fun _ _ _ => rfl⟩
theorem Ex.mono (h : Ex p μ μ') (f : ∀ k, k < μ.length → p k → p' k) : Ex p' μ μ' := ⟨h.len, fun k hk hn => h.keep k hk fun z => hn (f k hk z)⟩
theorem Ex.trans (a : Ex p μ μ') (b : Ex p μ' μ'') : Ex p μ μ'' := ⟨Nat.le_trans a.len b.len, fun k hk hn => (b.keep k (Nat.lt_of_lt_of_le hk a.len) hn).trans (a.keep k hk hn)⟩
theorem Ex.at {k : Nat} {o : MO} (a : Ex p μ μ') (h : μ[k]? = some o) (hn : ¬ p k) : μ'[k]? = some o := (a.keep k (lt_of_at h) hn).trans h
theorem Ex.app (a : Ex p μ μ') (xs : Store) : Ex p μ (μ' ++ xs) := ⟨by rw [List.length_append]; exact Nat.le_trans a.len (Nat.le_add_right _ _), fun k hk hn => by rw [app_lt (Nat.lt_of_lt_of_le hk a.len)]; exact a.keep k hk hn⟩
theorem Ex.set {j : Nat} {x : MO} (a : Ex p μ μ') (h : j < μ.length → p j) : Ex p μ (μ'.set j x) := ⟨by rw [List.length_set]; exact a.len, fun k hk hn => by
  rw [set_ne (fun e => by subst e; exact hn (h hk))]; exact a.keep k hk hn⟩
abbrev Ex0 := Ex fun _ => False
theorem ex_app (xs : Store) : Ex p μ (μ ++ xs) := Ex.refl.app xs
mutual
def paD : Pa → D
  | .st n => .tup [.str "steps", .int (n : Nat)]
  | .bl o bs => .tup [.str "blocks", paD o, .tup (paDs bs)]
def paDs : List Pa → List D
  | [] => []
  | b :: bs => paD b :: paDs bs
end
theorem paDs_map : ∀ (bs : List Pa), paDs bs = bs.map paD
  | [] => by rw [paDs]; rfl
  | b :: bs => by rw [paDs, paDs_map bs]; rfl
theorem paD_st {n : Nat} : paD (.st n) = .tup [.str "steps", .int (n : Nat)] := by rw [paD]
theorem paD_bl {o : Pa} {bs : List Pa} : paD (.bl o bs) = .tup [.str "blocks", paD o, .tup (bs.map paD)] := by rw [paD, paDs_map]
end
end Ev

end
section
set_option Elab.async false
set_option linter.all false
set_option maxRecDepth 100000
set_option maxHeartbeats 1000000
namespace Ev
open PySem PySem.Spec PyProof.Rows L2
section
variable {ρ : Ro} {μ μ' μ'' : Store} {ns : List Int}
theorem xR3p {r u v : EF} {P : List D → Store → Prop} : Ok (iR3p r u v ρ μ) P = Ok (r ρ μ) fun d μ1 => Ok (u ρ μ1) fun e μ2 => Ok (v ρ μ2) fun c μ3 => (match d, e, c with | .int i, .int j, .int c => (if (-(2 ^ 61) ≤ i ∧ i < 2 ^ 61 ∧ -(2 ^ 61) ≤ j ∧ j < 2 ^ 61) ∧ 1 ≤ c ∧ c < 1073741824 then P ((List.range (if i < j then (j - i - 1) / c + 1 else 0).toNat).map fun (k : Nat) => D.int (i + (k : Nat) * c)) μ3 else False) | _, _, _ => False) := by
  unfold iR3p; rw [Ok.bind]; congr; funext d μ1; rw [Ok.bind]; congr; funext e μ2; rw [Ok.bind]; congr; funext c μ3
  cases d <;> cases e <;> cases c <;> first | exact wBad | skip
  rename_i i j c
  dsimp only
  by_cases h : (-(2 ^ 61) ≤ i ∧ i < 2 ^ 61 ∧ -(2 ^ 61) ≤ j ∧ j < 2 ^ 61) ∧ 1 ≤ c ∧ c < 1073741824
  · rw [if_pos h, if_pos h]; exact wOk
  · rw [if_neg h, if_neg h]; exact wBad
theorem xCount {i : Nat} {xs : List D} {y : D} {P : D → Store → Prop} (h : μ[i]? = some (.lst xs)) (h1 : flatD y = true) (h2 : xs.all flatD = true) : Ok (mCount (.ob i) [y] μ) P = P (.int (xs.countP (fun z => eqF z y) : Nat)) μ := by
  simp only [mCount, h, h1, h2, and_self, if_true]; exact wOk
theorem xDivW {i j : Int} {P : D → Store → Prop} (h : 0 < j) (h2 : j < 18446744073709551616) : Ok (opDivW (.int i) (.int j) μ) P = P (.int (i / j)) μ := by
  unfold opDivW; simp only; rw [if_pos ⟨h, h2⟩]; exact wOk
end
end Ev

end
section
set_option Elab.async false
set_option linter.all false
set_option maxRecDepth 100000
set_option maxHeartbeats 1000000
namespace Ev
section
variable {α : Type} [Inhabited α]
def lastA (xs : List α) : α := xs.getLast?.getD default
def Hm (f : Int → α) (op : α → α → α) (w : Int) (k : Nat) (new : List (Int × Int)) : Prop := ∀ (j : Nat) q, new[j]? = some q → f (w + (k : Int) + (j : Int)) = op (f q.1) (f q.2)
theorem Hm.left {f : Int → α} {op : α → α → α} {w : Int} {k : Nat} {a b : List (Int × Int)} (h : Hm f op w k (a ++ b)) : Hm f op w k a := fun j q hj => h j q (by rw [List.getElem?_append_left (List.getElem?_eq_some_iff.mp hj).1]; exact hj)
theorem Hm.rng {f : Int → α} {op : α → α → α} {w : Int} {k : Nat} {new : List (Int × Int)} (h : Hm f op w k new) : ((List.range new.length).map fun (j : Nat) => w + (k : Int) + (j : Int)).map f = new.map fun q => op (f q.1) (f q.2) := by
  apply List.ext_getElem?
  intro i
  rw [List.map_map, List.getElem?_map, List.getElem?_map]
  by_cases hi : i < new.length
  · rw [List.getElem?_range hi, List.getElem?_eq_getElem hi]
    exact congrArg some (h i _ (List.getElem?_eq_getElem hi))
  · rw [List.getElem?_eq_none (by simp; omega), List.getElem?_eq_none (by omega)]; rfl
def m3 (f : Int → α) (z : Int × Int × List Int) : α × α × List α := (f z.1, f z.2.1, z.2.2.map f)
def pre (op : α → α → α) : List α → List α
  | [] => []
  | x :: xs => x :: (pre op xs).map (op x)
end
end Ev

end
section
set_option Elab.async false
set_option linter.all false
set_option maxRecDepth 100000
set_option maxHeartbeats 1000000
namespace Ev
def Bd (w : Int) (k : Nat) (v : Int) : Prop := 0 ≤ v ∧ v < w + (k : Int)
theorem Bd.mono {w v : Int} {k k' : Nat} (h : Bd w k v) (hk : k ≤ k') : Bd w k' v := ⟨h.1, by have := h.2; omega⟩
def Up (w : Int) (k : Nat) (new : List (Int × Int)) : Prop := ∀ (j : Nat) q, new[j]? = some q → Bd w (k + j) q.1 ∧ Bd w (k + j) q.2
theorem Up.app {w : Int} {k : Nat} {a b : List (Int × Int)} (h : Up w k a) (h' : Up w (k + a.length) b) : Up w k (a ++ b) := fun j q hj => by
  rw [List.getElem?_append] at hj
  split at hj
  · exact h j q hj
  · have := h' (j - a.length) q hj
    rwa [show k + a.length + (j - a.length) = k + j by omega] at this
theorem Up.of {w : Int} {k : Nat} {new : List (Int × Int)} (h : ∀ q ∈ new, Bd w k q.1 ∧ Bd w k q.2) : Up w k new := fun j q hj =>
  have := h q (List.mem_of_getElem? hj)
  ⟨this.1.mono (by omega), this.2.mono (by omega)⟩
end Ev

end
section
set_option Elab.async false
set_option linter.all false
set_option maxRecDepth 100000
set_option maxHeartbeats 1000000
namespace Ev
section
variable {α : Type} [Inhabited α]
def hkS (op : α → α → α) : Nat → Nat → List α → List α → List α × List α
  | 0, _, xs, ks => (xs, ks)
  | f + 1, s, xs, ks => if s < xs.length then hkS op f (2 * s) (xs.take s ++ List.zipWith op xs (xs.drop s)) (ks ++ List.zipWith op xs (xs.drop s)) else (xs, ks)
def hkF (op : α → α → α) : List (α × α × List α) → List α → List α → List α × List α
  | [], es, ks => (es, ks)
  | (a, t, row) :: r, es, ks => hkF op r (es ++ row.dropLast.map (op a) ++ [t]) (ks ++ row.dropLast.map (op a))
mutual
def hkP (op : α → α → α) : Pa → List α → List α → List α × List α
  | .st _, xs, ks => hkS op 7 1 xs ks
  | .bl o bs, xs, ks =>
    let rs := hkR op bs xs ks
    let ts := hkP op o (rs.1.map lastA) rs.2
    hkF op (ts.1.zip (ts.1.tail.zip rs.1.tail)) ((rs.1.headD []).dropLast ++ ts.1.take 1) ts.2
def hkR (op : α → α → α) : List Pa → List α → List α → List (List α) × List α
  | [], _, ks => ([], ks)
  | b :: bs, xs, ks =>
    let e := hkP op b (xs.take (wid b)) ks
    let r := hkR op bs (xs.drop (wid b)) e.2
    (e.1 :: r.1, r.2)
end
def kv (f : Int → α) (op : α → α → α) (kn : List (Int × Int)) : List α := kn.map fun q => op (f q.1) (f q.2)
end
end Ev

end
section
set_option Elab.async false
set_option linter.all false
set_option maxRecDepth 100000
set_option maxHeartbeats 4000000
namespace Ev
def dn (a b : Nat) : Nat := 1 + max a b
def lvN (p : Pa) : List Nat × List Nat := hkP dn p (List.replicate (wid p) 0) []
section
variable {β : Type}
def frc (x : Nat) (k : Nat → β) : β := match x with
  | 0 => k 0
  | n + 1 => k (n + 1)
theorem frc_eq (x : Nat) (k : Nat → β) : frc x k = k x := by cases x <;> rfl
def frL : List Nat → (List Nat → β) → β
  | [], k => k []
  | x :: xs, k => frc x fun y => frL xs fun ys => k (y :: ys)
theorem frL_eq : ∀ (xs : List Nat) (k : List Nat → β), frL xs k = k xs
  | [], k => rfl
  | x :: xs, k => by rw [frL, frc_eq, frL_eq]
def skS : Nat → Nat → List Nat → List Nat → (List Nat → List Nat → β) → β
  | 0, _, xs, ks, k => k xs ks
  | f + 1, s, xs, ks, k => if s < xs.length then frL (List.zipWith dn xs (xs.drop s)) fun z => frL (xs.take s ++ z) fun ys => skS f (2 * s) ys (ks ++ z) k else k xs ks
theorem skS_eq : ∀ (f s : Nat) (xs ks : List Nat) (k : List Nat → List Nat → β), skS f s xs ks k = k (hkS dn f s xs ks).1 (hkS dn f s xs ks).2
  | 0, s, xs, ks, k => by rw [skS, hkS]
  | f + 1, s, xs, ks, k => by
    rw [skS, hkS]
    by_cases h : s < xs.length
    · rw [if_pos h, if_pos h, frL_eq, frL_eq, skS_eq]
    · rw [if_neg h, if_neg h]
def skF : List (Nat × Nat × List Nat) → List Nat → List Nat → (List Nat → List Nat → β) → β
  | [], es, ks, k => frL es fun es => k es ks
  | (a, t, row) :: r, es, ks, k => frL (row.dropLast.map (dn a)) fun z => skF r (es ++ z ++ [t]) (ks ++ z) k
theorem skF_eq : ∀ (zs : List (Nat × Nat × List Nat)) (es ks : List Nat) (k : List Nat → List Nat → β), skF zs es ks k = k (hkF dn zs es ks).1 (hkF dn zs es ks).2
  | [], es, ks, k => by rw [skF, hkF, frL_eq]
  | (a, t, row) :: r, es, ks, k => by rw [skF, hkF, frL_eq, skF_eq]
mutual
def skP : Pa → List Nat → List Nat → (List Nat → List Nat → β) → β
  | .st _, xs, ks, k => skS 7 1 xs ks k
  | .bl o bs, xs, ks, k => skR bs xs ks fun rs k1 => frL (rs.map lastA) fun ls => skP o ls k1 fun ts k2 => skF (ts.zip (ts.tail.zip rs.tail)) ((rs.headD []).dropLast ++ ts.take 1) k2 k
def skR : List Pa → List Nat → List Nat → (List (List Nat) → List Nat → β) → β
  | [], _, ks, k => k [] ks
  | b :: bs, xs, ks, k => frc (wid b) fun n => frL (xs.take n) fun ys => skP b ys ks fun e k1 => frL (xs.drop n) fun zs => skR bs zs k1 fun r k2 => k (e :: r) k2
end
theorem skP_eq : ∀ (p : Pa) (xs ks : List Nat) (k : List Nat → List Nat → β), skP p xs ks k = k (hkP dn p xs ks).1 (hkP dn p xs ks).2 := by
  intro p
  induction p using Pa.ind with
  | h1 n => intro xs ks k; rw [skP, hkP, skS_eq]
  | h2 o bs io ib =>
    intro xs ks k
    have g : ∀ (cs : List Pa), (∀ c ∈ cs, ∀ (xs ks : List Nat) (k : List Nat → List Nat → β), skP c xs ks k = k (hkP dn c xs ks).1 (hkP dn c xs ks).2) → ∀ (xs ks : List Nat) (k : List (List Nat) → List Nat → β), skR cs xs ks k = k (hkR dn cs xs ks).1 (hkR dn cs xs ks).2 := by
      intro cs
      induction cs with
      | nil => intro _ xs ks k; rw [skR, hkR]
      | cons c cs ih =>
        intro h xs ks k
        rw [skR, frc_eq, frL_eq, h c List.mem_cons_self, frL_eq, ih fun d hd => h d (List.mem_cons_of_mem _ hd), hkR]
    rw [skP, g bs ib, frL_eq, io, skF_eq, hkP]
end
def mxN : List Nat → Nat
  | [] => 0
  | x :: xs => max x (mxN xs)
def mxA : Nat → List Nat → Nat
  | m, [] => m
  | m, x :: xs => frc (max m x) fun m' => mxA m' xs
theorem mxA_eq : ∀ (m : Nat) (xs : List Nat), mxA m xs = max m (mxN xs)
  | m, [] => by rw [mxA, mxN]; omega
  | m, x :: xs => by rw [mxA, frc_eq, mxA_eq, mxN]; omega
mutual
def okB : Pa → Bool
  | .st n => Nat.ble 1 n && Nat.ble n 64
  | .bl o bs => okB o && (okBs bs && (Nat.beq (wid o) bs.length && (Nat.ble 2 bs.length && (Nat.ble (wids bs) 64 && Nat.ble (kno o + knos bs + exs bs.tail) 1000))))
def okBs : List Pa → Bool
  | [] => true
  | b :: bs => okB b && okBs bs
end
theorem okB_ok : ∀ (p : Pa), okB p = true → okP p := by
  intro p
  induction p using Pa.ind with
  | h1 n => intro h; rw [okB] at h; rw [okP]; simp at h; exact h
  | h2 o bs io ib =>
    intro h
    rw [okB] at h
    simp only [Bool.and_eq_true, Nat.beq_eq, Nat.ble_eq] at h
    obtain ⟨h1, h2, h3, h4, h5, h6⟩ := h
    rw [okP]
    refine ⟨io h1, ?_, h3, h4, h5, h6⟩
    have g : ∀ (cs : List Pa), (∀ c ∈ cs, okB c = true → okP c) → okBs cs = true → okPs cs := by
      intro cs
      induction cs with
      | nil => intro _ _; rw [okPs]; trivial
      | cons c cs ih =>
        intro hc h
        rw [okBs, Bool.and_eq_true] at h
        rw [okPs]
        exact ⟨hc c List.mem_cons_self h.1, ih (fun d hd => hc d (List.mem_cons_of_mem _ hd)) h.2⟩
    exact g bs ib h2
def prs2 (w : Nat) : List Pa := List.replicate (w / 2) (.st 2) ++ List.replicate (w % 2) (.st 1)
def byO : Nat → Nat → Pa
  | 0, w => .st w
  | n + 1, w => if w ≤ 2 then .st w else frc (w - 1) fun v => .bl (.st 2) [byO n v, .st 1]
def byH : Nat → Nat → Pa
  | 0, w => .st w
  | n + 1, w => if w ≤ 2 then .st w else frc ((w + 1) / 2) fun h => frc (w - h) fun r => .bl (.st 2) [byH n h, byH n r]
def byP : Nat → Nat → Pa
  | 0, w => .st w
  | n + 1, w => if w ≤ 2 then .st w else frc ((w + 1) / 2) fun h => .bl (byP n h) (prs2 w)
def byT (w : Nat) : Pa := if w ≤ 2 then .st w else .bl (.st ((w + 1) / 2)) (prs2 w)
def spr : Nat → Nat → Nat → Pa
  | 0, w, _ => .st w
  | n + 1, w, s => if w ≤ 2 then .st w else frc ((w + 1) / 2) fun h => frc (w - h) fun r => if s = 0 then .bl (.st 2) [spr n h 1, spr n r 0] else frc (s - 1) fun u => .bl (spr n h u) (prs2 w)
def bks (w z : Nat) : List Pa := List.replicate (w / z) (.st z) ++ (if 0 < w % z then [.st (w % z)] else [])
def byB (w z : Nat) : Pa := if w ≤ 2 ∨ w ≤ z then .st w else .bl (byH 8 (bks w z).length) (bks w z)
def gd (w : Nat) (p : Pa) : Bool := okB p && (Nat.beq (wid p) w && Nat.ble (dep p) 70)
def chk (c : Nat) (w m : Nat) (p : Pa) : Bool :=
  gd w p && skP p (List.replicate w 0) [] fun es ks => frc (mxA 0 ks) fun d => frc (ldp 7 1 0 w) fun l => (match c with
  | 0 => Nat.beq d l
  | 1 => Nat.beq (kno p) (w - 1) && Nat.beq d (w - 1)
  | 2 => Nat.beq d l && Nat.ble (kno p) (l * (w / 2))
  | 3 => Nat.beq (kno p + 2 + l) (2 * w) && Nat.ble d (2 * l - 1)
  | 4 => Nat.ble d (l + 1)
  | 5 => Nat.ble d (l + m) && Nat.beq (lastA es) l
  | _ => Nat.ble d (1 + ldp 7 1 0 (min w m) + ldp 7 1 0 ((w + m - 1) / m)))
def upTo : Nat → (Nat → Bool) → Bool
  | 0, _ => true
  | n + 1, f => f n && upTo n f
theorem upTo_at {n : Nat} {f : Nat → Bool} (h : upTo n f = true) {i : Nat} (hi : i < n) : f i = true := by
  induction n with
  | zero => omega
  | succ n ih =>
    rw [upTo, Bool.and_eq_true] at h
    by_cases e : i = n
    · subst e; exact h.1
    · exact ih h.2 (by omega)
end Ev

end
section
set_option Elab.async false
set_option linter.all false
set_option maxRecDepth 100000
set_option maxHeartbeats 4000000
namespace Ev
def LeA (d : Nat) (xs : List Nat) : Prop := ∀ x ∈ xs, x ≤ d
theorem LeA.mono {d d' : Nat} {xs : List Nat} (h : LeA d xs) (hd : d ≤ d') : LeA d' xs := fun x hx => Nat.le_trans (h x hx) hd
theorem LeA.app {d : Nat} {xs ys : List Nat} (h : LeA d xs) (h' : LeA d ys) : LeA d (xs ++ ys) := fun x hx => by
  rcases List.mem_append.mp hx with h1 | h1
  · exact h x h1
  · exact h' x h1
theorem zw_le {d : Nat} : ∀ {xs ys : List Nat}, LeA d xs → LeA d ys → LeA (d + 1) (List.zipWith dn xs ys)
  | [], _, _, _ => by intro x hx; simp at hx
  | _ :: _, [], _, _ => by intro x hx; simp at hx
  | a :: xs, b :: ys, h, h' => by
    intro x hx
    rw [List.zipWith_cons_cons] at hx
    rcases List.mem_cons.mp hx with rfl | hx
    · have := h a List.mem_cons_self; have := h' b List.mem_cons_self; unfold dn; omega
    · exact zw_le (fun y hy => h y (List.mem_cons_of_mem _ hy)) (fun y hy => h' y (List.mem_cons_of_mem _ hy)) x hx
theorem ldp_ge : ∀ (f r d n : Nat), d ≤ ldp f r d n
  | 0, r, d, n => Nat.le_refl _
  | f + 1, r, d, n => by
    rw [ldp]
    by_cases h : r < n
    · rw [if_pos h]; have := ldp_ge f (2 * r) (d + 1) n; omega
    · rw [if_neg h]; exact Nat.le_refl _
theorem hkS_le : ∀ (f s : Nat) (xs ks : List Nat) (d e E D : Nat), LeA d xs → d + (ldp f s e xs.length - e) ≤ E → E ≤ D → LeA D ks → LeA E (hkS dn f s xs ks).1 ∧ LeA D (hkS dn f s xs ks).2
  | 0, s, xs, ks, d, e, E, D, h, hE, hD, hk => by rw [hkS]; exact ⟨h.mono (by omega), hk⟩
  | f + 1, s, xs, ks, d, e, E, D, h, hE, hD, hk => by
    rw [hkS]
    by_cases hs : s < xs.length
    · rw [if_pos hs]
      rw [ldp, if_pos hs] at hE
      have g := ldp_ge f (2 * s) (e + 1) xs.length
      have z := zw_le h (fun x hx => h x (List.mem_of_mem_drop hx) : LeA d (xs.drop s))
      have l : (xs.take s ++ List.zipWith dn xs (xs.drop s)).length = xs.length := by simp; omega
      exact hkS_le f (2 * s) (xs.take s ++ List.zipWith dn xs (xs.drop s)) (ks ++ List.zipWith dn xs (xs.drop s)) (d + 1) (e + 1) E D (LeA.app (fun x hx => Nat.le_succ_of_le (h x (List.mem_of_mem_take hx))) z) (by rw [l]; omega) hD (hk.app (z.mono (by omega)))
    · rw [if_neg hs]; exact ⟨h.mono (by omega), hk⟩
theorem hkF_le {D G : Nat} : ∀ (zs : List (Nat × Nat × List Nat)) (es ks : List Nat), (∀ z ∈ zs, z.1 ≤ D ∧ z.2.1 ≤ D + 1 ∧ LeA D z.2.2) → LeA (D + 1) es → LeA G ks → D + 1 ≤ G → LeA (D + 1) (hkF dn zs es ks).1 ∧ LeA G (hkF dn zs es ks).2
  | [], es, ks, _, he, hk, _ => by rw [hkF]; exact ⟨he, hk⟩
  | (a, t, row) :: r, es, ks, h, he, hk, hG => by
    have h0 := h (a, t, row) List.mem_cons_self
    have m : LeA (D + 1) (row.dropLast.map (dn a)) := fun x hx => by
      obtain ⟨y, hy, rfl⟩ := List.mem_map.mp hx
      have := h0.2.2 y ((List.dropLast_sublist _).subset hy)
      have := h0.1
      unfold dn; omega
    rw [hkF]
    refine hkF_le r _ _ (fun z hz => h z (List.mem_cons_of_mem _ hz)) ((he.app m).app fun x hx => ?_) (hk.app (m.mono hG)) hG
    simp at hx; subst hx; exact h0.2.1
theorem lastA_le {D : Nat} {xs : List Nat} (h : LeA D xs) : lastA xs ≤ D := by
  unfold lastA
  cases e : xs.getLast? with
  | none => exact Nat.zero_le _
  | some x => exact h x (List.mem_of_getLast? e)
theorem l_half : upTo 62 (fun k => frc (k + 3) fun w => Nat.beq (ldp 7 1 0 w) (1 + ldp 7 1 0 ((w + 1) / 2)) && Nat.ble (ldp 7 1 0 (w - (w + 1) / 2)) (ldp 7 1 0 ((w + 1) / 2))) = true := by decide +kernel
theorem half_at {w : Nat} (h1 : 3 ≤ w) (h2 : w ≤ 64) : ldp 7 1 0 w = 1 + ldp 7 1 0 ((w + 1) / 2) ∧ ldp 7 1 0 (w - (w + 1) / 2) ≤ ldp 7 1 0 ((w + 1) / 2) := by
  have := upTo_at l_half (i := w - 3) (by omega)
  rw [frc_eq, show w - 3 + 3 = w by omega] at this
  simpa using this
theorem byH_st {n w : Nat} (h : w ≤ 2) : byH n w = .st w := by
  cases n with
  | zero => rw [byH]
  | succ n => rw [byH, if_pos h]
theorem byH_bl {n w : Nat} (h : ¬ w ≤ 2) : byH (n + 1) w = .bl (.st 2) [byH n ((w + 1) / 2), byH n (w - (w + 1) / 2)] := by
  rw [byH, if_neg h, frc_eq, frc_eq]
theorem byH_drw : ∀ (n w : Nat), 1 ≤ n → n ≤ 8 → 1 ≤ w → w ≤ 64 → w ≤ 2 ^ n → Drw n w (byH n w)
  | 0, w, h, _, _, _, _ => by omega
  | n + 1, w, h1, h2, w1, w2, wn => by
    by_cases hw : w ≤ 2
    · rw [byH_st hw]; exact Drw.st w1 w2 (by omega)
    · rw [byH_bl hw]
      rw [Nat.pow_succ] at wn
      have n1 : 1 ≤ n := by
        cases n with
        | zero => simp at wn; omega
        | succ n => omega
      have b1 := byH_drw n ((w + 1) / 2) n1 (by omega) (by omega) (by omega) (by omega)
      have b2 := byH_drw n (w - (w + 1) / 2) n1 (by omega) (by omega) (by omega) (by omega)
      refine Drw.bl (ws := [(w + 1) / 2, w - (w + 1) / 2]) (Drw.st (w := 2) (by omega) (by omega) n1) rfl rfl ?_ (by simp; omega) (by omega) w2 (by omega)
      intro i b v hb hv
      match i, hb, hv with
      | 0, hb, hv => simp at hb hv; subst hb; subst hv; exact ⟨by omega, b1⟩
      | 1, hb, hv => simp at hb hv; subst hb; subst hv; exact ⟨by omega, b2⟩
theorem two {a b : Nat} {ks : List Nat} : hkP dn (.st 2) [a, b] ks = ([a, dn a b], ks ++ [dn a b]) := by
  rw [hkP]
  simp [hkS]
theorem byH_le : ∀ (n w : Nat), 1 ≤ n → n ≤ 8 → 1 ≤ w → w ≤ 64 → w ≤ 2 ^ n → ∀ (xs ks : List Nat) (d E D : Nat), xs.length = w → LeA d xs → d + ldp 7 1 0 w ≤ E → E ≤ D → LeA D ks → LeA E (hkP dn (byH n w) xs ks).1 ∧ LeA D (hkP dn (byH n w) xs ks).2
  | 0, w, h, _, _, _, _ => by omega
  | n + 1, w, h1, h2, w1, w2, wn => by
    intro xs ks d D' D hl hx hE hD hk
    by_cases hw : w ≤ 2
    · rw [byH_st hw, hkP]
      exact hkS_le 7 1 xs ks d 0 D' D hx (by rw [hl]; omega) hD hk
    · obtain ⟨l1, l2⟩ := half_at (by omega) w2
      rw [Nat.pow_succ] at wn
      have n1 : 1 ≤ n := by
        cases n with
        | zero => simp at wn; omega
        | succ n => omega
      have b1 := byH_drw n ((w + 1) / 2) n1 (by omega) (by omega) (by omega) (by omega)
      have b2 := byH_drw n (w - (w + 1) / 2) n1 (by omega) (by omega) (by omega) (by omega)
      obtain ⟨E, rfl⟩ : ∃ E, D' = E + 1 := ⟨D' - 1, by omega⟩
      rw [byH_bl hw, hkP]
      simp only [hkR, b1.wi, b2.wi, List.map_cons, List.map_nil]
      have r1 := byH_le n ((w + 1) / 2) n1 (by omega) (by omega) (by omega) (by omega) (xs.take ((w + 1) / 2)) ks d E D (by rw [List.length_take]; omega) (fun x h => hx x (List.mem_of_mem_take h)) (by omega) (by omega) hk
      generalize hkP dn (byH n ((w + 1) / 2)) (xs.take ((w + 1) / 2)) ks = e1 at *
      have r2 := byH_le n (w - (w + 1) / 2) n1 (by omega) (by omega) (by omega) (by omega) ((xs.drop ((w + 1) / 2)).take (w - (w + 1) / 2)) e1.2 d E D (by rw [List.length_take, List.length_drop]; omega) (fun x h => hx x (List.mem_of_mem_drop (List.mem_of_mem_take h))) (by omega) (by omega) r1.2
      generalize hkP dn (byH n (w - (w + 1) / 2)) ((xs.drop ((w + 1) / 2)).take (w - (w + 1) / 2)) e1.2 = e2 at *
      rw [two]
      have a1 := lastA_le r1.1
      have a2 := lastA_le r2.1
      have ad : dn (lastA e1.1) (lastA e2.1) ≤ E + 1 := by unfold dn; omega
      have F := hkF_le (D := E) (G := D) [(lastA e1.1, dn (lastA e1.1) (lastA e2.1), e2.1)] (e1.1.dropLast ++ [lastA e1.1]) (e2.2 ++ [dn (lastA e1.1) (lastA e2.1)]) (fun z hz => by simp at hz; subst hz; exact ⟨a1, ad, r2.1⟩) (LeA.app (fun x hx' => Nat.le_succ_of_le (r1.1 x ((List.dropLast_sublist _).subset hx'))) (fun x hx' => by simp at hx'; omega)) (r2.2.app fun x hx' => by simp at hx'; omega) (by omega)
      simpa using F
theorem hkR_st {L : Nat} : ∀ (ns xs ks : List Nat) (d D : Nat), (∀ n ∈ ns, ldp 7 1 0 n ≤ L) → (∀ n ∈ ns, n ≤ 64) → LeA d xs → d + L ≤ D → LeA D ks → ns.sum ≤ xs.length → (∀ r ∈ (hkR dn (ns.map Pa.st) xs ks).1, LeA (d + L) r) ∧ LeA D (hkR dn (ns.map Pa.st) xs ks).2 ∧ (hkR dn (ns.map Pa.st) xs ks).1.length = ns.length
  | [], xs, ks, d, D, _, _, _, _, hk, _ => by simp [hkR, hk]
  | n :: ns, xs, ks, d, D, hL, h64, hx, hD, hk, hs => by
    rw [List.sum_cons] at hs
    rw [List.map_cons, hkR]
    try dsimp only
    rw [hkP]
    simp only [wid]
    have l0 := hL n List.mem_cons_self
    have s := hkS_le 7 1 (xs.take n) ks d 0 (d + L) D (fun x h => hx x (List.mem_of_mem_take h)) (by rw [List.length_take, Nat.min_eq_left (by omega)]; omega) (by omega) hk
    have r := hkR_st ns (xs.drop n) (hkS dn 7 1 (xs.take n) ks).2 d D (fun m hm => hL m (List.mem_cons_of_mem _ hm)) (fun m hm => h64 m (List.mem_cons_of_mem _ hm)) (fun x h => hx x (List.mem_of_mem_drop h)) hD s.2 (by rw [List.length_drop]; omega)
    refine ⟨fun q hq => ?_, r.2.1, by simp [r.2.2]⟩
    rcases List.mem_cons.mp hq with rfl | hq
    · exact s.1
    · exact r.1 q hq
def bkn (w z : Nat) : List Nat := List.replicate (w / z) z ++ (if 0 < w % z then [w % z] else [])
theorem bks_map {w z : Nat} : bks w z = (bkn w z).map Pa.st := by
  unfold bks bkn
  rw [List.map_append, List.map_replicate]
  split <;> rfl
theorem bkn_sum {w z : Nat} : (bkn w z).sum = w := by
  unfold bkn
  rw [List.sum_append, List.sum_replicate_nat]
  have := Nat.div_add_mod w z
  rw [Nat.mul_comm] at this
  split
  · simp; omega
  · simp; omega
theorem l_blk : upTo 64 (fun a => frc (a + 1) fun w => upTo 64 fun b => frc (b + 1) fun z => Nat.ble w z || (Nat.beq (bkn w z).length ((w + z - 1) / z) && (Nat.ble 2 (bkn w z).length && (Nat.ble (bkn w z).length 64 && Nat.ble (ldp 7 1 0 (w % z)) (ldp 7 1 0 z))))) = true := by decide +kernel
theorem byB_ok {w z : Nat} (w1 : 1 ≤ w) (w2 : w ≤ 64) (z1 : 1 ≤ z) (z2 : z ≤ 64) : Drw 9 w (byB w z) ∧ LeA (1 + ldp 7 1 0 (min w z) + ldp 7 1 0 ((w + z - 1) / z)) (hkP dn (byB w z) (List.replicate w 0) []).2 := by
  unfold byB
  have zero : LeA 0 (List.replicate w 0) := fun x hx => by rw [List.eq_of_mem_replicate hx]; exact Nat.le_refl _
  by_cases h : w ≤ 2 ∨ w ≤ z
  · rw [if_pos h]
    refine ⟨Drw.st w1 w2 (by omega), ?_⟩
    rw [hkP]
    have hm : ldp 7 1 0 w ≤ 1 + ldp 7 1 0 (min w z) := by
      rcases h with h | h
      · have : w = 1 ∨ w = 2 := by omega
        rcases this with rfl | rfl
        · exact Nat.le_trans (by decide) (Nat.le_add_right _ _)
        · exact Nat.le_trans (show ldp 7 1 0 2 ≤ 1 by decide) (Nat.le_add_right _ _)
      · rw [Nat.min_eq_left h]; omega
    exact (hkS_le 7 1 (List.replicate w 0) [] 0 0 _ _ zero (by rw [List.length_replicate]; omega) (Nat.le_refl _) (by intro x hx; simp at hx)).2
  · rw [if_neg h]
    have hw : 3 ≤ w ∧ z < w := by omega
    have q := upTo_at (upTo_at l_blk (i := w - 1) (by omega) |> fun h => by rw [frc_eq] at h; exact h) (i := z - 1) (by omega)
    rw [frc_eq, show w - 1 + 1 = w by omega, show z - 1 + 1 = z by omega] at q
    simp only [Bool.or_eq_true, Bool.and_eq_true, Nat.ble_eq, Nat.beq_eq] at q
    obtain ⟨q1, q2, q3, q4⟩ := q.resolve_left (by omega)
    have bl : (bks w z).length = (bkn w z).length := by rw [bks_map, List.length_map]
    rw [bl]
    have hH := byH_drw 8 (bkn w z).length (by decide) (by decide) (by omega) q3 (by omega)
    have mem : ∀ n ∈ bkn w z, 1 ≤ n ∧ n ≤ z ∧ ldp 7 1 0 n ≤ ldp 7 1 0 z := fun n hn => by
      unfold bkn at hn
      rcases List.mem_append.mp hn with hn | hn
      · rw [List.eq_of_mem_replicate hn]; exact ⟨z1, Nat.le_refl _, Nat.le_refl _⟩
      · split at hn
        · simp at hn; subst hn; exact ⟨by omega, Nat.le_of_lt (Nat.mod_lt _ (by omega)), q4⟩
        · simp at hn
    refine ⟨?_, ?_⟩
    · rw [bks_map]
      refine Drw.bl (d := 8) (ws := bkn w z) hH (by simp) (by simp) ?_ bkn_sum q2 w2 (by omega)
      intro i b v hb hv
      rw [List.getElem?_map, hv] at hb
      cases hb
      have := mem v (List.mem_of_getElem? hv)
      exact ⟨this.1, Drw.st this.1 (by omega) (by decide)⟩
    · rw [Nat.min_eq_right (by omega), ← q1, hkP]
      try dsimp only
      rw [bks_map]
      have r := hkR_st (L := ldp 7 1 0 z) (bkn w z) (List.replicate w 0) [] 0 (1 + ldp 7 1 0 z + ldp 7 1 0 (bkn w z).length) (fun n hn => (mem n hn).2.2) (fun n hn => by have := mem n hn; omega) zero (by omega) (by intro x hx; simp at hx) (by rw [bkn_sum, List.length_replicate]; exact Nat.le_refl _)
      generalize hkR dn ((bkn w z).map Pa.st) (List.replicate w 0) [] = R at *
      have t := byH_le 8 (bkn w z).length (by decide) (by decide) (by omega) q3 (by omega) (R.1.map lastA) R.2 (ldp 7 1 0 z) (ldp 7 1 0 z + ldp 7 1 0 (bkn w z).length) (1 + ldp 7 1 0 z + ldp 7 1 0 (bkn w z).length) (by rw [List.length_map]; exact r.2.2) (fun x hx => by
        obtain ⟨q, hq, rfl⟩ := List.mem_map.mp hx
        have := lastA_le (r.1 q hq)
        omega) (by omega) (by omega) r.2.1
      generalize hkP dn (byH 8 (bkn w z).length) (R.1.map lastA) R.2 = T at *
      have F := hkF_le (D := ldp 7 1 0 z + ldp 7 1 0 (bkn w z).length) (G := 1 + ldp 7 1 0 z + ldp 7 1 0 (bkn w z).length) (T.1.zip (T.1.tail.zip R.1.tail)) ((R.1.headD []).dropLast ++ T.1.take 1) T.2 (by
        rintro ⟨a, t', row⟩ hz
        have z1 := List.of_mem_zip hz
        have z2 := List.of_mem_zip z1.2
        exact ⟨t.1 a z1.1, Nat.le_succ_of_le (t.1 t' (List.mem_of_mem_tail z2.1)), fun x hx => by have := r.1 row (List.mem_of_mem_tail z2.2) x hx; omega⟩) (LeA.app (fun x hx => by
        cases hR : R.1 with
        | nil => rw [hR] at hx; simp at hx
        | cons r0 rs =>
          rw [hR] at hx
          have := r.1 r0 (by rw [hR]; exact List.mem_cons_self) x ((List.dropLast_sublist _).subset hx)
          omega) fun x hx => Nat.le_succ_of_le (t.1 x (List.mem_of_mem_take hx))) t.2 (by omega)
      exact F.2
end Ev

end
section
set_option Elab.async false
set_option linter.all false
set_option maxRecDepth 100000
set_option maxHeartbeats 4000000
namespace Ev
theorem c0 : upTo 64 (fun k => frc (k + 1) fun w => chk 0 w 0 (.st w)) = true := by decide +kernel
theorem c1 : upTo 64 (fun k => frc (k + 1) fun w => chk 1 w 0 (byO 66 w)) = true := by decide +kernel
theorem c2 : upTo 64 (fun k => frc (k + 1) fun w => chk 2 w 0 (byH 8 w)) = true := by decide +kernel
theorem c3 : upTo 64 (fun k => frc (k + 1) fun w => chk 3 w 0 (byP 8 w)) = true := by decide +kernel
theorem c4 : upTo 64 (fun k => frc (k + 1) fun w => chk 4 w 0 (byT w)) = true := by decide +kernel
theorem c5 : upTo 64 (fun k => frc (k + 1) fun w => upTo 7 fun s => frc s fun s => chk 5 w s (spr 8 w s)) = true := by decide +kernel
end Ev

end
section
set_option Elab.async false
set_option linter.all false
set_option maxRecDepth 100000
set_option maxHeartbeats 4000000
namespace Ev
structure Rf (w : Nat) (p : Pa) : Prop where
  ok : okP p
  wi : wid p = w
  de : dep p ≤ 70
theorem gd_rf {w : Nat} {p : Pa} (h : gd w p = true) : Rf w p := by
  unfold gd at h
  simp only [Bool.and_eq_true, Nat.beq_eq, Nat.ble_eq] at h
  exact ⟨okB_ok p h.1, h.2.1, h.2.2⟩
theorem chk_at {c w m : Nat} {p : Pa} (h : chk c w m p = true) : Rf w p ∧ (match c with
  | 0 => Nat.beq (mxN (lvN p).2) (ldp 7 1 0 w)
  | 1 => Nat.beq (kno p) (w - 1) && Nat.beq (mxN (lvN p).2) (w - 1)
  | 2 => Nat.beq (mxN (lvN p).2) (ldp 7 1 0 w) && Nat.ble (kno p) (ldp 7 1 0 w * (w / 2))
  | 3 => Nat.beq (kno p + 2 + ldp 7 1 0 w) (2 * w) && Nat.ble (mxN (lvN p).2) (2 * ldp 7 1 0 w - 1)
  | 4 => Nat.ble (mxN (lvN p).2) (ldp 7 1 0 w + 1)
  | 5 => Nat.ble (mxN (lvN p).2) (ldp 7 1 0 w + m) && Nat.beq (lastA (lvN p).1) (ldp 7 1 0 w)
  | _ => Nat.ble (mxN (lvN p).2) (1 + ldp 7 1 0 (min w m) + ldp 7 1 0 ((w + m - 1) / m))) = true := by
  unfold chk at h
  rw [Bool.and_eq_true] at h
  have r := gd_rf h.1
  refine ⟨r, ?_⟩
  have h2 := h.2
  rw [skP_eq, frc_eq, frc_eq, mxA_eq, Nat.max_eq_right (Nat.zero_le _)] at h2
  unfold lvN
  rw [r.wi]
  rcases c with _ | _ | _ | _ | _ | _ | c <;> exact h2
end Ev

end
section
set_option Elab.async false
set_option linter.all false
set_option maxRecDepth 100000
set_option maxHeartbeats 1000000
namespace LW
open PySem PySem.Spec PyProof.Rows L2 Ev Xc
section
variable {P : Program} {w : World} {K : PySem.W.Frag} {mg : Str → Option Value} {base : Heap} {q : Q0}
abbrev caught : List Str := ["NoWidth", "NoSpare", "NoSize"]
abbrev rows : List Xc.Row := ("NoWidth", .inl "Bracketed", false) :: ("NoWidth", .inl "NetError", true) :: ("NoWidth", .inl "NoDepth", false) :: ("NoWidth", .inl "NoEnds", false) :: ("NoWidth", .inl "NoHands", false) :: ("NoWidth", .inl "NoJoining", false) :: ("NoWidth", .inl "NoName", false) :: ("NoWidth", .inl "NoNet", false) :: ("NoWidth", .inl "NoPaper", false) :: ("NoWidth", .inl "NoPlace", false) :: ("NoWidth", .inl "NoRounds", false) :: ("NoWidth", .inl "NoRow", false) :: ("NoWidth", .inl "NoSize", false) :: ("NoWidth", .inl "NoSpare", false) :: ("NoWidth", .inl "NoText", false) :: ("NoWidth", .inl "NoThing", false) :: ("NoWidth", .inl "NoThings", false) :: ("NoWidth", .inl "NoWidth", true) :: ("NoWidth", .inl "NoWindow", false) :: ("NoWidth", .inl "NotBeside", false) :: ("NoWidth", .inl "TooMany", false) :: ("NoWidth", .inl "TooShallow", false) :: ("NoWidth", .inr "ValueError", true) :: ("NoSpare", .inl "Bracketed", false) :: ("NoSpare", .inl "NetError", true) :: ("NoSpare", .inl "NoDepth", false) :: ("NoSpare", .inl "NoEnds", false) :: ("NoSpare", .inl "NoHands", false) :: ("NoSpare", .inl "NoJoining", false) :: ("NoSpare", .inl "NoName", false) :: ("NoSpare", .inl "NoNet", false) :: ("NoSpare", .inl "NoPaper", false) :: ("NoSpare", .inl "NoPlace", false) :: ("NoSpare", .inl "NoRounds", false) :: ("NoSpare", .inl "NoRow", false) :: ("NoSpare", .inl "NoSize", false) :: ("NoSpare", .inl "NoSpare", true) :: ("NoSpare", .inl "NoText", false) :: ("NoSpare", .inl "NoThing", false) :: ("NoSpare", .inl "NoThings", false) :: ("NoSpare", .inl "NoWidth", false) :: ("NoSpare", .inl "NoWindow", false) :: ("NoSpare", .inl "NotBeside", false) :: ("NoSpare", .inl "TooMany", false) :: ("NoSpare", .inl "TooShallow", false) :: ("NoSpare", .inr "ValueError", true) :: ("NoSize", .inl "Bracketed", false) :: ("NoSize", .inl "NetError", true) :: ("NoSize", .inl "NoDepth", false) :: ("NoSize", .inl "NoEnds", false) :: ("NoSize", .inl "NoHands", false) :: ("NoSize", .inl "NoJoining", false) :: ("NoSize", .inl "NoName", false) :: ("NoSize", .inl "NoNet", false) :: ("NoSize", .inl "NoPaper", false) :: ("NoSize", .inl "NoPlace", false) :: ("NoSize", .inl "NoRounds", false) :: ("NoSize", .inl "NoRow", false) :: ("NoSize", .inl "NoSize", true) :: ("NoSize", .inl "NoSpare", false) :: ("NoSize", .inl "NoText", false) :: ("NoSize", .inl "NoThing", false) :: ("NoSize", .inl "NoThings", false) :: ("NoSize", .inl "NoWidth", false) :: ("NoSize", .inl "NoWindow", false) :: ("NoSize", .inl "NotBeside", false) :: ("NoSize", .inl "TooMany", false) :: ("NoSize", .inl "TooShallow", false) :: ("NoSize", .inr "ValueError", true) :: []

def top (i : Nat) : Stmt := PySem.Challenge.pw_sumnets_k35_rules_told.main.body.getD i (.Pass ⟨0, 0, 0, 0⟩)
abbrev s_is_whole : Stmt := top 24
theorem sc_is_whole : FnScope ["thing"] ["thing"] (defScope s_is_whole) := ⟨rfl, rfl, rfl, by decide +kernel, rfl, by decide +kernel, by decide +kernel⟩
def b_is_whole (ns : List Int) : SF := (sRet (eAnd (eBi bIs (aCons (eVar 0) (aCons (eC (.ty "int")) aNil))) (eNotB (eBi bIs (aCons (eVar 0) (aCons (eC (.ty "bool")) aNil))))))
def f_is_whole (ns : List Int) : Fn := run 1 1 (b_is_whole ns)
theorem ok_is_whole {f : Addr} {fd : FuncData} (F : Fun K "is_whole" "is_whole" s_is_whole f fd) (bd : Binds K fd ["thing"] []) (m' : mg "is_whole" = some (.ref f)) (m_bool : mg "bool" = none) (m_int : mg "int" = none) (m_isinstance : mg "isinstance" = none) : CallOk P w K mg base q 1 "is_whole" (f_is_whole q.ns) :=
  ⟨f, fd, _, m', F.kp, bd, fn_ok (k := 0) (N := ["thing"]) (body := b_is_whole q.ns) F sc_is_whole rfl fun cdv A outer s H E hr => (ess_one (es_ret (ee_and (ee_bi b_is rfl m_isinstance bb_isinstance (ea_cons (ee_var (i := 0) rfl (.inl rfl)) (ea_cons (ee_ty rfl m_int bt_int) ea_nil))) (ee_one (ee_not (ee_bi b_is rfl m_isinstance bb_isinstance (ea_cons (ee_var (i := 0) rfl (.inl rfl)) (ea_cons (ee_ty rfl m_bool bt_bool) ea_nil))))))))⟩
abbrev s_is_between : Stmt := top 25
theorem sc_is_between : FnScope ["thing", "low", "high"] ["thing", "low", "high"] (defScope s_is_between) := ⟨rfl, rfl, rfl, by decide +kernel, rfl, by decide +kernel, by decide +kernel⟩
def b_is_between (ns : List Int) : SF := (sRet (eAnd (eCall (f_is_whole ns) (aCons (eVar 0) aNil)) (eChain (opCmp fun i j => decide (i ≤ j)) (opCmp fun i j => decide (i ≤ j)) (eVar 1) (eVar 0) (eVar 2))))
def f_is_between (ns : List Int) : Fn := run 3 3 (b_is_between ns)
theorem ok_is_between {f : Addr} {fd : FuncData} (F : Fun K "is_between" "is_between" s_is_between f fd) (bd : Binds K fd ["thing", "low", "high"] []) (m' : mg "is_between" = some (.ref f)) (c_is_whole : CallOk P w K mg base q 1 "is_whole" (f_is_whole q.ns)) : CallOk P w K mg base q 2 "is_between" (f_is_between q.ns) :=
  ⟨f, fd, _, m', F.kp, bd, fn_ok (k := 1) (N := ["thing", "low", "high"]) (body := b_is_between q.ns) F sc_is_between rfl fun cdv A outer s H E hr => (ess_one (es_ret (ee_and (ee_call ⟨c_is_whole⟩ (hr.mono (by decide)) rfl (ea_cons (ee_var (i := 0) rfl (.inl rfl)) ea_nil)) (ee_one (ee_chain o_le o_le (ee_var (i := 1) rfl (.inl rfl)) (ee_var (i := 0) rfl (.inl rfl)) (ee_var (i := 2) rfl (.inl rfl)))))))⟩
abbrev s_look_at_width : Stmt := top 32
theorem sc_look_at_width : FnScope ["width"] ["width"] (defScope s_look_at_width) := ⟨rfl, rfl, rfl, by decide +kernel, rfl, by decide +kernel, by decide +kernel⟩
def b_look_at_width_0b (ns : List Int) : SF := (sRaise "NoWidth" (aCons (eC (.str "it is no number from 1 to 64")) aNil))
def b_look_at_width (ns : List Int) : SF := (sIf (tNotF (tTru ns (eCall (noxF (f_is_between ns)) (aCons (eVar 0) (aCons (eC (.int 1)) (aCons (eC (.int 64)) aNil)))))) (b_look_at_width_0b ns) sNext)
def f_look_at_width (ns : List Int) : Fn := run 1 1 (b_look_at_width ns)
theorem ok_look_at_width {f : Addr} {fd : FuncData} {cdv : Value} (F : FunG K "look_at_width" "look_at_width" s_look_at_width f fd cdv) (bd : Binds K fd ["width"] []) (m' : mg "look_at_width" = some (.ref f)) {t_MOST_WIDE : Tok} (m_MOST_WIDE : mg "MOST_WIDE" = some (.int 64 t_MOST_WIDE)) (c_is_between : CallOk P w K mg base q 2 "is_between" (f_is_between q.ns)) {B_NoWidth : Addr} (n_NoWidth : PySem.W.nsIn K mainGlobals "NoWidth" = some (some (.ref B_NoWidth))) (x_NoWidth : PySem.W.excIn K B_NoWidth bmV "ValueError.__new__" = true) : CallOkX P w K mg base q (3) "look_at_width" (f_look_at_width q.ns) :=
  ⟨f, fd, _, m', F.kp, bd, fn_okX (k := 2) (N := ["width"]) (body := b_look_at_width q.ns) F sc_look_at_width rfl fun A outer s H E hr => (ess_one (es_if (et_not (et_tru (ee_callX ⟨CallOkX.up c_is_between⟩ (hr.mono (by decide)) rfl (ea_cons (ee_var (i := 0) rfl (.inl rfl)) (ea_cons ee_int (ea_cons (ee_gint rfl m_MOST_WIDE) ea_nil)))))) (ess_one (es_raiseK n_NoWidth x_NoWidth rfl (ea_cons ee_str ea_nil))) ess_nil))⟩
abbrev s_half_of : Stmt := top 33
theorem sc_half_of : FnScope ["width"] ["width"] (defScope s_half_of) := ⟨rfl, rfl, rfl, by decide +kernel, rfl, by decide +kernel, by decide +kernel⟩
def b_half_of (ns : List Int) : SF := (sRet (eBin opDivW (eBin opAdd (eVar 0) (eC (.int 1))) (eC (.int 2))))
def f_half_of (ns : List Int) : Fn := run 1 1 (b_half_of ns)
theorem ok_half_of {f : Addr} {fd : FuncData} (F : Fun K "half_of" "half_of" s_half_of f fd) (bd : Binds K fd ["width"] []) (m' : mg "half_of" = some (.ref f)) : CallOk P w K mg base q 1 "half_of" (f_half_of q.ns) :=
  ⟨f, fd, _, m', F.kp, bd, fn_ok (k := 0) (N := ["width"]) (body := b_half_of q.ns) F sc_half_of rfl fun cdv A outer s H E hr => (ess_one (es_ret (ee_bin o_divW (ee_bin o_add (ee_var (i := 0) rfl (.inl rfl)) ee_int) ee_int)))⟩
abbrev s_pairs_of : Stmt := top 34
theorem sc_pairs_of : FnScope ["width"] ["width"] (defScope s_pairs_of) := ⟨rfl, rfl, rfl, by decide +kernel, rfl, by decide +kernel, by decide +kernel⟩
def b_pairs_of (ns : List Int) : SF := (sRet (eBin opAdd (eBin opMul (eTup (aCons (eC (.tup [.str "steps", .int 2])) aNil)) (eBin opDivW (eVar 0) (eC (.int 2)))) (eBin opMul (eTup (aCons (eC (.tup [.str "steps", .int 1])) aNil)) (eBin opMod (eVar 0) (eC (.int 2))))))
def f_pairs_of (ns : List Int) : Fn := run 1 1 (b_pairs_of ns)
theorem ok_pairs_of {f : Addr} {fd : FuncData} (F : Fun K "pairs_of" "pairs_of" s_pairs_of f fd) (bd : Binds K fd ["width"] []) (m' : mg "pairs_of" = some (.ref f)) (m_ONE : GTup K mg "ONE" [.str "steps", .int 1]) (m_TWO : GTup K mg "TWO" [.str "steps", .int 2]) : CallOk P w K mg base q 1 "pairs_of" (f_pairs_of q.ns) :=
  ⟨f, fd, _, m', F.kp, bd, fn_ok (k := 0) (N := ["width"]) (body := b_pairs_of q.ns) F sc_pairs_of rfl fun cdv A outer s H E hr => (ess_one (es_ret (ee_bin o_add (ee_bin o_mul (ee_tup (ea_cons (ee_gtup rfl m_TWO) ea_nil)) (ee_bin o_divW (ee_var (i := 0) rfl (.inl rfl)) ee_int)) (ee_bin o_mul (ee_tup (ea_cons (ee_gtup rfl m_ONE) ea_nil)) (ee_bin o_mod (ee_var (i := 0) rfl (.inl rfl)) ee_int)))))⟩
abbrev s_by_steps : Stmt := top 35
theorem sc_by_steps : FnScope ["width"] ["width"] (defScope s_by_steps) := ⟨rfl, rfl, rfl, by decide +kernel, rfl, by decide +kernel, by decide +kernel⟩
def b_by_steps_1 (ns : List Int) : SF := (sRet (eTup (aCons (eC (.str "steps")) (aCons (eVar 0) aNil))))
def b_by_steps (ns : List Int) : SF := (sSeq (sDrop (eCall (f_look_at_width ns) (aCons (eVar 0) aNil))) (b_by_steps_1 ns))
def f_by_steps (ns : List Int) : Fn := run 1 1 (b_by_steps ns)
theorem ok_by_steps {f : Addr} {fd : FuncData} {cdv : Value} (F : FunG K "by_steps" "by_steps" s_by_steps f fd cdv) (bd : Binds K fd ["width"] []) (m' : mg "by_steps" = some (.ref f)) (c_look_at_width : CallOkX P w K mg base q 3 "look_at_width" (f_look_at_width q.ns)) : CallOkX P w K mg base q (4) "by_steps" (f_by_steps q.ns) :=
  ⟨f, fd, _, m', F.kp, bd, fn_okX (k := 3) (N := ["width"]) (body := b_by_steps q.ns) F sc_by_steps rfl fun A outer s H E hr => (ess_cons (es_expr (ee_callX ⟨c_look_at_width⟩ (hr.mono (by decide)) rfl (ea_cons (ee_var (i := 0) rfl (.inl rfl)) ea_nil))) (ess_one (es_ret (ee_tup (ea_cons ee_str (ea_cons (ee_var (i := 0) rfl (.inl rfl)) ea_nil))))))⟩
abbrev s_by_one : Stmt := top 36
theorem sc_by_one : FnScope ["width"] ["width"] (defScope s_by_one) := ⟨rfl, rfl, rfl, by decide +kernel, rfl, by decide +kernel, by decide +kernel⟩
def b_by_one_1b (g : Fn) (ns : List Int) : SF := (sRet (eTup (aCons (eC (.str "steps")) (aCons (eVar 0) aNil))))
def b_by_one_2 (g : Fn) (ns : List Int) : SF := (sRet (eTup (aCons (eC (.str "blocks")) (aCons (eC (.tup [.str "steps", .int 2])) (aCons (eTup (aCons (eCall g (aCons (eBin opSub (eVar 0) (eC (.int 1))) aNil)) (aCons (eC (.tup [.str "steps", .int 1])) aNil))) aNil)))))
def b_by_one_1 (g : Fn) (ns : List Int) : SF := (sSeq (sIf (tB1 (eBin (opCmp fun i j => decide (i ≤ j)) (eVar 0) (eC (.int 2)))) (b_by_one_1b g ns) sNext) (b_by_one_2 g ns))
def b_by_one (g : Fn) (ns : List Int) : SF := (sSeq (sDrop (eCall (f_look_at_width ns) (aCons (eVar 0) aNil))) (b_by_one_1 g ns))
def f_by_one : Nat → List Int → Fn
  | 0, _ => fun _ _ => .bad
  | n + 1, ns => run 1 1 (b_by_one (f_by_one n ns) ns)
theorem ok_by_one {m : Nat} {g : Fn} {f : Addr} {fd : FuncData} {cdv : Value} (F : FunG K "by_one" "by_one" s_by_one f fd cdv) (bd : Binds K fd ["width"] []) (m' : mg "by_one" = some (.ref f)) (m_ONE : GTup K mg "ONE" [.str "steps", .int 1]) (m_TWO : GTup K mg "TWO" [.str "steps", .int 2]) (c_look_at_width : CallOkX P w K mg base q 3 "look_at_width" (f_look_at_width q.ns)) (c_by_one : CallOkX P w K mg base q m "by_one" g) (hn : 3 ≤ m) : CallOkX P w K mg base q (m + 1) "by_one" (run 1 1 (b_by_one g q.ns)) :=
  ⟨f, fd, _, m', F.kp, bd, fn_okX (k := m + 0) (N := ["width"]) (body := b_by_one g q.ns) F sc_by_one rfl fun A outer s H E hr => (ess_cons (es_expr (ee_callX ⟨c_look_at_width⟩ (hr.mono (by omega)) rfl (ea_cons (ee_var (i := 0) rfl (.inl rfl)) ea_nil))) (ess_cons (es_if (et_cmp o_le (ee_var (i := 0) rfl (.inl rfl)) ee_int) (ess_one (es_ret (ee_tup (ea_cons ee_str (ea_cons (ee_var (i := 0) rfl (.inl rfl)) ea_nil))))) ess_nil) (ess_one (es_ret (ee_tup (ea_cons ee_str (ea_cons (ee_gtup rfl m_TWO) (ea_cons (ee_tup (ea_cons (ee_callX ⟨c_by_one⟩ (hr.mono (by omega)) rfl (ea_cons (ee_bin o_sub (ee_var (i := 0) rfl (.inl rfl)) ee_int) ea_nil)) (ea_cons (ee_gtup rfl m_ONE) ea_nil))) ea_nil))))))))⟩
abbrev s_by_halves : Stmt := top 37
theorem sc_by_halves : FnScope ["width", "half"] ["width"] (defScope s_by_halves) := ⟨rfl, rfl, rfl, by decide +kernel, rfl, by decide +kernel, by decide +kernel⟩
def b_by_halves_1b (g : Fn) (ns : List Int) : SF := (sRet (eTup (aCons (eC (.str "steps")) (aCons (eVar 0) aNil))))
def b_by_halves_3 (g : Fn) (ns : List Int) : SF := (sRet (eTup (aCons (eC (.str "blocks")) (aCons (eC (.tup [.str "steps", .int 2])) (aCons (eTup (aCons (eCall g (aCons (eVar 1) aNil)) (aCons (eCall g (aCons (eBin opSub (eVar 0) (eVar 1)) aNil)) aNil))) aNil)))))
def b_by_halves_2 (g : Fn) (ns : List Int) : SF := (sSeq (sAsg (eCall (noxF (f_half_of ns)) (aCons (eVar 0) aNil)) (gN 1)) (b_by_halves_3 g ns))
def b_by_halves_1 (g : Fn) (ns : List Int) : SF := (sSeq (sIf (tB1 (eBin (opCmp fun i j => decide (i ≤ j)) (eVar 0) (eC (.int 2)))) (b_by_halves_1b g ns) sNext) (b_by_halves_2 g ns))
def b_by_halves (g : Fn) (ns : List Int) : SF := (sSeq (sDrop (eCall (f_look_at_width ns) (aCons (eVar 0) aNil))) (b_by_halves_1 g ns))
def f_by_halves : Nat → List Int → Fn
  | 0, _ => fun _ _ => .bad
  | n + 1, ns => run 1 2 (b_by_halves (f_by_halves n ns) ns)
theorem ok_by_halves {m : Nat} {g : Fn} {f : Addr} {fd : FuncData} {cdv : Value} (F : FunG K "by_halves" "by_halves" s_by_halves f fd cdv) (bd : Binds K fd ["width"] []) (m' : mg "by_halves" = some (.ref f)) (m_TWO : GTup K mg "TWO" [.str "steps", .int 2]) (c_look_at_width : CallOkX P w K mg base q 3 "look_at_width" (f_look_at_width q.ns)) (c_half_of : CallOk P w K mg base q 1 "half_of" (f_half_of q.ns)) (c_by_halves : CallOkX P w K mg base q m "by_halves" g) (hn : 3 ≤ m) : CallOkX P w K mg base q (m + 1) "by_halves" (run 1 2 (b_by_halves g q.ns)) :=
  ⟨f, fd, _, m', F.kp, bd, fn_okX (k := m + 0) (N := ["width", "half"]) (body := b_by_halves g q.ns) F sc_by_halves rfl fun A outer s H E hr => (ess_cons (es_expr (ee_callX ⟨c_look_at_width⟩ (hr.mono (by omega)) rfl (ea_cons (ee_var (i := 0) rfl (.inl rfl)) ea_nil))) (ess_cons (es_if (et_cmp o_le (ee_var (i := 0) rfl (.inl rfl)) ee_int) (ess_one (es_ret (ee_tup (ea_cons ee_str (ea_cons (ee_var (i := 0) rfl (.inl rfl)) ea_nil))))) ess_nil) (ess_cons (es_set (i := 1) sc_by_halves.nd rfl (.inl rfl) (ee_callX ⟨CallOkX.up c_half_of⟩ (hr.mono (by omega)) rfl (ea_cons (ee_var (i := 0) rfl (.inl rfl)) ea_nil))) (ess_one (es_ret (ee_tup (ea_cons ee_str (ea_cons (ee_gtup rfl m_TWO) (ea_cons (ee_tup (ea_cons (ee_callX ⟨c_by_halves⟩ (hr.mono (by omega)) rfl (ea_cons (ee_var (i := 1) rfl (.inl rfl)) ea_nil)) (ea_cons (ee_callX ⟨c_by_halves⟩ (hr.mono (by omega)) rfl (ea_cons (ee_bin o_sub (ee_var (i := 0) rfl (.inl rfl)) (ee_var (i := 1) rfl (.inl rfl))) ea_nil)) ea_nil))) ea_nil)))))))))⟩
abbrev s_by_pairs : Stmt := top 38
theorem sc_by_pairs : FnScope ["width"] ["width"] (defScope s_by_pairs) := ⟨rfl, rfl, rfl, by decide +kernel, rfl, by decide +kernel, by decide +kernel⟩
def b_by_pairs_1b (g : Fn) (ns : List Int) : SF := (sRet (eTup (aCons (eC (.str "steps")) (aCons (eVar 0) aNil))))
def b_by_pairs_2 (g : Fn) (ns : List Int) : SF := (sRet (eTup (aCons (eC (.str "blocks")) (aCons (eCall g (aCons (eCall (noxF (f_half_of ns)) (aCons (eVar 0) aNil)) aNil)) (aCons (eCall (noxF (f_pairs_of ns)) (aCons (eVar 0) aNil)) aNil)))))
def b_by_pairs_1 (g : Fn) (ns : List Int) : SF := (sSeq (sIf (tB1 (eBin (opCmp fun i j => decide (i ≤ j)) (eVar 0) (eC (.int 2)))) (b_by_pairs_1b g ns) sNext) (b_by_pairs_2 g ns))
def b_by_pairs (g : Fn) (ns : List Int) : SF := (sSeq (sDrop (eCall (f_look_at_width ns) (aCons (eVar 0) aNil))) (b_by_pairs_1 g ns))
def f_by_pairs : Nat → List Int → Fn
  | 0, _ => fun _ _ => .bad
  | n + 1, ns => run 1 1 (b_by_pairs (f_by_pairs n ns) ns)
theorem ok_by_pairs {m : Nat} {g : Fn} {f : Addr} {fd : FuncData} {cdv : Value} (F : FunG K "by_pairs" "by_pairs" s_by_pairs f fd cdv) (bd : Binds K fd ["width"] []) (m' : mg "by_pairs" = some (.ref f)) (c_look_at_width : CallOkX P w K mg base q 3 "look_at_width" (f_look_at_width q.ns)) (c_by_pairs : CallOkX P w K mg base q m "by_pairs" g) (c_half_of : CallOk P w K mg base q 1 "half_of" (f_half_of q.ns)) (c_pairs_of : CallOk P w K mg base q 1 "pairs_of" (f_pairs_of q.ns)) (hn : 3 ≤ m) : CallOkX P w K mg base q (m + 1) "by_pairs" (run 1 1 (b_by_pairs g q.ns)) :=
  ⟨f, fd, _, m', F.kp, bd, fn_okX (k := m + 0) (N := ["width"]) (body := b_by_pairs g q.ns) F sc_by_pairs rfl fun A outer s H E hr => (ess_cons (es_expr (ee_callX ⟨c_look_at_width⟩ (hr.mono (by omega)) rfl (ea_cons (ee_var (i := 0) rfl (.inl rfl)) ea_nil))) (ess_cons (es_if (et_cmp o_le (ee_var (i := 0) rfl (.inl rfl)) ee_int) (ess_one (es_ret (ee_tup (ea_cons ee_str (ea_cons (ee_var (i := 0) rfl (.inl rfl)) ea_nil))))) ess_nil) (ess_one (es_ret (ee_tup (ea_cons ee_str (ea_cons (ee_callX ⟨c_by_pairs⟩ (hr.mono (by omega)) rfl (ea_cons (ee_callX ⟨CallOkX.up c_half_of⟩ (hr.mono (by omega)) rfl (ea_cons (ee_var (i := 0) rfl (.inl rfl)) ea_nil)) ea_nil)) (ea_cons (ee_callX ⟨CallOkX.up c_pairs_of⟩ (hr.mono (by omega)) rfl (ea_cons (ee_var (i := 0) rfl (.inl rfl)) ea_nil)) ea_nil))))))))⟩
abbrev s_by_twos : Stmt := top 39
theorem sc_by_twos : FnScope ["width"] ["width"] (defScope s_by_twos) := ⟨rfl, rfl, rfl, by decide +kernel, rfl, by decide +kernel, by decide +kernel⟩
def b_by_twos_1b (ns : List Int) : SF := (sRet (eTup (aCons (eC (.str "steps")) (aCons (eVar 0) aNil))))
def b_by_twos_2 (ns : List Int) : SF := (sRet (eTup (aCons (eC (.str "blocks")) (aCons (eTup (aCons (eC (.str "steps")) (aCons (eCall (noxF (f_half_of ns)) (aCons (eVar 0) aNil)) aNil))) (aCons (eCall (noxF (f_pairs_of ns)) (aCons (eVar 0) aNil)) aNil)))))
def b_by_twos_1 (ns : List Int) : SF := (sSeq (sIf (tB1 (eBin (opCmp fun i j => decide (i ≤ j)) (eVar 0) (eC (.int 2)))) (b_by_twos_1b ns) sNext) (b_by_twos_2 ns))
def b_by_twos (ns : List Int) : SF := (sSeq (sDrop (eCall (f_look_at_width ns) (aCons (eVar 0) aNil))) (b_by_twos_1 ns))
def f_by_twos (ns : List Int) : Fn := run 1 1 (b_by_twos ns)
theorem ok_by_twos {f : Addr} {fd : FuncData} {cdv : Value} (F : FunG K "by_twos" "by_twos" s_by_twos f fd cdv) (bd : Binds K fd ["width"] []) (m' : mg "by_twos" = some (.ref f)) (c_look_at_width : CallOkX P w K mg base q 3 "look_at_width" (f_look_at_width q.ns)) (c_half_of : CallOk P w K mg base q 1 "half_of" (f_half_of q.ns)) (c_pairs_of : CallOk P w K mg base q 1 "pairs_of" (f_pairs_of q.ns)) : CallOkX P w K mg base q (4) "by_twos" (f_by_twos q.ns) :=
  ⟨f, fd, _, m', F.kp, bd, fn_okX (k := 3) (N := ["width"]) (body := b_by_twos q.ns) F sc_by_twos rfl fun A outer s H E hr => (ess_cons (es_expr (ee_callX ⟨c_look_at_width⟩ (hr.mono (by decide)) rfl (ea_cons (ee_var (i := 0) rfl (.inl rfl)) ea_nil))) (ess_cons (es_if (et_cmp o_le (ee_var (i := 0) rfl (.inl rfl)) ee_int) (ess_one (es_ret (ee_tup (ea_cons ee_str (ea_cons (ee_var (i := 0) rfl (.inl rfl)) ea_nil))))) ess_nil) (ess_one (es_ret (ee_tup (ea_cons ee_str (ea_cons (ee_tup (ea_cons ee_str (ea_cons (ee_callX ⟨CallOkX.up c_half_of⟩ (hr.mono (by decide)) rfl (ea_cons (ee_var (i := 0) rfl (.inl rfl)) ea_nil)) ea_nil))) (ea_cons (ee_callX ⟨CallOkX.up c_pairs_of⟩ (hr.mono (by decide)) rfl (ea_cons (ee_var (i := 0) rfl (.inl rfl)) ea_nil)) ea_nil))))))))⟩
abbrev s_spared : Stmt := top 40
theorem sc_spared : FnScope ["width", "spare", "half"] ["width", "spare"] (defScope s_spared) := ⟨rfl, rfl, rfl, by decide +kernel, rfl, by decide +kernel, by decide +kernel⟩
def b_spared_1b (g : Fn) (ns : List Int) : SF := (sRaise "NoSpare" (aCons (eC (.str "it is no number from 0 to 6")) aNil))
def b_spared_2b (g : Fn) (ns : List Int) : SF := (sRet (eTup (aCons (eC (.str "steps")) (aCons (eVar 0) aNil))))
def b_spared_4b (g : Fn) (ns : List Int) : SF := (sRet (eTup (aCons (eC (.str "blocks")) (aCons (eC (.tup [.str "steps", .int 2])) (aCons (eTup (aCons (eCall g (aCons (eVar 2) (aCons (eC (.int 1)) aNil))) (aCons (eCall g (aCons (eBin opSub (eVar 0) (eVar 2)) (aCons (eC (.int 0)) aNil))) aNil))) aNil)))))
def b_spared_5 (g : Fn) (ns : List Int) : SF := (sRet (eTup (aCons (eC (.str "blocks")) (aCons (eCall g (aCons (eVar 2) (aCons (eBin opSub (eVar 1) (eC (.int 1))) aNil))) (aCons (eCall (noxF (f_pairs_of ns)) (aCons (eVar 0) aNil)) aNil)))))
def b_spared_4 (g : Fn) (ns : List Int) : SF := (sSeq (sIf (tB1 (eBin (opEq ns) (eVar 1) (eC (.int 0)))) (b_spared_4b g ns) sNext) (b_spared_5 g ns))
def b_spared_3 (g : Fn) (ns : List Int) : SF := (sSeq (sAsg (eCall (noxF (f_half_of ns)) (aCons (eVar 0) aNil)) (gN 2)) (b_spared_4 g ns))
def b_spared_2 (g : Fn) (ns : List Int) : SF := (sSeq (sIf (tB1 (eBin (opCmp fun i j => decide (i ≤ j)) (eVar 0) (eC (.int 2)))) (b_spared_2b g ns) sNext) (b_spared_3 g ns))
def b_spared_1 (g : Fn) (ns : List Int) : SF := (sSeq (sIf (tNotF (tTru ns (eCall (noxF (f_is_between ns)) (aCons (eVar 1) (aCons (eC (.int 0)) (aCons (eC (.int 6)) aNil)))))) (b_spared_1b g ns) sNext) (b_spared_2 g ns))
def b_spared (g : Fn) (ns : List Int) : SF := (sSeq (sDrop (eCall (f_look_at_width ns) (aCons (eVar 0) aNil))) (b_spared_1 g ns))
def f_spared : Nat → List Int → Fn
  | 0, _ => fun _ _ => .bad
  | n + 1, ns => run 2 3 (b_spared (f_spared n ns) ns)
theorem ok_spared {m : Nat} {g : Fn} {f : Addr} {fd : FuncData} {cdv : Value} (F : FunG K "spared" "spared" s_spared f fd cdv) (bd : Binds K fd ["width", "spare"] []) (m' : mg "spared" = some (.ref f)) {t_MOST_SPARE : Tok} (m_MOST_SPARE : mg "MOST_SPARE" = some (.int 6 t_MOST_SPARE)) (m_TWO : GTup K mg "TWO" [.str "steps", .int 2]) (c_look_at_width : CallOkX P w K mg base q 3 "look_at_width" (f_look_at_width q.ns)) (c_is_between : CallOk P w K mg base q 2 "is_between" (f_is_between q.ns)) (c_half_of : CallOk P w K mg base q 1 "half_of" (f_half_of q.ns)) (c_spared : CallOkX P w K mg base q m "spared" g) (c_pairs_of : CallOk P w K mg base q 1 "pairs_of" (f_pairs_of q.ns)) {B_NoSpare : Addr} (n_NoSpare : PySem.W.nsIn K mainGlobals "NoSpare" = some (some (.ref B_NoSpare))) (x_NoSpare : PySem.W.excIn K B_NoSpare bmV "ValueError.__new__" = true) (hn : 3 ≤ m) : CallOkX P w K mg base q (m + 1) "spared" (run 2 3 (b_spared g q.ns)) :=
  ⟨f, fd, _, m', F.kp, bd, fn_okX (k := m + 0) (N := ["width", "spare", "half"]) (body := b_spared g q.ns) F sc_spared rfl fun A outer s H E hr => (ess_cons (es_expr (ee_callX ⟨c_look_at_width⟩ (hr.mono (by omega)) rfl (ea_cons (ee_var (i := 0) rfl (.inl rfl)) ea_nil))) (ess_cons (es_if (et_not (et_tru (ee_callX ⟨CallOkX.up c_is_between⟩ (hr.mono (by omega)) rfl (ea_cons (ee_var (i := 1) rfl (.inl rfl)) (ea_cons ee_int (ea_cons (ee_gint rfl m_MOST_SPARE) ea_nil)))))) (ess_one (es_raiseK n_NoSpare x_NoSpare rfl (ea_cons ee_str ea_nil))) ess_nil) (ess_cons (es_if (et_cmp o_le (ee_var (i := 0) rfl (.inl rfl)) ee_int) (ess_one (es_ret (ee_tup (ea_cons ee_str (ea_cons (ee_var (i := 0) rfl (.inl rfl)) ea_nil))))) ess_nil) (ess_cons (es_set (i := 2) sc_spared.nd rfl (.inl rfl) (ee_callX ⟨CallOkX.up c_half_of⟩ (hr.mono (by omega)) rfl (ea_cons (ee_var (i := 0) rfl (.inl rfl)) ea_nil))) (ess_cons (es_if (et_cmp (o_eq (hu64 hr)) (ee_var (i := 1) rfl (.inl rfl)) ee_int) (ess_one (es_ret (ee_tup (ea_cons ee_str (ea_cons (ee_gtup rfl m_TWO) (ea_cons (ee_tup (ea_cons (ee_callX ⟨c_spared⟩ (hr.mono (by omega)) rfl (ea_cons (ee_var (i := 2) rfl (.inl rfl)) (ea_cons ee_int ea_nil))) (ea_cons (ee_callX ⟨c_spared⟩ (hr.mono (by omega)) rfl (ea_cons (ee_bin o_sub (ee_var (i := 0) rfl (.inl rfl)) (ee_var (i := 2) rfl (.inl rfl))) (ea_cons ee_int ea_nil))) ea_nil))) ea_nil)))))) ess_nil) (ess_one (es_ret (ee_tup (ea_cons ee_str (ea_cons (ee_callX ⟨c_spared⟩ (hr.mono (by omega)) rfl (ea_cons (ee_var (i := 2) rfl (.inl rfl)) (ea_cons (ee_bin o_sub (ee_var (i := 1) rfl (.inl rfl)) ee_int) ea_nil))) (ea_cons (ee_callX ⟨CallOkX.up c_pairs_of⟩ (hr.mono (by omega)) rfl (ea_cons (ee_var (i := 0) rfl (.inl rfl)) ea_nil)) ea_nil)))))))))))⟩
abbrev s_by_blocks : Stmt := top 41
theorem sc_by_blocks : FnScope ["width", "size", "blocks", "left"] ["width", "size"] (defScope s_by_blocks) := ⟨rfl, rfl, rfl, by decide +kernel, rfl, by decide +kernel, by decide +kernel⟩
def b_by_blocks_1b (ns : List Int) : SF := (sRaise "NoSize" (aCons (eC (.str "it is no number from 1 to 64")) aNil))
def b_by_blocks_2b (ns : List Int) : SF := (sRet (eTup (aCons (eC (.str "steps")) (aCons (eVar 0) aNil))))
def b_by_blocks_5b (ns : List Int) : SF := (sAugT 2 (eTup (aCons (eTup (aCons (eC (.str "steps")) (aCons (eVar 3) aNil))) aNil)))
def b_by_blocks_6 (ns : List Int) : SF := (sRet (eTup (aCons (eC (.str "blocks")) (aCons (eCall (f_by_halves 8 ns) (aCons (eBi (bLen ns) (aCons (eVar 2) aNil)) aNil)) (aCons (eVar 2) aNil)))))
def b_by_blocks_5 (ns : List Int) : SF := (sSeq (sIf (tB1 (eBin (opCmp fun i j => decide (j < i)) (eVar 3) (eC (.int 0)))) (b_by_blocks_5b ns) sNext) (b_by_blocks_6 ns))
def b_by_blocks_4 (ns : List Int) : SF := (sSeq (sAsg (eBin opMod (eVar 0) (eVar 1)) (gN 3)) (b_by_blocks_5 ns))
def b_by_blocks_3 (ns : List Int) : SF := (sSeq (sAsg (eBin opMul (eTup (aCons (eTup (aCons (eC (.str "steps")) (aCons (eVar 1) aNil))) aNil)) (eBin opDivW (eVar 0) (eVar 1))) (gN 2)) (b_by_blocks_4 ns))
def b_by_blocks_2 (ns : List Int) : SF := (sSeq (sIf (tOrF (tB1 (eBin (opCmp fun i j => decide (i ≤ j)) (eVar 0) (eC (.int 2)))) (tB1 (eBin (opCmp fun i j => decide (i ≤ j)) (eVar 0) (eVar 1)))) (b_by_blocks_2b ns) sNext) (b_by_blocks_3 ns))
def b_by_blocks_1 (ns : List Int) : SF := (sSeq (sIf (tNotF (tTru ns (eCall (noxF (f_is_between ns)) (aCons (eVar 1) (aCons (eC (.int 1)) (aCons (eC (.int 64)) aNil)))))) (b_by_blocks_1b ns) sNext) (b_by_blocks_2 ns))
def b_by_blocks (ns : List Int) : SF := (sSeq (sDrop (eCall (f_look_at_width ns) (aCons (eVar 0) aNil))) (b_by_blocks_1 ns))
def f_by_blocks (ns : List Int) : Fn := run 2 4 (b_by_blocks ns)
theorem ok_by_blocks {f : Addr} {fd : FuncData} {cdv : Value} (F : FunG K "by_blocks" "by_blocks" s_by_blocks f fd cdv) (bd : Binds K fd ["width", "size"] []) (m' : mg "by_blocks" = some (.ref f)) (m_len : mg "len" = none) {t_MOST_SIZE : Tok} (m_MOST_SIZE : mg "MOST_SIZE" = some (.int 64 t_MOST_SIZE)) (c_look_at_width : CallOkX P w K mg base q 3 "look_at_width" (f_look_at_width q.ns)) (c_is_between : CallOk P w K mg base q 2 "is_between" (f_is_between q.ns)) (c_by_halves : CallOkX P w K mg base q 11 "by_halves" (f_by_halves 8 q.ns)) {B_NoSize : Addr} (n_NoSize : PySem.W.nsIn K mainGlobals "NoSize" = some (some (.ref B_NoSize))) (x_NoSize : PySem.W.excIn K B_NoSize bmV "ValueError.__new__" = true) : CallOkX P w K mg base q (12) "by_blocks" (f_by_blocks q.ns) :=
  ⟨f, fd, _, m', F.kp, bd, fn_okX (k := 11) (N := ["width", "size", "blocks", "left"]) (body := b_by_blocks q.ns) F sc_by_blocks rfl fun A outer s H E hr => (ess_cons (es_expr (ee_callX ⟨c_look_at_width⟩ (hr.mono (by decide)) rfl (ea_cons (ee_var (i := 0) rfl (.inl rfl)) ea_nil))) (ess_cons (es_if (et_not (et_tru (ee_callX ⟨CallOkX.up c_is_between⟩ (hr.mono (by decide)) rfl (ea_cons (ee_var (i := 1) rfl (.inl rfl)) (ea_cons ee_int (ea_cons (ee_gint rfl m_MOST_SIZE) ea_nil)))))) (ess_one (es_raiseK n_NoSize x_NoSize rfl (ea_cons ee_str ea_nil))) ess_nil) (ess_cons (es_if (et_w (ew_or (et_cmp o_le (ee_var (i := 0) rfl (.inl rfl)) ee_int) (ew_or1 (et_cmp o_le (ee_var (i := 0) rfl (.inl rfl)) (ee_var (i := 1) rfl (.inl rfl)))))) (ess_one (es_ret (ee_tup (ea_cons ee_str (ea_cons (ee_var (i := 0) rfl (.inl rfl)) ea_nil))))) ess_nil) (ess_cons (es_set (i := 2) sc_by_blocks.nd rfl (.inl rfl) (ee_bin o_mul (ee_tup (ea_cons (ee_tup (ea_cons ee_str (ea_cons (ee_var (i := 1) rfl (.inl rfl)) ea_nil))) ea_nil)) (ee_bin o_divW (ee_var (i := 0) rfl (.inl rfl)) (ee_var (i := 1) rfl (.inl rfl))))) (ess_cons (es_set (i := 3) sc_by_blocks.nd rfl (.inl rfl) (ee_bin o_mod (ee_var (i := 0) rfl (.inl rfl)) (ee_var (i := 1) rfl (.inl rfl)))) (ess_cons (es_if (et_cmp o_gt (ee_var (i := 3) rfl (.inl rfl)) ee_int) (ess_one (es_augT (i := 2) sc_by_blocks.nd rfl (.inl rfl) (ee_tup (ea_cons (ee_tup (ea_cons ee_str (ea_cons (ee_var (i := 3) rfl (.inl rfl)) ea_nil))) ea_nil)))) ess_nil) (ess_one (es_ret (ee_tup (ea_cons ee_str (ea_cons (ee_callX ⟨c_by_halves⟩ (hr.mono (by decide)) rfl (ea_cons (ee_bi b_len rfl m_len bb_len (ea_cons (ee_var (i := 2) rfl (.inl rfl)) ea_nil)) ea_nil)) (ea_cons (ee_var (i := 2) rfl (.inl rfl)) ea_nil))))))))))))⟩
abbrev s_law_cell : Stmt := top 43
theorem sc_law_cell : FnScope ["_law_script", "_law_k"] ["_law_script", "_law_k"] (defScope s_law_cell) := ⟨rfl, rfl, rfl, by decide +kernel, rfl, by decide +kernel, by decide +kernel⟩
def b_law_cell_0b (ns : List Int) : SF := (sRet (eBin opAdd (eBin opMul (eC (.int 7)) (eVar 1)) (eC (.int 5))))
def b_law_cell_1 (ns : List Int) : SF := (sRet (eBi bAbs (aCons (eBin (ixD ns) (eVar 0) (eBin opMod (eVar 1) (eBi (bLen ns) (aCons (eVar 0) aNil)))) aNil)))
def b_law_cell (ns : List Int) : SF := (sSeq (sIf (tB1 (eBin (opEq ns) (eBi (bLen ns) (aCons (eVar 0) aNil)) (eC (.int 0)))) (b_law_cell_0b ns) sNext) (b_law_cell_1 ns))
def f_law_cell (ns : List Int) : Fn := run 2 2 (b_law_cell ns)
theorem ok_law_cell {f : Addr} {fd : FuncData} (F : Fun K "_law_cell" "_law_cell" s_law_cell f fd) (bd : Binds K fd ["_law_script", "_law_k"] []) (m' : mg "_law_cell" = some (.ref f)) (m_abs : mg "abs" = none) (m_len : mg "len" = none) : CallOk P w K mg base q 1 "_law_cell" (f_law_cell q.ns) :=
  ⟨f, fd, _, m', F.kp, bd, fn_ok (k := 0) (N := ["_law_script", "_law_k"]) (body := b_law_cell q.ns) F sc_law_cell rfl fun cdv A outer s H E hr => (ess_cons (es_if (et_cmp (o_eq (hu64 hr)) (ee_bi b_len rfl m_len bb_len (ea_cons (ee_var (i := 0) rfl (.inl rfl)) ea_nil)) ee_int) (ess_one (es_ret (ee_bin o_add (ee_bin o_mul ee_int (ee_var (i := 1) rfl (.inl rfl))) ee_int))) ess_nil) (ess_one (es_ret (ee_bi b_abs rfl m_abs bb_abs (ea_cons (ee_ix (ee_var (i := 0) rfl (.inl rfl)) (ee_bin o_mod (ee_var (i := 1) rfl (.inl rfl)) (ee_bi b_len rfl m_len bb_len (ea_cons (ee_var (i := 0) rfl (.inl rfl)) ea_nil)))) ea_nil)))))⟩
abbrev s_law_mixed : Stmt := top 44
theorem sc_law_mixed : FnScope ["_law_script", "_law_k", "_law_many", "_law_a"] ["_law_script", "_law_k", "_law_many"] (defScope s_law_mixed) := ⟨rfl, rfl, rfl, by decide +kernel, rfl, by decide +kernel, by decide +kernel⟩
def b_law_mixed_2 (ns : List Int) : SF := (sRet (eBin opMod (eBin opDivW (eVar 3) (eC (.int 11))) (eVar 2)))
def b_law_mixed_1 (ns : List Int) : SF := (sSeq (sAsg (eBin opMod (eBin opAdd (eBin opAdd (eBin opMul (eVar 3) (eVar 3)) (eBin opMul (eC (.int 31)) (eVar 3))) (eBin opMul (eVar 1) (eC (.int 104729)))) (eC (.int 2147483629))) (gN 3)) (b_law_mixed_2 ns))
def b_law_mixed (ns : List Int) : SF := (sSeq (sAsg (eBin opMod (eBin opAdd (eBin opAdd (eBin opMul (eBin opMod (eCall (f_law_cell ns) (aCons (eVar 0) (aCons (eVar 1) aNil))) (eC (.int 1000003))) (eC (.int 48271))) (eBin opMul (eBin opMul (eVar 1) (eVar 1)) (eC (.int 7919)))) (eC (.int 101))) (eC (.int 2147483647))) (gN 3)) (b_law_mixed_1 ns))
def f_law_mixed (ns : List Int) : Fn := run 3 4 (b_law_mixed ns)
theorem ok_law_mixed {f : Addr} {fd : FuncData} (F : Fun K "_law_mixed" "_law_mixed" s_law_mixed f fd) (bd : Binds K fd ["_law_script", "_law_k", "_law_many"] []) (m' : mg "_law_mixed" = some (.ref f)) (c__law_cell : CallOk P w K mg base q 1 "_law_cell" (f_law_cell q.ns)) : CallOk P w K mg base q 2 "_law_mixed" (f_law_mixed q.ns) :=
  ⟨f, fd, _, m', F.kp, bd, fn_ok (k := 1) (N := ["_law_script", "_law_k", "_law_many", "_law_a"]) (body := b_law_mixed q.ns) F sc_law_mixed rfl fun cdv A outer s H E hr => (ess_cons (es_set (i := 3) sc_law_mixed.nd rfl (.inl rfl) (ee_bin o_mod (ee_bin o_add (ee_bin o_add (ee_bin o_mul (ee_bin o_mod (ee_call ⟨c__law_cell⟩ (hr.mono (by decide)) rfl (ea_cons (ee_var (i := 0) rfl (.inl rfl)) (ea_cons (ee_var (i := 1) rfl (.inl rfl)) ea_nil))) ee_int) ee_int) (ee_bin o_mul (ee_bin o_mul (ee_var (i := 1) rfl (.inl rfl)) (ee_var (i := 1) rfl (.inl rfl))) ee_int)) ee_int) ee_int)) (ess_cons (es_set (i := 3) sc_law_mixed.nd rfl (.inl rfl) (ee_bin o_mod (ee_bin o_add (ee_bin o_add (ee_bin o_mul (ee_var (i := 3) rfl (.inl rfl)) (ee_var (i := 3) rfl (.inl rfl))) (ee_bin o_mul ee_int (ee_var (i := 3) rfl (.inl rfl)))) (ee_bin o_mul (ee_var (i := 1) rfl (.inl rfl)) ee_int)) ee_int)) (ess_one (es_ret (ee_bin o_mod (ee_bin o_divW (ee_var (i := 3) rfl (.inl rfl)) ee_int) (ee_var (i := 2) rfl (.inl rfl)))))))⟩
abbrev s_law_deck : Stmt := top 45
theorem sc_law_deck : FnScope ["_law_script", "_law_cells", "_law_cell_here"] ["_law_script"] (defScope s_law_deck) := ⟨rfl, rfl, rfl, by decide +kernel, rfl, by decide +kernel, by decide +kernel⟩
theorem blk_law_deck_0 : BlkOk ["_law_script", "_law_cells", "_law_cell_here"] (defScope s_law_deck) {
                    kind := PySem.ScopeKind.function,
                    names := [
                      (PySem.Str.ofString ".0", PySem.NameKind.local),
                      (PySem.Str.ofString "_law_cell_here", PySem.NameKind.local),
                      (PySem.Str.ofString "abs", PySem.NameKind.globalImplicit)],
                    isGenerator := false,
                    isCoroutine := false,
                    more := [] : PySem.Scope } [("_law_cell_here", 2)] := ⟨rfl, by decide +kernel, by decide +kernel, by decide +kernel, by decide +kernel⟩
def b_law_deck_1 (ns : List Int) : SF := (sRet (eLst (aCons (eVar 0) (aCons (eLrev ns (eVar 1)) (aCons (eC (.int 0)) aNil)))))
def b_law_deck (ns : List Int) : SF := (sSeq (sAsg (eLc (iL ns (eVar 0)) [2] (tg1 2) (tB1 (eBin (opCmp fun i j => decide (j ≤ i)) (eBi bAbs (aCons (eVar 2) aNil)) (eBin opPow (eC (.int 10)) (eC (.int 18))))) (eBi bAbs (aCons (eVar 2) aNil))) (gN 1)) (b_law_deck_1 ns))
def f_law_deck (ns : List Int) : Fn := run 1 3 (b_law_deck ns)
theorem ok_law_deck {f : Addr} {fd : FuncData} (F : Fun K "_law_deck" "_law_deck" s_law_deck f fd) (bd : Binds K fd ["_law_script"] []) (m' : mg "_law_deck" = some (.ref f)) (m_abs : mg "abs" = none) (m_list : mg "list" = none) (m_reversed : mg "reversed" = none) : CallOk P w K mg base q 1 "_law_deck" (f_law_deck q.ns) :=
  ⟨f, fd, _, m', F.kp, bd, fn_ok (k := 0) (N := ["_law_script", "_law_cells", "_law_cell_here"]) (body := b_law_deck q.ns) F sc_law_deck rfl fun cdv A outer s H E hr => (ess_cons (es_setLc (i := 1) (own := [("_law_cell_here", 2)]) rfl sc_law_deck.nd rfl rfl rfl (eig_list (ee_var (i := 0) rfl (.inl rfl))) blk_law_deck_0 tgok1 (fun _ _ _ _ _ => pg_name (i := 2) sc_law_deck.nd rfl (.inl rfl)) (fun _ _ _ _ _ => (ets_one (et_cmp o_ge (ee_bi b_abs rfl m_abs bb_abs (ea_cons (ee_var (i := 2) rfl (.inl rfl)) ea_nil)) (ee_bin o_pow ee_int ee_int)))) (fun _ _ _ _ _ => (ee_bi b_abs rfl m_abs bb_abs (ea_cons (ee_var (i := 2) rfl (.inl rfl)) ea_nil)))) (ess_one (es_ret (ee_lst (ea_cons (ee_var (i := 0) rfl (.inl rfl)) (ea_cons (ee_lrev rfl rfl m_list rfl m_reversed (ee_var (i := 1) rfl (.inl rfl))) (ea_cons ee_int ea_nil)))))))⟩
abbrev s_law_take : Stmt := top 46
theorem sc_law_take : FnScope ["_law_deck_here", "_law_many", "_law_digit"] ["_law_deck_here", "_law_many"] (defScope s_law_take) := ⟨rfl, rfl, rfl, by decide +kernel, rfl, by decide +kernel, by decide +kernel⟩
def b_law_take_0b (ns : List Int) : SF := (sDrop (eMt mPop (eBin (ixD ns) (eVar 0) (eC (.int 1))) aNil))
def b_law_take_1b_2 (ns : List Int) : SF := (sRet (eVar 2))
def b_law_take_1b_1 (ns : List Int) : SF := (sSeq (sAsg (eBin opDivW (eBin (ixD ns) (eBin (ixD ns) (eVar 0) (eC (.int 1))) (eNeg (eC (.int 1)))) (eVar 1)) (gIx (eBin (ixD ns) (eVar 0) (eC (.int 1))) (eNeg (eC (.int 1))))) (b_law_take_1b_2 ns))
def b_law_take_1b (ns : List Int) : SF := (sSeq (sAsg (eBin opMod (eBin (ixD ns) (eBin (ixD ns) (eVar 0) (eC (.int 1))) (eNeg (eC (.int 1)))) (eVar 1)) (gN 2)) (b_law_take_1b_1 ns))
def b_law_take_3 (ns : List Int) : SF := (sRet (eCall (f_law_mixed ns) (aCons (eBin (ixD ns) (eVar 0) (eC (.int 0))) (aCons (eBin (ixD ns) (eVar 0) (eC (.int 2))) (aCons (eVar 1) aNil)))))
def b_law_take_2 (ns : List Int) : SF := (sSeq (sAsg (eBin opAdd (eBin (ixD ns) (eVar 0) (eC (.int 2))) (eC (.int 1))) (gIx (eVar 0) (eC (.int 2)))) (b_law_take_3 ns))
def b_law_take_1 (ns : List Int) : SF := (sSeq (sIf (tB1 (eBin (opNe ns) (eBin (ixD ns) (eVar 0) (eC (.int 1))) (eLst aNil))) (b_law_take_1b ns) sNext) (b_law_take_2 ns))
def b_law_take (ns : List Int) : SF := (sSeq (sWhile (tAndF (tB1 (eBin (opNe ns) (eBin (ixD ns) (eVar 0) (eC (.int 1))) (eLst aNil))) (tB1 (eBin (opEq ns) (eBin (ixD ns) (eBin (ixD ns) (eVar 0) (eC (.int 1))) (eNeg (eC (.int 1)))) (eC (.int 0))))) (b_law_take_0b ns) 70) (b_law_take_1 ns))
def f_law_take (ns : List Int) : Fn := run 2 3 (b_law_take ns)
theorem ok_law_take {f : Addr} {fd : FuncData} (F : Fun K "_law_take" "_law_take" s_law_take f fd) (bd : Binds K fd ["_law_deck_here", "_law_many"] []) (m' : mg "_law_take" = some (.ref f)) (c__law_mixed : CallOk P w K mg base q 2 "_law_mixed" (f_law_mixed q.ns)) : CallOk P w K mg base q 3 "_law_take" (f_law_take q.ns) :=
  ⟨f, fd, _, m', F.kp, bd, fn_ok (k := 2) (N := ["_law_deck_here", "_law_many", "_law_digit"]) (body := b_law_take q.ns) F sc_law_take rfl fun cdv A outer s H E hr => (ess_cons (es_while (n := 70) PassesOwn.never (et_w (ew_and (et_cmp (o_ne (hu64 hr)) (ee_ix (ee_var (i := 0) rfl (.inl rfl)) ee_int) (ee_lst ea_nil)) (ew_and1 (et_cmp (o_eq (hu64 hr)) (ee_ix (ee_ix (ee_var (i := 0) rfl (.inl rfl)) ee_int) (ee_neg ee_int)) ee_int)))) (ess_one (es_expr (ee_mt0 PySem.F.plainAttrs_list PySem.F.slot_list_pop PySem.F.type_list_pop m_pop (ee_ix (ee_var (i := 0) rfl (.inl rfl)) ee_int))))) (ess_cons (es_if (et_cmp (o_ne (hu64 hr)) (ee_ix (ee_var (i := 0) rfl (.inl rfl)) ee_int) (ee_lst ea_nil)) (ess_cons (es_set (i := 2) sc_law_take.nd rfl (.inl rfl) (ee_bin o_mod (ee_ix (ee_ix (ee_var (i := 0) rfl (.inl rfl)) ee_int) (ee_neg ee_int)) (ee_var (i := 1) rfl (.inl rfl)))) (ess_cons (es_asg (ee_bin o_divW (ee_ix (ee_ix (ee_var (i := 0) rfl (.inl rfl)) ee_int) (ee_neg ee_int)) (ee_var (i := 1) rfl (.inl rfl))) (eg_ix (ee_ix (ee_var (i := 0) rfl (.inl rfl)) ee_int) (ee_neg ee_int))) (ess_one (es_ret (ee_var (i := 2) rfl (.inl rfl)))))) ess_nil) (ess_cons (es_asg (ee_bin o_add (ee_ix (ee_var (i := 0) rfl (.inl rfl)) ee_int) ee_int) (eg_ix (ee_var (i := 0) rfl (.inl rfl)) ee_int)) (ess_one (es_ret (ee_call ⟨c__law_mixed⟩ (hr.mono (by decide)) rfl (ea_cons (ee_ix (ee_var (i := 0) rfl (.inl rfl)) ee_int) (ea_cons (ee_ix (ee_var (i := 0) rfl (.inl rfl)) ee_int) (ea_cons (ee_var (i := 1) rfl (.inl rfl)) ea_nil)))))))))⟩
abbrev s_law_kinds : Stmt := top 47
theorem sc_law_kinds : FnScope ["_law_error", "_law_found"] ["_law_error"] (defScope s_law_kinds) := ⟨rfl, rfl, rfl, by decide +kernel, rfl, by decide +kernel, by decide +kernel⟩
def b_law_kinds_7 (ns : List Int) : SF := (sRet (eMt mCount (eVar 1) (aCons (eC (.bl true)) aNil)))
def b_law_kinds_6 (ns : List Int) : SF := (sSeq (sAsg (eBin opAdd (eVar 1) (eLst (aCons (eBi (bIsX (tabOf rows)) (aCons (eVar 0) (aCons (eC (.gl "NoText")) aNil))) (aCons (eBi (bIsX (tabOf rows)) (aCons (eVar 0) (aCons (eC (.gl "NoName")) aNil))) (aCons (eBi (bIsX (tabOf rows)) (aCons (eVar 0) (aCons (eC (.gl "NoThings")) aNil))) aNil))))) (gN 1)) (b_law_kinds_7 ns))
def b_law_kinds_5 (ns : List Int) : SF := (sSeq (sAsg (eBin opAdd (eVar 1) (eLst (aCons (eBi (bIsX (tabOf rows)) (aCons (eVar 0) (aCons (eC (.gl "NoPlace")) aNil))) (aCons (eBi (bIsX (tabOf rows)) (aCons (eVar 0) (aCons (eC (.gl "NoHands")) aNil))) (aCons (eBi (bIsX (tabOf rows)) (aCons (eVar 0) (aCons (eC (.gl "NoRounds")) aNil))) aNil))))) (gN 1)) (b_law_kinds_6 ns))
def b_law_kinds_4 (ns : List Int) : SF := (sSeq (sAsg (eBin opAdd (eVar 1) (eLst (aCons (eBi (bIsX (tabOf rows)) (aCons (eVar 0) (aCons (eC (.gl "NoDepth")) aNil))) (aCons (eBi (bIsX (tabOf rows)) (aCons (eVar 0) (aCons (eC (.gl "TooShallow")) aNil))) (aCons (eBi (bIsX (tabOf rows)) (aCons (eVar 0) (aCons (eC (.gl "TooMany")) aNil))) aNil))))) (gN 1)) (b_law_kinds_5 ns))
def b_law_kinds_3 (ns : List Int) : SF := (sSeq (sAsg (eBin opAdd (eVar 1) (eLst (aCons (eBi (bIsX (tabOf rows)) (aCons (eVar 0) (aCons (eC (.gl "NoSpare")) aNil))) (aCons (eBi (bIsX (tabOf rows)) (aCons (eVar 0) (aCons (eC (.gl "NoSize")) aNil))) (aCons (eBi (bIsX (tabOf rows)) (aCons (eVar 0) (aCons (eC (.gl "NoEnds")) aNil))) aNil))))) (gN 1)) (b_law_kinds_4 ns))
def b_law_kinds_2 (ns : List Int) : SF := (sSeq (sAsg (eBin opAdd (eVar 1) (eLst (aCons (eBi (bIsX (tabOf rows)) (aCons (eVar 0) (aCons (eC (.gl "NotBeside")) aNil))) (aCons (eBi (bIsX (tabOf rows)) (aCons (eVar 0) (aCons (eC (.gl "NoPaper")) aNil))) (aCons (eBi (bIsX (tabOf rows)) (aCons (eVar 0) (aCons (eC (.gl "NoWidth")) aNil))) aNil))))) (gN 1)) (b_law_kinds_3 ns))
def b_law_kinds_1 (ns : List Int) : SF := (sSeq (sAsg (eBin opAdd (eVar 1) (eLst (aCons (eBi (bIsX (tabOf rows)) (aCons (eVar 0) (aCons (eC (.gl "NoRow")) aNil))) (aCons (eBi (bIsX (tabOf rows)) (aCons (eVar 0) (aCons (eC (.gl "NoWindow")) aNil))) (aCons (eBi (bIsX (tabOf rows)) (aCons (eVar 0) (aCons (eC (.gl "NoNet")) aNil))) aNil))))) (gN 1)) (b_law_kinds_2 ns))
def b_law_kinds (ns : List Int) : SF := (sSeq (sAsg (eLst (aCons (eBi (bIsX (tabOf rows)) (aCons (eVar 0) (aCons (eC (.gl "NoJoining")) aNil))) (aCons (eBi (bIsX (tabOf rows)) (aCons (eVar 0) (aCons (eC (.gl "Bracketed")) aNil))) (aCons (eBi (bIsX (tabOf rows)) (aCons (eVar 0) (aCons (eC (.gl "NoThing")) aNil))) aNil)))) (gN 1)) (b_law_kinds_1 ns))
def f_law_kinds (ns : List Int) : Fn := run 1 2 (b_law_kinds ns)
theorem ok_law_kinds {f : Addr} {fd : FuncData} (F : Fun K "_law_kinds" "_law_kinds" s_law_kinds f fd) (bd : Binds K fd ["_law_error"] []) (m' : mg "_law_kinds" = some (.ref f)) (m_isinstance : mg "isinstance" = none) {A_Bracketed : Addr} (m_Bracketed : mg "Bracketed" = some (.ref A_Bracketed)) {A_NoDepth : Addr} (m_NoDepth : mg "NoDepth" = some (.ref A_NoDepth)) {A_NoEnds : Addr} (m_NoEnds : mg "NoEnds" = some (.ref A_NoEnds)) {A_NoHands : Addr} (m_NoHands : mg "NoHands" = some (.ref A_NoHands)) {A_NoJoining : Addr} (m_NoJoining : mg "NoJoining" = some (.ref A_NoJoining)) {A_NoName : Addr} (m_NoName : mg "NoName" = some (.ref A_NoName)) {A_NoNet : Addr} (m_NoNet : mg "NoNet" = some (.ref A_NoNet)) {A_NoPaper : Addr} (m_NoPaper : mg "NoPaper" = some (.ref A_NoPaper)) {A_NoPlace : Addr} (m_NoPlace : mg "NoPlace" = some (.ref A_NoPlace)) {A_NoRounds : Addr} (m_NoRounds : mg "NoRounds" = some (.ref A_NoRounds)) {A_NoRow : Addr} (m_NoRow : mg "NoRow" = some (.ref A_NoRow)) {A_NoSize : Addr} (m_NoSize : mg "NoSize" = some (.ref A_NoSize)) {A_NoSpare : Addr} (m_NoSpare : mg "NoSpare" = some (.ref A_NoSpare)) {A_NoText : Addr} (m_NoText : mg "NoText" = some (.ref A_NoText)) {A_NoThing : Addr} (m_NoThing : mg "NoThing" = some (.ref A_NoThing)) {A_NoThings : Addr} (m_NoThings : mg "NoThings" = some (.ref A_NoThings)) {A_NoWidth : Addr} (m_NoWidth : mg "NoWidth" = some (.ref A_NoWidth)) {A_NoWindow : Addr} (m_NoWindow : mg "NoWindow" = some (.ref A_NoWindow)) {A_NotBeside : Addr} (m_NotBeside : mg "NotBeside" = some (.ref A_NotBeside)) {A_TooMany : Addr} (m_TooMany : mg "TooMany" = some (.ref A_TooMany)) {A_TooShallow : Addr} (m_TooShallow : mg "TooShallow" = some (.ref A_TooShallow)) (isT : ∀ r ∈ rows, RowOk K mg r) : CallOkH P w K mg base q 1 "_law_kinds" (f_law_kinds q.ns) :=
  ⟨f, fd, _, m', F.kp, bd, fn_okH (k := 0) (N := ["_law_error", "_law_found"]) (body := b_law_kinds q.ns) F sc_law_kinds rfl fun cdv A outer s H E hr => (ess_cons (es_set (i := 1) sc_law_kinds.nd rfl (.inl rfl) (ee_lst (ea_cons (ee_bi (b_isR isT) rfl m_isinstance bb_isinstance (ea_cons (ee_var (i := 0) rfl (.inl rfl)) (ea_cons (ee_gl rfl m_NoJoining) ea_nil))) (ea_cons (ee_bi (b_isR isT) rfl m_isinstance bb_isinstance (ea_cons (ee_var (i := 0) rfl (.inl rfl)) (ea_cons (ee_gl rfl m_Bracketed) ea_nil))) (ea_cons (ee_bi (b_isR isT) rfl m_isinstance bb_isinstance (ea_cons (ee_var (i := 0) rfl (.inl rfl)) (ea_cons (ee_gl rfl m_NoThing) ea_nil))) ea_nil))))) (ess_cons (es_set (i := 1) sc_law_kinds.nd rfl (.inl rfl) (ee_bin o_add (ee_var (i := 1) rfl (.inl rfl)) (ee_lst (ea_cons (ee_bi (b_isR isT) rfl m_isinstance bb_isinstance (ea_cons (ee_var (i := 0) rfl (.inl rfl)) (ea_cons (ee_gl rfl m_NoRow) ea_nil))) (ea_cons (ee_bi (b_isR isT) rfl m_isinstance bb_isinstance (ea_cons (ee_var (i := 0) rfl (.inl rfl)) (ea_cons (ee_gl rfl m_NoWindow) ea_nil))) (ea_cons (ee_bi (b_isR isT) rfl m_isinstance bb_isinstance (ea_cons (ee_var (i := 0) rfl (.inl rfl)) (ea_cons (ee_gl rfl m_NoNet) ea_nil))) ea_nil)))))) (ess_cons (es_set (i := 1) sc_law_kinds.nd rfl (.inl rfl) (ee_bin o_add (ee_var (i := 1) rfl (.inl rfl)) (ee_lst (ea_cons (ee_bi (b_isR isT) rfl m_isinstance bb_isinstance (ea_cons (ee_var (i := 0) rfl (.inl rfl)) (ea_cons (ee_gl rfl m_NotBeside) ea_nil))) (ea_cons (ee_bi (b_isR isT) rfl m_isinstance bb_isinstance (ea_cons (ee_var (i := 0) rfl (.inl rfl)) (ea_cons (ee_gl rfl m_NoPaper) ea_nil))) (ea_cons (ee_bi (b_isR isT) rfl m_isinstance bb_isinstance (ea_cons (ee_var (i := 0) rfl (.inl rfl)) (ea_cons (ee_gl rfl m_NoWidth) ea_nil))) ea_nil)))))) (ess_cons (es_set (i := 1) sc_law_kinds.nd rfl (.inl rfl) (ee_bin o_add (ee_var (i := 1) rfl (.inl rfl)) (ee_lst (ea_cons (ee_bi (b_isR isT) rfl m_isinstance bb_isinstance (ea_cons (ee_var (i := 0) rfl (.inl rfl)) (ea_cons (ee_gl rfl m_NoSpare) ea_nil))) (ea_cons (ee_bi (b_isR isT) rfl m_isinstance bb_isinstance (ea_cons (ee_var (i := 0) rfl (.inl rfl)) (ea_cons (ee_gl rfl m_NoSize) ea_nil))) (ea_cons (ee_bi (b_isR isT) rfl m_isinstance bb_isinstance (ea_cons (ee_var (i := 0) rfl (.inl rfl)) (ea_cons (ee_gl rfl m_NoEnds) ea_nil))) ea_nil)))))) (ess_cons (es_set (i := 1) sc_law_kinds.nd rfl (.inl rfl) (ee_bin o_add (ee_var (i := 1) rfl (.inl rfl)) (ee_lst (ea_cons (ee_bi (b_isR isT) rfl m_isinstance bb_isinstance (ea_cons (ee_var (i := 0) rfl (.inl rfl)) (ea_cons (ee_gl rfl m_NoDepth) ea_nil))) (ea_cons (ee_bi (b_isR isT) rfl m_isinstance bb_isinstance (ea_cons (ee_var (i := 0) rfl (.inl rfl)) (ea_cons (ee_gl rfl m_TooShallow) ea_nil))) (ea_cons (ee_bi (b_isR isT) rfl m_isinstance bb_isinstance (ea_cons (ee_var (i := 0) rfl (.inl rfl)) (ea_cons (ee_gl rfl m_TooMany) ea_nil))) ea_nil)))))) (ess_cons (es_set (i := 1) sc_law_kinds.nd rfl (.inl rfl) (ee_bin o_add (ee_var (i := 1) rfl (.inl rfl)) (ee_lst (ea_cons (ee_bi (b_isR isT) rfl m_isinstance bb_isinstance (ea_cons (ee_var (i := 0) rfl (.inl rfl)) (ea_cons (ee_gl rfl m_NoPlace) ea_nil))) (ea_cons (ee_bi (b_isR isT) rfl m_isinstance bb_isinstance (ea_cons (ee_var (i := 0) rfl (.inl rfl)) (ea_cons (ee_gl rfl m_NoHands) ea_nil))) (ea_cons (ee_bi (b_isR isT) rfl m_isinstance bb_isinstance (ea_cons (ee_var (i := 0) rfl (.inl rfl)) (ea_cons (ee_gl rfl m_NoRounds) ea_nil))) ea_nil)))))) (ess_cons (es_set (i := 1) sc_law_kinds.nd rfl (.inl rfl) (ee_bin o_add (ee_var (i := 1) rfl (.inl rfl)) (ee_lst (ea_cons (ee_bi (b_isR isT) rfl m_isinstance bb_isinstance (ea_cons (ee_var (i := 0) rfl (.inl rfl)) (ea_cons (ee_gl rfl m_NoText) ea_nil))) (ea_cons (ee_bi (b_isR isT) rfl m_isinstance bb_isinstance (ea_cons (ee_var (i := 0) rfl (.inl rfl)) (ea_cons (ee_gl rfl m_NoName) ea_nil))) (ea_cons (ee_bi (b_isR isT) rfl m_isinstance bb_isinstance (ea_cons (ee_var (i := 0) rfl (.inl rfl)) (ea_cons (ee_gl rfl m_NoThings) ea_nil))) ea_nil)))))) (ess_one (es_ret (ee_mt PySem.F.plainAttrs_list PySem.F.slot_list_count PySem.F.type_list_count m_count (ee_var (i := 1) rfl (.inl rfl)) (ea_cons ee_bl ea_nil)))))))))))⟩
abbrev s_law_is_just : Stmt := top 48
theorem sc_law_is_just : FnScope ["_law_error", "_law_meant"] ["_law_error", "_law_meant"] (defScope s_law_is_just) := ⟨rfl, rfl, rfl, by decide +kernel, rfl, by decide +kernel, by decide +kernel⟩
def b_law_is_just_1 (ns : List Int) : SF := (sRet (eAnd (eVar 1) (eBin (opEq ns) (eCall (f_law_kinds ns) (aCons (eVar 0) aNil)) (eC (.int 1)))))
def b_law_is_just (ns : List Int) : SF := (sSeq (sIf (tOrF (tNotF (tTru ns (eBi (bIsX (tabOf rows)) (aCons (eVar 0) (aCons (eC (.gl "NetError")) aNil))))) (tNotF (tTru ns (eBi (bIsX (tabOf rows)) (aCons (eVar 0) (aCons (eC (.ty "ValueError")) aNil)))))) (sRet (eC (.bl false))) sNext) (b_law_is_just_1 ns))
def f_law_is_just (ns : List Int) : Fn := run 2 2 (b_law_is_just ns)
theorem ok_law_is_just {f : Addr} {fd : FuncData} (F : Fun K "_law_is_just" "_law_is_just" s_law_is_just f fd) (bd : Binds K fd ["_law_error", "_law_meant"] []) (m' : mg "_law_is_just" = some (.ref f)) (m_ValueError : mg "ValueError" = none) (m_isinstance : mg "isinstance" = none) (c__law_kinds : CallOkH P w K mg base q 1 "_law_kinds" (f_law_kinds q.ns)) {A_NetError : Addr} (m_NetError : mg "NetError" = some (.ref A_NetError)) (isT : ∀ r ∈ rows, RowOk K mg r) : CallOkH P w K mg base q 2 "_law_is_just" (f_law_is_just q.ns) :=
  ⟨f, fd, _, m', F.kp, bd, fn_okH (k := 1) (N := ["_law_error", "_law_meant"]) (body := b_law_is_just q.ns) F sc_law_is_just rfl fun cdv A outer s H E hr => (ess_cons (es_if (et_w (ew_or (et_not (et_tru (ee_bi (b_isR isT) rfl m_isinstance bb_isinstance (ea_cons (ee_var (i := 0) rfl (.inl rfl)) (ea_cons (ee_gl rfl m_NetError) ea_nil))))) (ew_or1 (et_not (et_tru (ee_bi (b_isR isT) rfl m_isinstance bb_isinstance (ea_cons (ee_var (i := 0) rfl (.inl rfl)) (ea_cons (ee_ty rfl m_ValueError bt_ValueError) ea_nil)))))))) (ess_one (es_ret ee_bl)) ess_nil) (ess_one (es_ret (ee_and (ee_var (i := 1) rfl (.inl rfl)) (ee_one (ee_cmp (o_eq (hu64H hr)) (ee_callH ⟨c__law_kinds⟩ (hr.mono (by decide)) rfl (ea_cons (ee_var (i := 0) rfl (.inl rfl)) ea_nil)) ee_int))))))⟩
abbrev s_law_whole : Stmt := top 49
theorem sc_law_whole : FnScope ["_law_found"] ["_law_found"] (defScope s_law_whole) := ⟨rfl, rfl, rfl, by decide +kernel, rfl, by decide +kernel, by decide +kernel⟩
def b_law_whole (ns : List Int) : SF := (sRet (eAnd (eBi bIs (aCons (eVar 0) (aCons (eC (.ty "int")) aNil))) (eNotB (eBi bIs (aCons (eVar 0) (aCons (eC (.ty "bool")) aNil))))))
def f_law_whole (ns : List Int) : Fn := run 1 1 (b_law_whole ns)
theorem ok_law_whole {f : Addr} {fd : FuncData} (F : Fun K "_law_whole" "_law_whole" s_law_whole f fd) (bd : Binds K fd ["_law_found"] []) (m' : mg "_law_whole" = some (.ref f)) (m_bool : mg "bool" = none) (m_int : mg "int" = none) (m_isinstance : mg "isinstance" = none) : CallOk P w K mg base q 1 "_law_whole" (f_law_whole q.ns) :=
  ⟨f, fd, _, m', F.kp, bd, fn_ok (k := 0) (N := ["_law_found"]) (body := b_law_whole q.ns) F sc_law_whole rfl fun cdv A outer s H E hr => (ess_one (es_ret (ee_and (ee_bi b_is rfl m_isinstance bb_isinstance (ea_cons (ee_var (i := 0) rfl (.inl rfl)) (ea_cons (ee_ty rfl m_int bt_int) ea_nil))) (ee_one (ee_not (ee_bi b_is rfl m_isinstance bb_isinstance (ea_cons (ee_var (i := 0) rfl (.inl rfl)) (ea_cons (ee_ty rfl m_bool bt_bool) ea_nil))))))))⟩
abbrev s_law_same : Stmt := top 50
theorem sc_law_same : FnScope ["_law_found", "_law_due", "_law_one", "_law_other"] ["_law_found", "_law_due"] (defScope s_law_same) := ⟨rfl, rfl, rfl, by decide +kernel, rfl, by decide +kernel, by decide +kernel⟩
def b_law_same_0b_1b (g : Fn) (ns : List Int) : SF := (sIf (tNotF (tTru ns (eCall g (aCons (eVar 2) (aCons (eVar 3) aNil))))) (sRet (eC (.bl false))) sNext)
def b_law_same_0b_2 (g : Fn) (ns : List Int) : SF := (sRet (eC (.bl true)))
def b_law_same_0b_1 (g : Fn) (ns : List Int) : SF := (sSeq (sForG (iZp ns (eVar 0) (eVar 1)) (gT 2 (gCons' (gN 2) (gCons' (gN 3) gNil'))) (b_law_same_0b_1b g ns)) (b_law_same_0b_2 g ns))
def b_law_same_0b (g : Fn) (ns : List Int) : SF := (sSeq (sIf (tOrF (tNotF (tTru ns (eBi bIs (aCons (eVar 0) (aCons (eC (.ty "tuple")) aNil))))) (tB1 (eBin (opNe ns) (eBi (bLen ns) (aCons (eVar 0) aNil)) (eBi (bLen ns) (aCons (eVar 1) aNil))))) (sRet (eC (.bl false))) sNext) (b_law_same_0b_1 g ns))
def b_law_same_1b (g : Fn) (ns : List Int) : SF := (sRet (eAnd (eBi bIs (aCons (eVar 0) (aCons (eC (.ty "str")) aNil))) (eBin (opEq ns) (eVar 0) (eVar 1))))
def b_law_same_2 (g : Fn) (ns : List Int) : SF := (sRet (eAnd (eCall (f_law_whole ns) (aCons (eVar 0) aNil)) (eBin (opEq ns) (eVar 0) (eVar 1))))
def b_law_same_1 (g : Fn) (ns : List Int) : SF := (sSeq (sIf (tTru ns (eBi bIs (aCons (eVar 1) (aCons (eC (.ty "str")) aNil)))) (b_law_same_1b g ns) sNext) (b_law_same_2 g ns))
def b_law_same (g : Fn) (ns : List Int) : SF := (sSeq (sIf (tTru ns (eBi bIs (aCons (eVar 1) (aCons (eC (.ty "tuple")) aNil)))) (b_law_same_0b g ns) sNext) (b_law_same_1 g ns))
def f_law_same : Nat → List Int → Fn
  | 0, _ => fun _ _ => .bad
  | n + 1, ns => run 2 4 (b_law_same (f_law_same n ns) ns)
theorem ok_law_same {m : Nat} {g : Fn} {f : Addr} {fd : FuncData} (F : Fun K "_law_same" "_law_same" s_law_same f fd) (bd : Binds K fd ["_law_found", "_law_due"] []) (m' : mg "_law_same" = some (.ref f)) (m_isinstance : mg "isinstance" = none) (m_len : mg "len" = none) (m_str : mg "str" = none) (m_tuple : mg "tuple" = none) (m_zip : mg "zip" = none) (c__law_same : CallOk P w K mg base q m "_law_same" g) (c__law_whole : CallOk P w K mg base q 1 "_law_whole" (f_law_whole q.ns)) (hn : 1 ≤ m) : CallOk P w K mg base q (m + 1) "_law_same" (run 2 4 (b_law_same g q.ns)) :=
  ⟨f, fd, _, m', F.kp, bd, fn_ok (k := m + 0) (N := ["_law_found", "_law_due", "_law_one", "_law_other"]) (body := b_law_same g q.ns) F sc_law_same rfl fun cdv A outer s H E hr => (ess_cons (es_if (et_tru (ee_bi b_is rfl m_isinstance bb_isinstance (ea_cons (ee_var (i := 1) rfl (.inl rfl)) (ea_cons (ee_ty rfl m_tuple bt_tuple) ea_nil)))) (ess_cons (es_if (et_w (ew_or (et_not (et_tru (ee_bi b_is rfl m_isinstance bb_isinstance (ea_cons (ee_var (i := 0) rfl (.inl rfl)) (ea_cons (ee_ty rfl m_tuple bt_tuple) ea_nil))))) (ew_or1 (et_cmp (o_ne (hu64 hr)) (ee_bi b_len rfl m_len bb_len (ea_cons (ee_var (i := 0) rfl (.inl rfl)) ea_nil)) (ee_bi b_len rfl m_len bb_len (ea_cons (ee_var (i := 1) rfl (.inl rfl)) ea_nil)))))) (ess_one (es_ret ee_bl)) ess_nil) (ess_cons (es_forG PassesOwn.never rfl (ei_zip rfl m_zip (ee_var (i := 0) rfl (.inl rfl)) (ee_var (i := 1) rfl (.inl rfl))) (eg_tup rfl (egs_cons (eg_name (i := 2) sc_law_same.nd rfl (.inl rfl)) (egs_cons (eg_name (i := 3) sc_law_same.nd rfl (.inl rfl)) egs_nil))) (ess_one (es_if (et_not (et_tru (ee_call ⟨c__law_same⟩ (hr.mono (by omega)) rfl (ea_cons (ee_var (i := 2) rfl (.inl rfl)) (ea_cons (ee_var (i := 3) rfl (.inl rfl)) ea_nil))))) (ess_one (es_ret ee_bl)) ess_nil))) (ess_one (es_ret ee_bl)))) ess_nil) (ess_cons (es_if (et_tru (ee_bi b_is rfl m_isinstance bb_isinstance (ea_cons (ee_var (i := 1) rfl (.inl rfl)) (ea_cons (ee_ty rfl m_str bt_str) ea_nil)))) (ess_one (es_ret (ee_and (ee_bi b_is rfl m_isinstance bb_isinstance (ea_cons (ee_var (i := 0) rfl (.inl rfl)) (ea_cons (ee_ty rfl m_str bt_str) ea_nil))) (ee_one (ee_cmp (o_eq (hu64 hr)) (ee_var (i := 0) rfl (.inl rfl)) (ee_var (i := 1) rfl (.inl rfl))))))) ess_nil) (ess_one (es_ret (ee_and (ee_call ⟨c__law_whole⟩ (hr.mono (by omega)) rfl (ea_cons (ee_var (i := 0) rfl (.inl rfl)) ea_nil)) (ee_one (ee_cmp (o_eq (hu64 hr)) (ee_var (i := 0) rfl (.inl rfl)) (ee_var (i := 1) rfl (.inl rfl)))))))))⟩
abbrev s_law_pairs : Stmt := top 51
theorem sc_law_pairs : FnScope ["_law_width", "_law_found"] ["_law_width"] (defScope s_law_pairs) := ⟨rfl, rfl, rfl, by decide +kernel, rfl, by decide +kernel, by decide +kernel⟩
def b_law_pairs_1b (ns : List Int) : SF := (sDrop (eMt mApp (eVar 1) (aCons (eTup (aCons (eC (.str "steps")) (aCons (eC (.int 1)) aNil))) aNil)))
def b_law_pairs_2 (ns : List Int) : SF := (sRet (eBi (bTuple ns) (aCons (eVar 1) aNil)))
def b_law_pairs_1 (ns : List Int) : SF := (sSeq (sIf (tB1 (eBin (opEq ns) (eBin opMod (eVar 0) (eC (.int 2))) (eC (.int 1)))) (b_law_pairs_1b ns) sNext) (b_law_pairs_2 ns))
def b_law_pairs (ns : List Int) : SF := (sSeq (sAsg (eBin opMul (eLst (aCons (eTup (aCons (eC (.str "steps")) (aCons (eC (.int 2)) aNil))) aNil)) (eBin opDivW (eVar 0) (eC (.int 2)))) (gN 1)) (b_law_pairs_1 ns))
def f_law_pairs (ns : List Int) : Fn := run 1 2 (b_law_pairs ns)
theorem ok_law_pairs {f : Addr} {fd : FuncData} (F : Fun K "_law_pairs" "_law_pairs" s_law_pairs f fd) (bd : Binds K fd ["_law_width"] []) (m' : mg "_law_pairs" = some (.ref f)) (m_tuple : mg "tuple" = none) : CallOk P w K mg base q 1 "_law_pairs" (f_law_pairs q.ns) :=
  ⟨f, fd, _, m', F.kp, bd, fn_ok (k := 0) (N := ["_law_width", "_law_found"]) (body := b_law_pairs q.ns) F sc_law_pairs rfl fun cdv A outer s H E hr => (ess_cons (es_set (i := 1) sc_law_pairs.nd rfl (.inl rfl) (ee_bin o_mul (ee_lst (ea_cons (ee_tup (ea_cons ee_str (ea_cons ee_int ea_nil))) ea_nil)) (ee_bin o_divW (ee_var (i := 0) rfl (.inl rfl)) ee_int))) (ess_cons (es_if (et_cmp (o_eq (hu64 hr)) (ee_bin o_mod (ee_var (i := 0) rfl (.inl rfl)) ee_int) ee_int) (ess_one (es_expr (ee_mt PySem.F.plainAttrs_list PySem.F.slot_list_append PySem.F.type_list_append m_app (ee_var (i := 1) rfl (.inl rfl)) (ea_cons (ee_tup (ea_cons ee_str (ea_cons ee_int ea_nil))) ea_nil)))) ess_nil) (ess_one (es_ret (ee_bt b_tuple rfl m_tuple bt_tuple (ea_cons (ee_var (i := 1) rfl (.inl rfl)) ea_nil))))))⟩
abbrev s_law_rule : Stmt := top 52
theorem sc_law_rule : FnScope ["_law_which", "_law_width", "_law_more", "_law_half", "_law_sizes", "_law_at", "_law_size"] ["_law_which", "_law_width", "_law_more"] (defScope s_law_rule) := ⟨rfl, rfl, rfl, by decide +kernel, rfl, by decide +kernel, by decide +kernel⟩
theorem blk_law_rule_0 : BlkOk ["_law_which", "_law_width", "_law_more", "_law_half", "_law_sizes", "_law_at", "_law_size"] (defScope s_law_rule) {
                    kind := PySem.ScopeKind.function,
                    names := [
                      (PySem.Str.ofString ".0", PySem.NameKind.local),
                      (PySem.Str.ofString "_law_at", PySem.NameKind.local),
                      (PySem.Str.ofString "min", PySem.NameKind.globalImplicit),
                      (PySem.Str.ofString "_law_more", PySem.NameKind.free),
                      (PySem.Str.ofString "_law_width", PySem.NameKind.free)],
                    isGenerator := false,
                    isCoroutine := false,
                    more := [] : PySem.Scope } [("_law_at", 5)] := ⟨rfl, by decide +kernel, by decide +kernel, by decide +kernel, by decide +kernel⟩
theorem blk_law_rule_1 : BlkOk ["_law_which", "_law_width", "_law_more", "_law_half", "_law_sizes", "_law_at", "_law_size"] (defScope s_law_rule) {
                              kind := PySem.ScopeKind.function,
                              names := [(PySem.Str.ofString ".0", PySem.NameKind.local), (PySem.Str.ofString "_law_size", PySem.NameKind.local)],
                              isGenerator := false,
                              isCoroutine := false,
                              more := [] : PySem.Scope } [("_law_size", 6)] := ⟨rfl, by decide +kernel, by decide +kernel, by decide +kernel, by decide +kernel⟩
def b_law_rule_1b (g : Fn) (ns : List Int) : SF := (sRet (eTup (aCons (eC (.str "steps")) (aCons (eVar 1) aNil))))
def b_law_rule_2b (g : Fn) (ns : List Int) : SF := (sRet (eTup (aCons (eC (.str "blocks")) (aCons (eTup (aCons (eC (.str "steps")) (aCons (eC (.int 2)) aNil))) (aCons (eTup (aCons (eCall g (aCons (eC (.int 1)) (aCons (eBin opSub (eVar 1) (eC (.int 1))) (aCons (eC (.int 0)) aNil)))) (aCons (eTup (aCons (eC (.str "steps")) (aCons (eC (.int 1)) aNil))) aNil))) aNil)))))
def b_law_rule_3b (g : Fn) (ns : List Int) : SF := (sRet (eTup (aCons (eC (.str "blocks")) (aCons (eTup (aCons (eC (.str "steps")) (aCons (eC (.int 2)) aNil))) (aCons (eTup (aCons (eCall g (aCons (eC (.int 2)) (aCons (eVar 3) (aCons (eC (.int 0)) aNil)))) (aCons (eCall g (aCons (eC (.int 2)) (aCons (eBin opDivW (eVar 1) (eC (.int 2))) (aCons (eC (.int 0)) aNil)))) aNil))) aNil)))))
def b_law_rule_4b (g : Fn) (ns : List Int) : SF := (sRet (eTup (aCons (eC (.str "blocks")) (aCons (eCall g (aCons (eC (.int 3)) (aCons (eVar 3) (aCons (eC (.int 0)) aNil)))) (aCons (eCall (f_law_pairs ns) (aCons (eVar 1) aNil)) aNil)))))
def b_law_rule_5b (g : Fn) (ns : List Int) : SF := (sRet (eTup (aCons (eC (.str "blocks")) (aCons (eTup (aCons (eC (.str "steps")) (aCons (eVar 3) aNil))) (aCons (eCall (f_law_pairs ns) (aCons (eVar 1) aNil)) aNil)))))
def b_law_rule_6b (g : Fn) (ns : List Int) : SF := (sRet (eTup (aCons (eC (.str "blocks")) (aCons (eTup (aCons (eC (.str "steps")) (aCons (eC (.int 2)) aNil))) (aCons (eTup (aCons (eCall g (aCons (eC (.int 5)) (aCons (eVar 3) (aCons (eC (.int 1)) aNil)))) (aCons (eCall g (aCons (eC (.int 5)) (aCons (eBin opDivW (eVar 1) (eC (.int 2))) (aCons (eC (.int 0)) aNil)))) aNil))) aNil)))))
def b_law_rule_7b (g : Fn) (ns : List Int) : SF := (sRet (eTup (aCons (eC (.str "blocks")) (aCons (eCall g (aCons (eC (.int 5)) (aCons (eVar 3) (aCons (eBin opSub (eVar 2) (eC (.int 1))) aNil)))) (aCons (eCall (f_law_pairs ns) (aCons (eVar 1) aNil)) aNil)))))
def b_law_rule_9 (g : Fn) (ns : List Int) : SF := (sRet (eTup (aCons (eC (.str "blocks")) (aCons (eCall g (aCons (eC (.int 2)) (aCons (eBi (bLen ns) (aCons (eVar 4) aNil)) (aCons (eC (.int 0)) aNil)))) (aCons (eBi (bTuple ns) (aCons (eLc (iL ns (eVar 4)) [6] (tg1 6) tYesF (eTup (aCons (eC (.str "steps")) (aCons (eVar 6) aNil)))) aNil)) aNil)))))
def b_law_rule_8 (g : Fn) (ns : List Int) : SF := (sSeq (sAsg (eLc (iK (iR3p (eC (.int 0)) (eVar 1) (eVar 2))) [5] (tg1 5) tYesF (eBi bMin2 (aCons (eVar 2) (aCons (eBin opSub (eVar 1) (eVar 5)) aNil)))) (gN 4)) (b_law_rule_9 g ns))
def b_law_rule_7 (g : Fn) (ns : List Int) : SF := (sSeq (sIf (tB1 (eBin (opEq ns) (eVar 0) (eC (.int 5)))) (b_law_rule_7b g ns) sNext) (b_law_rule_8 g ns))
def b_law_rule_6 (g : Fn) (ns : List Int) : SF := (sSeq (sIf (tAndF (tB1 (eBin (opEq ns) (eVar 0) (eC (.int 5)))) (tB1 (eBin (opEq ns) (eVar 2) (eC (.int 0))))) (b_law_rule_6b g ns) sNext) (b_law_rule_7 g ns))
def b_law_rule_5 (g : Fn) (ns : List Int) : SF := (sSeq (sIf (tB1 (eBin (opEq ns) (eVar 0) (eC (.int 4)))) (b_law_rule_5b g ns) sNext) (b_law_rule_6 g ns))
def b_law_rule_4 (g : Fn) (ns : List Int) : SF := (sSeq (sIf (tB1 (eBin (opEq ns) (eVar 0) (eC (.int 3)))) (b_law_rule_4b g ns) sNext) (b_law_rule_5 g ns))
def b_law_rule_3 (g : Fn) (ns : List Int) : SF := (sSeq (sIf (tB1 (eBin (opEq ns) (eVar 0) (eC (.int 2)))) (b_law_rule_3b g ns) sNext) (b_law_rule_4 g ns))
def b_law_rule_2 (g : Fn) (ns : List Int) : SF := (sSeq (sIf (tB1 (eBin (opEq ns) (eVar 0) (eC (.int 1)))) (b_law_rule_2b g ns) sNext) (b_law_rule_3 g ns))
def b_law_rule_1 (g : Fn) (ns : List Int) : SF := (sSeq (sIf (tOrF (tB1 (eBin (opCmp fun i j => decide (i < j)) (eVar 1) (eC (.int 3)))) (tOrF (tB1 (eBin (opEq ns) (eVar 0) (eC (.int 0)))) (tAndF (tB1 (eBin (opEq ns) (eVar 0) (eC (.int 6)))) (tB1 (eBin (opCmp fun i j => decide (i ≤ j)) (eVar 1) (eVar 2)))))) (b_law_rule_1b g ns) sNext) (b_law_rule_2 g ns))
def b_law_rule (g : Fn) (ns : List Int) : SF := (sSeq (sAsg (eBin opSub (eVar 1) (eBin opDivW (eVar 1) (eC (.int 2)))) (gN 3)) (b_law_rule_1 g ns))
def f_law_rule : Nat → List Int → Fn
  | 0, _ => fun _ _ => .bad
  | n + 1, ns => run 3 7 (b_law_rule (f_law_rule n ns) ns)
theorem ok_law_rule {m : Nat} {g : Fn} {f : Addr} {fd : FuncData} (F : Fun K "_law_rule" "_law_rule" s_law_rule f fd) (bd : Binds K fd ["_law_which", "_law_width", "_law_more"] []) (m' : mg "_law_rule" = some (.ref f)) (m_len : mg "len" = none) (m_min : mg "min" = none) (m_range : mg "range" = none) (m_tuple : mg "tuple" = none) (c__law_rule : CallOk P w K mg base q m "_law_rule" g) (c__law_pairs : CallOk P w K mg base q 1 "_law_pairs" (f_law_pairs q.ns)) (hn : 1 ≤ m) : CallOk P w K mg base q (m + 1) "_law_rule" (run 3 7 (b_law_rule g q.ns)) :=
  ⟨f, fd, _, m', F.kp, bd, fn_ok (k := m + 0) (N := ["_law_which", "_law_width", "_law_more", "_law_half", "_law_sizes", "_law_at", "_law_size"]) (body := b_law_rule g q.ns) F sc_law_rule rfl fun cdv A outer s H E hr => (ess_cons (es_set (i := 3) sc_law_rule.nd rfl (.inl rfl) (ee_bin o_sub (ee_var (i := 1) rfl (.inr (.inl rfl))) (ee_bin o_divW (ee_var (i := 1) rfl (.inr (.inl rfl))) ee_int))) (ess_cons (es_if (et_w (ew_or (et_cmp o_lt (ee_var (i := 1) rfl (.inr (.inl rfl))) ee_int) (ew_or (et_cmp (o_eq (hu64 hr)) (ee_var (i := 0) rfl (.inl rfl)) ee_int) (ew_or1 (et_w (ew_and (et_cmp (o_eq (hu64 hr)) (ee_var (i := 0) rfl (.inl rfl)) ee_int) (ew_and1 (et_cmp o_le (ee_var (i := 1) rfl (.inr (.inl rfl))) (ee_var (i := 2) rfl (.inr (.inl rfl))))))))))) (ess_one (es_ret (ee_tup (ea_cons ee_str (ea_cons (ee_var (i := 1) rfl (.inr (.inl rfl))) ea_nil))))) ess_nil) (ess_cons (es_if (et_cmp (o_eq (hu64 hr)) (ee_var (i := 0) rfl (.inl rfl)) ee_int) (ess_one (es_ret (ee_tup (ea_cons ee_str (ea_cons (ee_tup (ea_cons ee_str (ea_cons ee_int ea_nil))) (ea_cons (ee_tup (ea_cons (ee_call ⟨c__law_rule⟩ (hr.mono (by omega)) rfl (ea_cons ee_int (ea_cons (ee_bin o_sub (ee_var (i := 1) rfl (.inr (.inl rfl))) ee_int) (ea_cons ee_int ea_nil)))) (ea_cons (ee_tup (ea_cons ee_str (ea_cons ee_int ea_nil))) ea_nil))) ea_nil)))))) ess_nil) (ess_cons (es_if (et_cmp (o_eq (hu64 hr)) (ee_var (i := 0) rfl (.inl rfl)) ee_int) (ess_one (es_ret (ee_tup (ea_cons ee_str (ea_cons (ee_tup (ea_cons ee_str (ea_cons ee_int ea_nil))) (ea_cons (ee_tup (ea_cons (ee_call ⟨c__law_rule⟩ (hr.mono (by omega)) rfl (ea_cons ee_int (ea_cons (ee_var (i := 3) rfl (.inl rfl)) (ea_cons ee_int ea_nil)))) (ea_cons (ee_call ⟨c__law_rule⟩ (hr.mono (by omega)) rfl (ea_cons ee_int (ea_cons (ee_bin o_divW (ee_var (i := 1) rfl (.inr (.inl rfl))) ee_int) (ea_cons ee_int ea_nil)))) ea_nil))) ea_nil)))))) ess_nil) (ess_cons (es_if (et_cmp (o_eq (hu64 hr)) (ee_var (i := 0) rfl (.inl rfl)) ee_int) (ess_one (es_ret (ee_tup (ea_cons ee_str (ea_cons (ee_call ⟨c__law_rule⟩ (hr.mono (by omega)) rfl (ea_cons ee_int (ea_cons (ee_var (i := 3) rfl (.inl rfl)) (ea_cons ee_int ea_nil)))) (ea_cons (ee_call ⟨c__law_pairs⟩ (hr.mono (by omega)) rfl (ea_cons (ee_var (i := 1) rfl (.inr (.inl rfl))) ea_nil)) ea_nil)))))) ess_nil) (ess_cons (es_if (et_cmp (o_eq (hu64 hr)) (ee_var (i := 0) rfl (.inl rfl)) ee_int) (ess_one (es_ret (ee_tup (ea_cons ee_str (ea_cons (ee_tup (ea_cons ee_str (ea_cons (ee_var (i := 3) rfl (.inl rfl)) ea_nil))) (ea_cons (ee_call ⟨c__law_pairs⟩ (hr.mono (by omega)) rfl (ea_cons (ee_var (i := 1) rfl (.inr (.inl rfl))) ea_nil)) ea_nil)))))) ess_nil) (ess_cons (es_if (et_w (ew_and (et_cmp (o_eq (hu64 hr)) (ee_var (i := 0) rfl (.inl rfl)) ee_int) (ew_and1 (et_cmp (o_eq (hu64 hr)) (ee_var (i := 2) rfl (.inr (.inl rfl))) ee_int)))) (ess_one (es_ret (ee_tup (ea_cons ee_str (ea_cons (ee_tup (ea_cons ee_str (ea_cons ee_int ea_nil))) (ea_cons (ee_tup (ea_cons (ee_call ⟨c__law_rule⟩ (hr.mono (by omega)) rfl (ea_cons ee_int (ea_cons (ee_var (i := 3) rfl (.inl rfl)) (ea_cons ee_int ea_nil)))) (ea_cons (ee_call ⟨c__law_rule⟩ (hr.mono (by omega)) rfl (ea_cons ee_int (ea_cons (ee_bin o_divW (ee_var (i := 1) rfl (.inr (.inl rfl))) ee_int) (ea_cons ee_int ea_nil)))) ea_nil))) ea_nil)))))) ess_nil) (ess_cons (es_if (et_cmp (o_eq (hu64 hr)) (ee_var (i := 0) rfl (.inl rfl)) ee_int) (ess_one (es_ret (ee_tup (ea_cons ee_str (ea_cons (ee_call ⟨c__law_rule⟩ (hr.mono (by omega)) rfl (ea_cons ee_int (ea_cons (ee_var (i := 3) rfl (.inl rfl)) (ea_cons (ee_bin o_sub (ee_var (i := 2) rfl (.inr (.inl rfl))) ee_int) ea_nil)))) (ea_cons (ee_call ⟨c__law_pairs⟩ (hr.mono (by omega)) rfl (ea_cons (ee_var (i := 1) rfl (.inr (.inl rfl))) ea_nil)) ea_nil)))))) ess_nil) (ess_cons (es_setLc (i := 4) (own := [("_law_at", 5)]) rfl sc_law_rule.nd rfl rfl rfl (eig_known (ei_range3p rfl m_range ee_int (ee_var (i := 1) rfl (.inr (.inl rfl))) (ee_var (i := 2) rfl (.inr (.inl rfl))))) blk_law_rule_0 tgok1 (fun _ _ _ _ _ => pg_name (i := 5) sc_law_rule.nd rfl (.inl rfl)) (fun _ _ _ _ _ => ets_nil) (fun _ _ _ _ _ => (ee_bi (b_min2 rfl) rfl m_min bb_min (ea_cons (ee_var (i := 2) rfl (.inr (.inl rfl))) (ea_cons (ee_bin o_sub (ee_var (i := 1) rfl (.inr (.inl rfl))) (ee_var (i := 5) rfl (.inl rfl))) ea_nil))))) (ess_one (es_ret (ee_tup (ea_cons ee_str (ea_cons (ee_call ⟨c__law_rule⟩ (hr.mono (by omega)) rfl (ea_cons ee_int (ea_cons (ee_bi b_len rfl m_len bb_len (ea_cons (ee_var (i := 4) rfl (.inl rfl)) ea_nil)) (ea_cons ee_int ea_nil)))) (ea_cons (ee_bt b_tuple rfl m_tuple bt_tuple (ea_cons (ee_lc (own := [("_law_size", 6)]) rfl sc_law_rule.nd (eig_list (ee_var (i := 4) rfl (.inl rfl))) blk_law_rule_1 tgok1 (fun _ _ _ _ _ => pg_name (i := 6) sc_law_rule.nd rfl (.inl rfl)) (fun _ _ _ _ _ => ets_nil) (fun _ _ _ _ _ => (ee_tup (ea_cons ee_str (ea_cons (ee_var (i := 6) rfl (.inl rfl)) ea_nil))))) ea_nil)) ea_nil)))))))))))))))⟩
abbrev s_law_made : Stmt := top 53
theorem sc_law_made : FnScope ["_law_which", "_law_width", "_law_more"] ["_law_which", "_law_width", "_law_more"] (defScope s_law_made) := ⟨rfl, rfl, rfl, by decide +kernel, rfl, by decide +kernel, by decide +kernel⟩
def b_law_made_5b (ns : List Int) : SF := (sRet (eCall (f_spared 8 ns) (aCons (eVar 1) (aCons (eVar 2) aNil))))
def b_law_made_6 (ns : List Int) : SF := (sRet (eCall (f_by_blocks ns) (aCons (eVar 1) (aCons (eVar 2) aNil))))
def b_law_made_5 (ns : List Int) : SF := (sSeq (sIf (tB1 (eBin (opEq ns) (eVar 0) (eC (.int 5)))) (b_law_made_5b ns) sNext) (b_law_made_6 ns))
def b_law_made_4 (ns : List Int) : SF := (sSeq (sIf (tB1 (eBin (opEq ns) (eVar 0) (eC (.int 4)))) (sRet (eCall (f_by_twos ns) (aCons (eVar 1) aNil))) sNext) (b_law_made_5 ns))
def b_law_made_3 (ns : List Int) : SF := (sSeq (sIf (tB1 (eBin (opEq ns) (eVar 0) (eC (.int 3)))) (sRet (eCall (f_by_pairs 8 ns) (aCons (eVar 1) aNil))) sNext) (b_law_made_4 ns))
def b_law_made_2 (ns : List Int) : SF := (sSeq (sIf (tB1 (eBin (opEq ns) (eVar 0) (eC (.int 2)))) (sRet (eCall (f_by_halves 8 ns) (aCons (eVar 1) aNil))) sNext) (b_law_made_3 ns))
def b_law_made_1 (ns : List Int) : SF := (sSeq (sIf (tB1 (eBin (opEq ns) (eVar 0) (eC (.int 1)))) (sRet (eCall (f_by_one 66 ns) (aCons (eVar 1) aNil))) sNext) (b_law_made_2 ns))
def b_law_made (ns : List Int) : SF := (sSeq (sIf (tB1 (eBin (opEq ns) (eVar 0) (eC (.int 0)))) (sRet (eCall (f_by_steps ns) (aCons (eVar 1) aNil))) sNext) (b_law_made_1 ns))
def f_law_made (ns : List Int) : Fn := run 3 3 (b_law_made ns)
theorem ok_law_made {f : Addr} {fd : FuncData} {cdv : Value} (F : FunG K "_law_made" "_law_made" s_law_made f fd cdv) (bd : Binds K fd ["_law_which", "_law_width", "_law_more"] []) (m' : mg "_law_made" = some (.ref f)) (c_by_steps : CallOkX P w K mg base q 4 "by_steps" (f_by_steps q.ns)) (c_by_one : CallOkX P w K mg base q 69 "by_one" (f_by_one 66 q.ns)) (c_by_halves : CallOkX P w K mg base q 11 "by_halves" (f_by_halves 8 q.ns)) (c_by_pairs : CallOkX P w K mg base q 11 "by_pairs" (f_by_pairs 8 q.ns)) (c_by_twos : CallOkX P w K mg base q 4 "by_twos" (f_by_twos q.ns)) (c_spared : CallOkX P w K mg base q 11 "spared" (f_spared 8 q.ns)) (c_by_blocks : CallOkX P w K mg base q 12 "by_blocks" (f_by_blocks q.ns)) : CallOkX P w K mg base q (70) "_law_made" (f_law_made q.ns) :=
  ⟨f, fd, _, m', F.kp, bd, fn_okX (k := 69) (N := ["_law_which", "_law_width", "_law_more"]) (body := b_law_made q.ns) F sc_law_made rfl fun A outer s H E hr => (ess_cons (es_if (et_cmp (o_eq (hu64 hr)) (ee_var (i := 0) rfl (.inl rfl)) ee_int) (ess_one (es_ret (ee_callX ⟨c_by_steps⟩ (hr.mono (by decide)) rfl (ea_cons (ee_var (i := 1) rfl (.inl rfl)) ea_nil)))) ess_nil) (ess_cons (es_if (et_cmp (o_eq (hu64 hr)) (ee_var (i := 0) rfl (.inl rfl)) ee_int) (ess_one (es_ret (ee_callX ⟨c_by_one⟩ (hr.mono (by decide)) rfl (ea_cons (ee_var (i := 1) rfl (.inl rfl)) ea_nil)))) ess_nil) (ess_cons (es_if (et_cmp (o_eq (hu64 hr)) (ee_var (i := 0) rfl (.inl rfl)) ee_int) (ess_one (es_ret (ee_callX ⟨c_by_halves⟩ (hr.mono (by decide)) rfl (ea_cons (ee_var (i := 1) rfl (.inl rfl)) ea_nil)))) ess_nil) (ess_cons (es_if (et_cmp (o_eq (hu64 hr)) (ee_var (i := 0) rfl (.inl rfl)) ee_int) (ess_one (es_ret (ee_callX ⟨c_by_pairs⟩ (hr.mono (by decide)) rfl (ea_cons (ee_var (i := 1) rfl (.inl rfl)) ea_nil)))) ess_nil) (ess_cons (es_if (et_cmp (o_eq (hu64 hr)) (ee_var (i := 0) rfl (.inl rfl)) ee_int) (ess_one (es_ret (ee_callX ⟨c_by_twos⟩ (hr.mono (by decide)) rfl (ea_cons (ee_var (i := 1) rfl (.inl rfl)) ea_nil)))) ess_nil) (ess_cons (es_if (et_cmp (o_eq (hu64 hr)) (ee_var (i := 0) rfl (.inl rfl)) ee_int) (ess_one (es_ret (ee_callX ⟨c_spared⟩ (hr.mono (by decide)) rfl (ea_cons (ee_var (i := 1) rfl (.inl rfl)) (ea_cons (ee_var (i := 2) rfl (.inl rfl)) ea_nil))))) ess_nil) (ess_one (es_ret (ee_callX ⟨c_by_blocks⟩ (hr.mono (by decide)) rfl (ea_cons (ee_var (i := 1) rfl (.inl rfl)) (ea_cons (ee_var (i := 2) rfl (.inl rfl)) ea_nil)))))))))))⟩
abbrev s_law_word : Stmt := top 54
theorem sc_law_word : FnScope ["_law_which", "_law_width", "_law_more", "_law_error"] ["_law_which", "_law_width", "_law_more"] (defScope s_law_word) := ⟨rfl, rfl, rfl, by decide +kernel, rfl, by decide +kernel, by decide +kernel⟩
def b_law_word_1 (ns : List Int) : SF := (sRet (eC (.str "")))
def b_law_word (ns : List Int) : SF := (sSeq (sTryR (f_law_made ns) (aCons (eVar 0) (aCons (eVar 1) (aCons (eVar 2) aNil))) (fun y => decide (y ∈ caught)) 3 (sSeq (sIf (tTru ns (eCall (f_law_is_just ns) (aCons (eVar 3) (aCons (eBi (bIsX (tabOf rows)) (aCons (eVar 3) (aCons (eC (.gl "NoWidth")) aNil))) aNil)))) (sRet (eC (.str "width"))) sNext) (sSeq (sIf (tTru ns (eCall (f_law_is_just ns) (aCons (eVar 3) (aCons (eBi (bIsX (tabOf rows)) (aCons (eVar 3) (aCons (eC (.gl "NoSpare")) aNil))) aNil)))) (sRet (eC (.str "spare"))) sNext) (sSeq (sIf (tTru ns (eCall (f_law_is_just ns) (aCons (eVar 3) (aCons (eBi (bIsX (tabOf rows)) (aCons (eVar 3) (aCons (eC (.gl "NoSize")) aNil))) aNil)))) (sRet (eC (.str "size"))) sNext) (sRet (eC (.str "other"))))))) (b_law_word_1 ns))
def f_law_word (ns : List Int) : Fn := run 3 4 (b_law_word ns)
theorem ok_law_word {f : Addr} {fd : FuncData} (F : Fun K "_law_word" "_law_word" s_law_word f fd) (bd : Binds K fd ["_law_which", "_law_width", "_law_more"] []) (m' : mg "_law_word" = some (.ref f)) (m_isinstance : mg "isinstance" = none) (c__law_is_just : CallOkH P w K mg base q 2 "_law_is_just" (f_law_is_just q.ns)) (c__law_made : CallOkX P w K mg base q 70 "_law_made" (f_law_made q.ns)) {A_NetError : Addr} (m_NetError : mg "NetError" = some (.ref A_NetError)) {A_NoSize : Addr} (m_NoSize : mg "NoSize" = some (.ref A_NoSize)) {A_NoSpare : Addr} (m_NoSpare : mg "NoSpare" = some (.ref A_NoSpare)) {A_NoWidth : Addr} (m_NoWidth : mg "NoWidth" = some (.ref A_NoWidth)) (h_NetError : ∀ y, (fun y => decide (y ∈ caught)) y = true → ∃ C, mg y = some (.ref C) ∧ PySem.W.exmOne K (.ref C) (.ref A_NetError) = some true) (isT : ∀ r ∈ rows, RowOk K mg r) : CallOk P w K mg base q 71 "_law_word" (f_law_word q.ns) :=
  ⟨f, fd, _, m', F.kp, bd, fn_ok (k := 70) (N := ["_law_which", "_law_width", "_law_more", "_law_error"]) (body := b_law_word q.ns) F sc_law_word rfl fun cdv A outer s H E hr => (ess_cons (es_tryB (etb_callR (i := 3) rfl rfl rfl rfl (fun _ => rfl) sc_law_word.nd rfl rfl rfl m_NetError ⟨c__law_made⟩ (hr.mono (by decide)) rfl h_NetError (fun E' => (ea_cons (ee_var (i := 0) rfl (.inl rfl)) (ea_cons (ee_var (i := 1) rfl (.inl rfl)) (ea_cons (ee_var (i := 2) rfl (.inl rfl)) ea_nil)))) (fun ev => (ess_cons (es_if (et_tru (ee_callH ⟨c__law_is_just⟩ ((Room.mk' hr _).mono (by decide)) rfl (ea_cons (ee_var (i := 3) rfl (.inl rfl)) (ea_cons (ee_bi (b_isR isT) rfl m_isinstance bb_isinstance (ea_cons (ee_var (i := 3) rfl (.inl rfl)) (ea_cons (ee_gl rfl m_NoWidth) ea_nil))) ea_nil)))) (ess_one (es_ret ee_str)) ess_nil) (ess_cons (es_if (et_tru (ee_callH ⟨c__law_is_just⟩ ((Room.mk' hr _).mono (by decide)) rfl (ea_cons (ee_var (i := 3) rfl (.inl rfl)) (ea_cons (ee_bi (b_isR isT) rfl m_isinstance bb_isinstance (ea_cons (ee_var (i := 3) rfl (.inl rfl)) (ea_cons (ee_gl rfl m_NoSpare) ea_nil))) ea_nil)))) (ess_one (es_ret ee_str)) ess_nil) (ess_cons (es_if (et_tru (ee_callH ⟨c__law_is_just⟩ ((Room.mk' hr _).mono (by decide)) rfl (ea_cons (ee_var (i := 3) rfl (.inl rfl)) (ea_cons (ee_bi (b_isR isT) rfl m_isinstance bb_isinstance (ea_cons (ee_var (i := 3) rfl (.inl rfl)) (ea_cons (ee_gl rfl m_NoSize) ea_nil))) ea_nil)))) (ess_one (es_ret ee_str)) ess_nil) (ess_one (es_ret ee_str)))))))) (ess_one (es_ret ee_str)))⟩
abbrev s_law_no_widths : Stmt := top 55
theorem sc_law_no_widths : FnScope ["_law_far"] ["_law_far"] (defScope s_law_no_widths) := ⟨rfl, rfl, rfl, by decide +kernel, rfl, by decide +kernel, by decide +kernel⟩
def b_law_no_widths (ns : List Int) : SF := (sRet (eLst (aCons (eC (.int 0)) (aCons (eC (.int 65)) (aCons (eNeg (eC (.int 1))) (aCons (eBin opAdd (eC (.int 65)) (eVar 0)) (aCons (eBin opSub (eNeg (eVar 0)) (eC (.int 1))) (aCons (eC (.bl true)) (aCons (eC (.bl false)) (aCons (eC .non) (aCons (eC (.str "3")) (aCons (eLst (aCons (eC (.int 3)) aNil)) (aCons (eTup (aCons (eC (.int 3)) aNil)) (aCons eDic0 aNil))))))))))))))
def f_law_no_widths (ns : List Int) : Fn := run 1 1 (b_law_no_widths ns)
theorem ok_law_no_widths {f : Addr} {fd : FuncData} (F : Fun K "_law_no_widths" "_law_no_widths" s_law_no_widths f fd) (bd : Binds K fd ["_law_far"] []) (m' : mg "_law_no_widths" = some (.ref f)) : CallOk P w K mg base q 1 "_law_no_widths" (f_law_no_widths q.ns) :=
  ⟨f, fd, _, m', F.kp, bd, fn_ok (k := 0) (N := ["_law_far"]) (body := b_law_no_widths q.ns) F sc_law_no_widths rfl fun cdv A outer s H E hr => (ess_one (es_ret (ee_lst (ea_cons ee_int (ea_cons ee_int (ea_cons (ee_neg ee_int) (ea_cons (ee_bin o_add ee_int (ee_var (i := 0) rfl (.inl rfl))) (ea_cons (ee_bin o_sub (ee_neg (ee_var (i := 0) rfl (.inl rfl))) ee_int) (ea_cons ee_bl (ea_cons ee_bl (ea_cons ee_non (ea_cons ee_str (ea_cons (ee_lst (ea_cons ee_int ea_nil)) (ea_cons (ee_tup (ea_cons ee_int ea_nil)) (ea_cons ee_dic0 ea_nil)))))))))))))))⟩
abbrev s_law_refused : Stmt := top 56
theorem sc_law_refused : FnScope ["_law_which", "_law_width", "_law_far", "_law_bad"] ["_law_which", "_law_width", "_law_far"] (defScope s_law_refused) := ⟨rfl, rfl, rfl, by decide +kernel, rfl, by decide +kernel, by decide +kernel⟩
def b_law_refused_0b (ns : List Int) : SF := (sIf (tOrF (tB1 (eBin (opNe ns) (eCall (f_law_word ns) (aCons (eVar 0) (aCons (eVar 3) (aCons (eC (.int 1)) aNil)))) (eC (.str "width")))) (tB1 (eBin (opNe ns) (eCall (f_law_word ns) (aCons (eVar 0) (aCons (eVar 3) (aCons (eC .non) aNil)))) (eC (.str "width"))))) (sRet (eC (.bl false))) sNext)
def b_law_refused_1b_0b (ns : List Int) : SF := (sIf (tB1 (eBin (opNe ns) (eCall (f_law_word ns) (aCons (eC (.int 5)) (aCons (eVar 1) (aCons (eVar 3) aNil)))) (eC (.str "spare")))) (sRet (eC (.bl false))) sNext)
def b_law_refused_1b (ns : List Int) : SF := (sForL ns (eLst (aCons (eNeg (eC (.int 1))) (aCons (eC (.int 7)) (aCons (eBin opAdd (eC (.int 7)) (eVar 2)) (aCons (eBin opSub (eNeg (eVar 2)) (eC (.int 1))) (aCons (eC (.bl true)) (aCons (eC (.bl false)) (aCons (eC .non) (aCons (eC (.str "1")) (aCons (eLst (aCons (eC (.int 1)) aNil)) (aCons (eTup aNil) (aCons eDic0 aNil)))))))))))) (gN 3) (b_law_refused_1b_0b ns))
def b_law_refused_2b_0b (ns : List Int) : SF := (sIf (tB1 (eBin (opNe ns) (eCall (f_law_word ns) (aCons (eC (.int 6)) (aCons (eVar 1) (aCons (eVar 3) aNil)))) (eC (.str "size")))) (sRet (eC (.bl false))) sNext)
def b_law_refused_2b (ns : List Int) : SF := (sForL ns (eCall (f_law_no_widths ns) (aCons (eVar 2) aNil)) (gN 3) (b_law_refused_2b_0b ns))
def b_law_refused_3 (ns : List Int) : SF := (sRet (eC (.bl true)))
def b_law_refused_2 (ns : List Int) : SF := (sSeq (sIf (tB1 (eBin (opEq ns) (eVar 0) (eC (.int 6)))) (b_law_refused_2b ns) sNext) (b_law_refused_3 ns))
def b_law_refused_1 (ns : List Int) : SF := (sSeq (sIf (tB1 (eBin (opEq ns) (eVar 0) (eC (.int 5)))) (b_law_refused_1b ns) sNext) (b_law_refused_2 ns))
def b_law_refused (ns : List Int) : SF := (sSeq (sForL ns (eCall (f_law_no_widths ns) (aCons (eVar 2) aNil)) (gN 3) (b_law_refused_0b ns)) (b_law_refused_1 ns))
def f_law_refused (ns : List Int) : Fn := run 3 4 (b_law_refused ns)
theorem ok_law_refused {f : Addr} {fd : FuncData} (F : Fun K "_law_refused" "_law_refused" s_law_refused f fd) (bd : Binds K fd ["_law_which", "_law_width", "_law_far"] []) (m' : mg "_law_refused" = some (.ref f)) (c__law_no_widths : CallOk P w K mg base q 1 "_law_no_widths" (f_law_no_widths q.ns)) (c__law_word : CallOk P w K mg base q 71 "_law_word" (f_law_word q.ns)) : CallOk P w K mg base q 72 "_law_refused" (f_law_refused q.ns) :=
  ⟨f, fd, _, m', F.kp, bd, fn_ok (k := 71) (N := ["_law_which", "_law_width", "_law_far", "_law_bad"]) (body := b_law_refused q.ns) F sc_law_refused rfl fun cdv A outer s H E hr => (ess_cons (es_forL PassesOwn.never rfl (ee_call ⟨c__law_no_widths⟩ (hr.mono (by decide)) rfl (ea_cons (ee_var (i := 2) rfl (.inl rfl)) ea_nil)) (eg_name (i := 3) sc_law_refused.nd rfl (.inl rfl)) (ess_one (es_if (et_w (ew_or (et_cmp (o_ne (hu64 hr)) (ee_call ⟨c__law_word⟩ (hr.mono (by decide)) rfl (ea_cons (ee_var (i := 0) rfl (.inl rfl)) (ea_cons (ee_var (i := 3) rfl (.inl rfl)) (ea_cons ee_int ea_nil)))) ee_str) (ew_or1 (et_cmp (o_ne (hu64 hr)) (ee_call ⟨c__law_word⟩ (hr.mono (by decide)) rfl (ea_cons (ee_var (i := 0) rfl (.inl rfl)) (ea_cons (ee_var (i := 3) rfl (.inl rfl)) (ea_cons ee_non ea_nil)))) ee_str)))) (ess_one (es_ret ee_bl)) ess_nil))) (ess_cons (es_if (et_cmp (o_eq (hu64 hr)) (ee_var (i := 0) rfl (.inl rfl)) ee_int) (ess_one (es_forL PassesOwn.never rfl (ee_lst (ea_cons (ee_neg ee_int) (ea_cons ee_int (ea_cons (ee_bin o_add ee_int (ee_var (i := 2) rfl (.inl rfl))) (ea_cons (ee_bin o_sub (ee_neg (ee_var (i := 2) rfl (.inl rfl))) ee_int) (ea_cons ee_bl (ea_cons ee_bl (ea_cons ee_non (ea_cons ee_str (ea_cons (ee_lst (ea_cons ee_int ea_nil)) (ea_cons (ee_tup ea_nil) (ea_cons ee_dic0 ea_nil)))))))))))) (eg_name (i := 3) sc_law_refused.nd rfl (.inl rfl)) (ess_one (es_if (et_cmp (o_ne (hu64 hr)) (ee_call ⟨c__law_word⟩ (hr.mono (by decide)) rfl (ea_cons ee_int (ea_cons (ee_var (i := 1) rfl (.inl rfl)) (ea_cons (ee_var (i := 3) rfl (.inl rfl)) ea_nil)))) ee_str) (ess_one (es_ret ee_bl)) ess_nil)))) ess_nil) (ess_cons (es_if (et_cmp (o_eq (hu64 hr)) (ee_var (i := 0) rfl (.inl rfl)) ee_int) (ess_one (es_forL PassesOwn.never rfl (ee_call ⟨c__law_no_widths⟩ (hr.mono (by decide)) rfl (ea_cons (ee_var (i := 2) rfl (.inl rfl)) ea_nil)) (eg_name (i := 3) sc_law_refused.nd rfl (.inl rfl)) (ess_one (es_if (et_cmp (o_ne (hu64 hr)) (ee_call ⟨c__law_word⟩ (hr.mono (by decide)) rfl (ea_cons ee_int (ea_cons (ee_var (i := 1) rfl (.inl rfl)) (ea_cons (ee_var (i := 3) rfl (.inl rfl)) ea_nil)))) ee_str) (ess_one (es_ret ee_bl)) ess_nil)))) ess_nil) (ess_one (es_ret ee_bl)))))⟩
abbrev s_law_right : Stmt := top 57
theorem sc_law_right : FnScope ["_law_which", "_law_width", "_law_more"] ["_law_which", "_law_width", "_law_more"] (defScope s_law_right) := ⟨rfl, rfl, rfl, by decide +kernel, rfl, by decide +kernel, by decide +kernel⟩
def b_law_right (ns : List Int) : SF := (sRet (eCall (f_law_same 140 ns) (aCons (eCall (f_law_made ns) (aCons (eVar 0) (aCons (eVar 1) (aCons (eVar 2) aNil)))) (aCons (eCall (f_law_rule 66 ns) (aCons (eVar 0) (aCons (eVar 1) (aCons (eVar 2) aNil)))) aNil))))
def f_law_right (ns : List Int) : Fn := run 3 3 (b_law_right ns)
theorem ok_law_right {f : Addr} {fd : FuncData} (F : Fun K "_law_right" "_law_right" s_law_right f fd) (bd : Binds K fd ["_law_which", "_law_width", "_law_more"] []) (m' : mg "_law_right" = some (.ref f)) (c__law_same : CallOk P w K mg base q 141 "_law_same" (f_law_same 140 q.ns)) (c__law_made : CallOkX P w K mg base q 70 "_law_made" (f_law_made q.ns)) (c__law_rule : CallOk P w K mg base q 67 "_law_rule" (f_law_rule 66 q.ns)) : CallOk P w K mg base q 142 "_law_right" (f_law_right q.ns) :=
  ⟨f, fd, _, m', F.kp, bd, fn_ok (k := 141) (N := ["_law_which", "_law_width", "_law_more"]) (body := b_law_right q.ns) F sc_law_right rfl fun cdv A outer s H E hr => (ess_one (es_ret (ee_call ⟨c__law_same⟩ (hr.mono (by decide)) rfl (ea_cons (ee_call ⟨CallOkX.down c__law_made⟩ (hr.mono (by decide)) rfl (ea_cons (ee_var (i := 0) rfl (.inl rfl)) (ea_cons (ee_var (i := 1) rfl (.inl rfl)) (ea_cons (ee_var (i := 2) rfl (.inl rfl)) ea_nil)))) (ea_cons (ee_call ⟨c__law_rule⟩ (hr.mono (by decide)) rfl (ea_cons (ee_var (i := 0) rfl (.inl rfl)) (ea_cons (ee_var (i := 1) rfl (.inl rfl)) (ea_cons (ee_var (i := 2) rfl (.inl rfl)) ea_nil)))) ea_nil)))))⟩
abbrev s_law : Stmt := top 58
theorem sc_law : FnScope ["_law_script", "_law_deck_here", "_law_widths", "_law_far", "_law_width", "_law_which", "_law_spare", "_law_size", "_law_turn"] ["_law_script"] (defScope s_law) := ⟨rfl, rfl, rfl, by decide +kernel, rfl, by decide +kernel, by decide +kernel⟩
theorem blk_law_0 : BlkOk ["_law_script", "_law_deck_here", "_law_widths", "_law_far", "_law_width", "_law_which", "_law_spare", "_law_size", "_law_turn"] (defScope s_law) {
                      kind := PySem.ScopeKind.function,
                      names := [
                        (PySem.Str.ofString ".0", PySem.NameKind.local),
                        (PySem.Str.ofString "_law_turn", PySem.NameKind.local),
                        (PySem.Str.ofString "_law_take", PySem.NameKind.globalImplicit),
                        (PySem.Str.ofString "_law_deck_here", PySem.NameKind.free)],
                      isGenerator := false,
                      isCoroutine := false,
                      more := [] : PySem.Scope } [("_law_turn", 8)] := ⟨rfl, by decide +kernel, by decide +kernel, by decide +kernel, by decide +kernel⟩
def b_law_3b_0b (ns : List Int) : SF := (sIf (tNotF (tTru ns (eCall (f_law_right ns) (aCons (eVar 5) (aCons (eVar 4) (aCons (eC (.int 0)) aNil)))))) (sRet (eC (.bl false))) sNext)
def b_law_3b_1b (ns : List Int) : SF := (sIf (tNotF (tTru ns (eCall (f_law_right ns) (aCons (eC (.int 5)) (aCons (eVar 4) (aCons (eVar 6) aNil)))))) (sRet (eC (.bl false))) sNext)
def b_law_3b_2b (ns : List Int) : SF := (sIf (tNotF (tTru ns (eCall (f_law_right ns) (aCons (eC (.int 6)) (aCons (eVar 4) (aCons (eVar 7) aNil)))))) (sRet (eC (.bl false))) sNext)
def b_law_3b_2 (ns : List Int) : SF := (sForL ns (eLst (aCons (eC (.int 1)) (aCons (eC (.int 2)) (aCons (eC (.int 3)) (aCons (eBin opAdd (eC (.int 1)) (eCall (f_law_take ns) (aCons (eVar 1) (aCons (eC (.int 12)) aNil)))) (aCons (eBin opAdd (eC (.int 1)) (eCall (f_law_take ns) (aCons (eVar 1) (aCons (eC (.int 64)) aNil)))) (aCons (eC (.int 64)) aNil))))))) (gN 7) (b_law_3b_2b ns))
def b_law_3b_1 (ns : List Int) : SF := (sSeq (sFor (iR1 (eC (.int 7))) (gN 6) (b_law_3b_1b ns)) (b_law_3b_2 ns))
def b_law_3b (ns : List Int) : SF := (sSeq (sFor (iR1 (eC (.int 5))) (gN 5) (b_law_3b_0b ns)) (b_law_3b_1 ns))
def b_law_4b (ns : List Int) : SF := (sIf (tNotF (tTru ns (eCall (f_law_refused ns) (aCons (eVar 5) (aCons (eBin (ixD ns) (eVar 2) (eBin opAdd (eC (.int 4)) (eBin opMod (eVar 5) (eC (.int 4))))) (aCons (eVar 3) aNil)))))) (sRet (eC (.bl false))) sNext)
def b_law_5 (ns : List Int) : SF := (sRet (eAnd (eCall (f_law_right ns) (aCons (eC (.int 5)) (aCons (eBin (ixD ns) (eVar 2) (eC (.int 5))) (aCons (eC (.int 2)) aNil)))) (eCall (f_law_right ns) (aCons (eC (.int 1)) (aCons (eC (.int 64)) (aCons (eC (.int 0)) aNil))))))
def b_law_4 (ns : List Int) : SF := (sSeq (sFor (iR1 (eC (.int 7))) (gN 5) (b_law_4b ns)) (b_law_5 ns))
def b_law_3 (ns : List Int) : SF := (sSeq (sForL ns (eVar 2) (gN 4) (b_law_3b ns)) (b_law_4 ns))
def b_law_2 (ns : List Int) : SF := (sSeq (sAsg (eCall (f_law_take ns) (aCons (eVar 1) (aCons (eBin opPow (eC (.int 10)) (eC (.int 15))) aNil))) (gN 3)) (b_law_3 ns))
def b_law_1 (ns : List Int) : SF := (sSeq (sAsg (eBin opAdd (eLst (aCons (eC (.int 1)) (aCons (eC (.int 2)) (aCons (eC (.int 3)) (aCons (eC (.int 64)) aNil))))) (eLc (iK (iR1 (eC (.int 4)))) [8] (tg1 8) tYesF (eBin opAdd (eC (.int 1)) (eCall (f_law_take ns) (aCons (eVar 1) (aCons (eC (.int 64)) aNil)))))) (gN 2)) (b_law_2 ns))
def b_law (ns : List Int) : SF := (sSeq (sAsg (eCall (f_law_deck ns) (aCons (eVar 0) aNil)) (gN 1)) (b_law_1 ns))
def f_law (ns : List Int) : Fn := run 1 9 (b_law ns)
theorem ok_law {f : Addr} {fd : FuncData} (F : Fun K "law" "law" s_law f fd) (bd : Binds K fd ["_law_script"] []) (m' : mg "law" = some (.ref f)) (m_range : mg "range" = none) (c__law_deck : CallOk P w K mg base q 1 "_law_deck" (f_law_deck q.ns)) (c__law_take : CallOk P w K mg base q 3 "_law_take" (f_law_take q.ns)) (c__law_right : CallOk P w K mg base q 142 "_law_right" (f_law_right q.ns)) (c__law_refused : CallOk P w K mg base q 72 "_law_refused" (f_law_refused q.ns)) : FnOk P w K mg base CX0 143 f fd ["_law_script"] (spE ⟨K, mg, q.a0, q.ns, q.tb⟩ W0 (f_law q.ns)) :=
  fn_ok (k := 142) (N := ["_law_script", "_law_deck_here", "_law_widths", "_law_far", "_law_width", "_law_which", "_law_spare", "_law_size", "_law_turn"]) (body := b_law q.ns) F sc_law rfl fun cdv A outer s H E hr => (ess_cons (es_set (i := 1) sc_law.nd rfl (.inr rfl) (ee_call ⟨c__law_deck⟩ (hr.mono (by decide)) rfl (ea_cons (ee_var (i := 0) rfl (.inl rfl)) ea_nil))) (ess_cons (es_set (i := 2) sc_law.nd rfl (.inl rfl) (ee_bin o_add (ee_lst (ea_cons ee_int (ea_cons ee_int (ea_cons ee_int (ea_cons ee_int ea_nil))))) (ee_lc (own := [("_law_turn", 8)]) rfl sc_law.nd (eig_known (ei_range1 rfl m_range ee_int)) blk_law_0 tgok1 (fun _ _ _ _ _ => pg_name (i := 8) sc_law.nd rfl (.inl rfl)) (fun _ _ _ _ _ => ets_nil) (fun _ _ _ _ _ => (ee_bin o_add ee_int (ee_call ⟨c__law_take⟩ (hr.mono (by decide)) rfl (ea_cons (ee_var (i := 1) rfl (.inr (.inl rfl))) (ea_cons ee_int ea_nil)))))))) (ess_cons (es_set (i := 3) sc_law.nd rfl (.inl rfl) (ee_call ⟨c__law_take⟩ (hr.mono (by decide)) rfl (ea_cons (ee_var (i := 1) rfl (.inr (.inl rfl))) (ea_cons (ee_bin o_pow ee_int ee_int) ea_nil)))) (ess_cons (es_forL PassesOwn.never rfl (ee_var (i := 2) rfl (.inl rfl)) (eg_name (i := 4) sc_law.nd rfl (.inl rfl)) (ess_cons (es_for PassesOwn.never rfl (ei_range1 rfl m_range ee_int) (eg_name (i := 5) sc_law.nd rfl (.inl rfl)) (ess_one (es_if (et_not (et_tru (ee_call ⟨c__law_right⟩ (hr.mono (by decide)) rfl (ea_cons (ee_var (i := 5) rfl (.inl rfl)) (ea_cons (ee_var (i := 4) rfl (.inl rfl)) (ea_cons ee_int ea_nil)))))) (ess_one (es_ret ee_bl)) ess_nil))) (ess_cons (es_for PassesOwn.never rfl (ei_range1 rfl m_range ee_int) (eg_name (i := 6) sc_law.nd rfl (.inl rfl)) (ess_one (es_if (et_not (et_tru (ee_call ⟨c__law_right⟩ (hr.mono (by decide)) rfl (ea_cons ee_int (ea_cons (ee_var (i := 4) rfl (.inl rfl)) (ea_cons (ee_var (i := 6) rfl (.inl rfl)) ea_nil)))))) (ess_one (es_ret ee_bl)) ess_nil))) (ess_one (es_forL PassesOwn.never rfl (ee_lst (ea_cons ee_int (ea_cons ee_int (ea_cons ee_int (ea_cons (ee_bin o_add ee_int (ee_call ⟨c__law_take⟩ (hr.mono (by decide)) rfl (ea_cons (ee_var (i := 1) rfl (.inr (.inl rfl))) (ea_cons ee_int ea_nil)))) (ea_cons (ee_bin o_add ee_int (ee_call ⟨c__law_take⟩ (hr.mono (by decide)) rfl (ea_cons (ee_var (i := 1) rfl (.inr (.inl rfl))) (ea_cons ee_int ea_nil)))) (ea_cons ee_int ea_nil))))))) (eg_name (i := 7) sc_law.nd rfl (.inl rfl)) (ess_one (es_if (et_not (et_tru (ee_call ⟨c__law_right⟩ (hr.mono (by decide)) rfl (ea_cons ee_int (ea_cons (ee_var (i := 4) rfl (.inl rfl)) (ea_cons (ee_var (i := 7) rfl (.inl rfl)) ea_nil)))))) (ess_one (es_ret ee_bl)) ess_nil))))))) (ess_cons (es_for PassesOwn.never rfl (ei_range1 rfl m_range ee_int) (eg_name (i := 5) sc_law.nd rfl (.inl rfl)) (ess_one (es_if (et_not (et_tru (ee_call ⟨c__law_refused⟩ (hr.mono (by decide)) rfl (ea_cons (ee_var (i := 5) rfl (.inl rfl)) (ea_cons (ee_ix (ee_var (i := 2) rfl (.inl rfl)) (ee_bin o_add ee_int (ee_bin o_mod (ee_var (i := 5) rfl (.inl rfl)) ee_int))) (ea_cons (ee_var (i := 3) rfl (.inl rfl)) ea_nil)))))) (ess_one (es_ret ee_bl)) ess_nil))) (ess_one (es_ret (ee_and (ee_call ⟨c__law_right⟩ (hr.mono (by decide)) rfl (ea_cons ee_int (ea_cons (ee_ix (ee_var (i := 2) rfl (.inl rfl)) ee_int) (ea_cons ee_int ea_nil)))) (ee_one (ee_call ⟨c__law_right⟩ (hr.mono (by decide)) rfl (ea_cons ee_int (ea_cons ee_int (ea_cons ee_int ea_nil)))))))))))))
end
theorem all_mk {l : PySem.W.OpenLaw} {w : World} {K : PySem.W.Frag} {h : Heap} {mg : Str → Option Value} {fa : Addr} (X : K.In h) (G : h.Ns mainGlobals mg) (hfa : mg "law" = some (.ref fa))
    {A_is_whole : Addr} {od_is_whole an_is_whole : Option Addr} {sl_is_whole : Array (Option Value)} {oc_is_whole kV_is_whole dc_is_whole pm_is_whole cd_is_whole ct_is_whole : Value}
    (a_is_whole : PySem.W.nsIn K mainGlobals "is_whole" = some (some (.ref A_is_whole))) (l_is_whole : K.lookup A_is_whole = some ⟨oc_is_whole, od_is_whole, .func (PySem.W.fnOf "is_whole" "is_whole" (defArgs s_is_whole) (defBody s_is_whole) (defScope s_is_whole) .none kV_is_whole dc_is_whole pm_is_whole an_is_whole cd_is_whole ct_is_whole), sl_is_whole⟩) (d_is_whole : PySem.W.codeIn K cd_is_whole "is_whole" = true) (k_is_whole : PySem.W.keepIn K (.ref A_is_whole) = true)
    {A_is_between : Addr} {od_is_between an_is_between : Option Addr} {sl_is_between : Array (Option Value)} {oc_is_between kV_is_between dc_is_between pm_is_between cd_is_between ct_is_between : Value}
    (a_is_between : PySem.W.nsIn K mainGlobals "is_between" = some (some (.ref A_is_between))) (l_is_between : K.lookup A_is_between = some ⟨oc_is_between, od_is_between, .func (PySem.W.fnOf "is_between" "is_between" (defArgs s_is_between) (defBody s_is_between) (defScope s_is_between) .none kV_is_between dc_is_between pm_is_between an_is_between cd_is_between ct_is_between), sl_is_between⟩) (d_is_between : PySem.W.codeIn K cd_is_between "is_between" = true) (k_is_between : PySem.W.keepIn K (.ref A_is_between) = true)
    {A_look_at_width : Addr} {od_look_at_width an_look_at_width : Option Addr} {sl_look_at_width : Array (Option Value)} {oc_look_at_width kV_look_at_width dc_look_at_width pm_look_at_width cd_look_at_width ct_look_at_width : Value}
    (a_look_at_width : PySem.W.nsIn K mainGlobals "look_at_width" = some (some (.ref A_look_at_width))) (l_look_at_width : K.lookup A_look_at_width = some ⟨oc_look_at_width, od_look_at_width, .func (PySem.W.fnOf "look_at_width" "look_at_width" (defArgs s_look_at_width) (defBody s_look_at_width) (defScope s_look_at_width) .none kV_look_at_width dc_look_at_width pm_look_at_width an_look_at_width cd_look_at_width ct_look_at_width), sl_look_at_width⟩) (d_look_at_width : PySem.W.codeIn K cd_look_at_width "look_at_width" = true) (k_look_at_width : PySem.W.keepIn K (.ref A_look_at_width) = true)
    {A_half_of : Addr} {od_half_of an_half_of : Option Addr} {sl_half_of : Array (Option Value)} {oc_half_of kV_half_of dc_half_of pm_half_of cd_half_of ct_half_of : Value}
    (a_half_of : PySem.W.nsIn K mainGlobals "half_of" = some (some (.ref A_half_of))) (l_half_of : K.lookup A_half_of = some ⟨oc_half_of, od_half_of, .func (PySem.W.fnOf "half_of" "half_of" (defArgs s_half_of) (defBody s_half_of) (defScope s_half_of) .none kV_half_of dc_half_of pm_half_of an_half_of cd_half_of ct_half_of), sl_half_of⟩) (d_half_of : PySem.W.codeIn K cd_half_of "half_of" = true) (k_half_of : PySem.W.keepIn K (.ref A_half_of) = true)
    {A_pairs_of : Addr} {od_pairs_of an_pairs_of : Option Addr} {sl_pairs_of : Array (Option Value)} {oc_pairs_of kV_pairs_of dc_pairs_of pm_pairs_of cd_pairs_of ct_pairs_of : Value}
    (a_pairs_of : PySem.W.nsIn K mainGlobals "pairs_of" = some (some (.ref A_pairs_of))) (l_pairs_of : K.lookup A_pairs_of = some ⟨oc_pairs_of, od_pairs_of, .func (PySem.W.fnOf "pairs_of" "pairs_of" (defArgs s_pairs_of) (defBody s_pairs_of) (defScope s_pairs_of) .none kV_pairs_of dc_pairs_of pm_pairs_of an_pairs_of cd_pairs_of ct_pairs_of), sl_pairs_of⟩) (d_pairs_of : PySem.W.codeIn K cd_pairs_of "pairs_of" = true) (k_pairs_of : PySem.W.keepIn K (.ref A_pairs_of) = true)
    {A_by_steps : Addr} {od_by_steps an_by_steps : Option Addr} {sl_by_steps : Array (Option Value)} {oc_by_steps kV_by_steps dc_by_steps pm_by_steps cd_by_steps ct_by_steps : Value}
    (a_by_steps : PySem.W.nsIn K mainGlobals "by_steps" = some (some (.ref A_by_steps))) (l_by_steps : K.lookup A_by_steps = some ⟨oc_by_steps, od_by_steps, .func (PySem.W.fnOf "by_steps" "by_steps" (defArgs s_by_steps) (defBody s_by_steps) (defScope s_by_steps) .none kV_by_steps dc_by_steps pm_by_steps an_by_steps cd_by_steps ct_by_steps), sl_by_steps⟩) (d_by_steps : PySem.W.codeIn K cd_by_steps "by_steps" = true) (k_by_steps : PySem.W.keepIn K (.ref A_by_steps) = true)
    {A_by_one : Addr} {od_by_one an_by_one : Option Addr} {sl_by_one : Array (Option Value)} {oc_by_one kV_by_one dc_by_one pm_by_one cd_by_one ct_by_one : Value}
    (a_by_one : PySem.W.nsIn K mainGlobals "by_one" = some (some (.ref A_by_one))) (l_by_one : K.lookup A_by_one = some ⟨oc_by_one, od_by_one, .func (PySem.W.fnOf "by_one" "by_one" (defArgs s_by_one) (defBody s_by_one) (defScope s_by_one) .none kV_by_one dc_by_one pm_by_one an_by_one cd_by_one ct_by_one), sl_by_one⟩) (d_by_one : PySem.W.codeIn K cd_by_one "by_one" = true) (k_by_one : PySem.W.keepIn K (.ref A_by_one) = true)
    {A_by_halves : Addr} {od_by_halves an_by_halves : Option Addr} {sl_by_halves : Array (Option Value)} {oc_by_halves kV_by_halves dc_by_halves pm_by_halves cd_by_halves ct_by_halves : Value}
    (a_by_halves : PySem.W.nsIn K mainGlobals "by_halves" = some (some (.ref A_by_halves))) (l_by_halves : K.lookup A_by_halves = some ⟨oc_by_halves, od_by_halves, .func (PySem.W.fnOf "by_halves" "by_halves" (defArgs s_by_halves) (defBody s_by_halves) (defScope s_by_halves) .none kV_by_halves dc_by_halves pm_by_halves an_by_halves cd_by_halves ct_by_halves), sl_by_halves⟩) (d_by_halves : PySem.W.codeIn K cd_by_halves "by_halves" = true) (k_by_halves : PySem.W.keepIn K (.ref A_by_halves) = true)
    {A_by_pairs : Addr} {od_by_pairs an_by_pairs : Option Addr} {sl_by_pairs : Array (Option Value)} {oc_by_pairs kV_by_pairs dc_by_pairs pm_by_pairs cd_by_pairs ct_by_pairs : Value}
    (a_by_pairs : PySem.W.nsIn K mainGlobals "by_pairs" = some (some (.ref A_by_pairs))) (l_by_pairs : K.lookup A_by_pairs = some ⟨oc_by_pairs, od_by_pairs, .func (PySem.W.fnOf "by_pairs" "by_pairs" (defArgs s_by_pairs) (defBody s_by_pairs) (defScope s_by_pairs) .none kV_by_pairs dc_by_pairs pm_by_pairs an_by_pairs cd_by_pairs ct_by_pairs), sl_by_pairs⟩) (d_by_pairs : PySem.W.codeIn K cd_by_pairs "by_pairs" = true) (k_by_pairs : PySem.W.keepIn K (.ref A_by_pairs) = true)
    {A_by_twos : Addr} {od_by_twos an_by_twos : Option Addr} {sl_by_twos : Array (Option Value)} {oc_by_twos kV_by_twos dc_by_twos pm_by_twos cd_by_twos ct_by_twos : Value}
    (a_by_twos : PySem.W.nsIn K mainGlobals "by_twos" = some (some (.ref A_by_twos))) (l_by_twos : K.lookup A_by_twos = some ⟨oc_by_twos, od_by_twos, .func (PySem.W.fnOf "by_twos" "by_twos" (defArgs s_by_twos) (defBody s_by_twos) (defScope s_by_twos) .none kV_by_twos dc_by_twos pm_by_twos an_by_twos cd_by_twos ct_by_twos), sl_by_twos⟩) (d_by_twos : PySem.W.codeIn K cd_by_twos "by_twos" = true) (k_by_twos : PySem.W.keepIn K (.ref A_by_twos) = true)
    {A_spared : Addr} {od_spared an_spared : Option Addr} {sl_spared : Array (Option Value)} {oc_spared kV_spared dc_spared pm_spared cd_spared ct_spared : Value}
    (a_spared : PySem.W.nsIn K mainGlobals "spared" = some (some (.ref A_spared))) (l_spared : K.lookup A_spared = some ⟨oc_spared, od_spared, .func (PySem.W.fnOf "spared" "spared" (defArgs s_spared) (defBody s_spared) (defScope s_spared) .none kV_spared dc_spared pm_spared an_spared cd_spared ct_spared), sl_spared⟩) (d_spared : PySem.W.codeIn K cd_spared "spared" = true) (k_spared : PySem.W.keepIn K (.ref A_spared) = true)
    {A_by_blocks : Addr} {od_by_blocks an_by_blocks : Option Addr} {sl_by_blocks : Array (Option Value)} {oc_by_blocks kV_by_blocks dc_by_blocks pm_by_blocks cd_by_blocks ct_by_blocks : Value}
    (a_by_blocks : PySem.W.nsIn K mainGlobals "by_blocks" = some (some (.ref A_by_blocks))) (l_by_blocks : K.lookup A_by_blocks = some ⟨oc_by_blocks, od_by_blocks, .func (PySem.W.fnOf "by_blocks" "by_blocks" (defArgs s_by_blocks) (defBody s_by_blocks) (defScope s_by_blocks) .none kV_by_blocks dc_by_blocks pm_by_blocks an_by_blocks cd_by_blocks ct_by_blocks), sl_by_blocks⟩) (d_by_blocks : PySem.W.codeIn K cd_by_blocks "by_blocks" = true) (k_by_blocks : PySem.W.keepIn K (.ref A_by_blocks) = true)
    {A_law_cell : Addr} {od_law_cell an_law_cell : Option Addr} {sl_law_cell : Array (Option Value)} {oc_law_cell kV_law_cell dc_law_cell pm_law_cell cd_law_cell ct_law_cell : Value}
    (a_law_cell : PySem.W.nsIn K mainGlobals "_law_cell" = some (some (.ref A_law_cell))) (l_law_cell : K.lookup A_law_cell = some ⟨oc_law_cell, od_law_cell, .func (PySem.W.fnOf "_law_cell" "_law_cell" (defArgs s_law_cell) (defBody s_law_cell) (defScope s_law_cell) .none kV_law_cell dc_law_cell pm_law_cell an_law_cell cd_law_cell ct_law_cell), sl_law_cell⟩) (d_law_cell : PySem.W.codeIn K cd_law_cell "_law_cell" = true) (k_law_cell : PySem.W.keepIn K (.ref A_law_cell) = true)
    {A_law_mixed : Addr} {od_law_mixed an_law_mixed : Option Addr} {sl_law_mixed : Array (Option Value)} {oc_law_mixed kV_law_mixed dc_law_mixed pm_law_mixed cd_law_mixed ct_law_mixed : Value}
    (a_law_mixed : PySem.W.nsIn K mainGlobals "_law_mixed" = some (some (.ref A_law_mixed))) (l_law_mixed : K.lookup A_law_mixed = some ⟨oc_law_mixed, od_law_mixed, .func (PySem.W.fnOf "_law_mixed" "_law_mixed" (defArgs s_law_mixed) (defBody s_law_mixed) (defScope s_law_mixed) .none kV_law_mixed dc_law_mixed pm_law_mixed an_law_mixed cd_law_mixed ct_law_mixed), sl_law_mixed⟩) (d_law_mixed : PySem.W.codeIn K cd_law_mixed "_law_mixed" = true) (k_law_mixed : PySem.W.keepIn K (.ref A_law_mixed) = true)
    {A_law_deck : Addr} {od_law_deck an_law_deck : Option Addr} {sl_law_deck : Array (Option Value)} {oc_law_deck kV_law_deck dc_law_deck pm_law_deck cd_law_deck ct_law_deck : Value}
    (a_law_deck : PySem.W.nsIn K mainGlobals "_law_deck" = some (some (.ref A_law_deck))) (l_law_deck : K.lookup A_law_deck = some ⟨oc_law_deck, od_law_deck, .func (PySem.W.fnOf "_law_deck" "_law_deck" (defArgs s_law_deck) (defBody s_law_deck) (defScope s_law_deck) .none kV_law_deck dc_law_deck pm_law_deck an_law_deck cd_law_deck ct_law_deck), sl_law_deck⟩) (d_law_deck : PySem.W.codeIn K cd_law_deck "_law_deck" = true) (k_law_deck : PySem.W.keepIn K (.ref A_law_deck) = true)
    {A_law_take : Addr} {od_law_take an_law_take : Option Addr} {sl_law_take : Array (Option Value)} {oc_law_take kV_law_take dc_law_take pm_law_take cd_law_take ct_law_take : Value}
    (a_law_take : PySem.W.nsIn K mainGlobals "_law_take" = some (some (.ref A_law_take))) (l_law_take : K.lookup A_law_take = some ⟨oc_law_take, od_law_take, .func (PySem.W.fnOf "_law_take" "_law_take" (defArgs s_law_take) (defBody s_law_take) (defScope s_law_take) .none kV_law_take dc_law_take pm_law_take an_law_take cd_law_take ct_law_take), sl_law_take⟩) (d_law_take : PySem.W.codeIn K cd_law_take "_law_take" = true) (k_law_take : PySem.W.keepIn K (.ref A_law_take) = true)
    {A_law_kinds : Addr} {od_law_kinds an_law_kinds : Option Addr} {sl_law_kinds : Array (Option Value)} {oc_law_kinds kV_law_kinds dc_law_kinds pm_law_kinds cd_law_kinds ct_law_kinds : Value}
    (a_law_kinds : PySem.W.nsIn K mainGlobals "_law_kinds" = some (some (.ref A_law_kinds))) (l_law_kinds : K.lookup A_law_kinds = some ⟨oc_law_kinds, od_law_kinds, .func (PySem.W.fnOf "_law_kinds" "_law_kinds" (defArgs s_law_kinds) (defBody s_law_kinds) (defScope s_law_kinds) .none kV_law_kinds dc_law_kinds pm_law_kinds an_law_kinds cd_law_kinds ct_law_kinds), sl_law_kinds⟩) (d_law_kinds : PySem.W.codeIn K cd_law_kinds "_law_kinds" = true) (k_law_kinds : PySem.W.keepIn K (.ref A_law_kinds) = true)
    {A_law_is_just : Addr} {od_law_is_just an_law_is_just : Option Addr} {sl_law_is_just : Array (Option Value)} {oc_law_is_just kV_law_is_just dc_law_is_just pm_law_is_just cd_law_is_just ct_law_is_just : Value}
    (a_law_is_just : PySem.W.nsIn K mainGlobals "_law_is_just" = some (some (.ref A_law_is_just))) (l_law_is_just : K.lookup A_law_is_just = some ⟨oc_law_is_just, od_law_is_just, .func (PySem.W.fnOf "_law_is_just" "_law_is_just" (defArgs s_law_is_just) (defBody s_law_is_just) (defScope s_law_is_just) .none kV_law_is_just dc_law_is_just pm_law_is_just an_law_is_just cd_law_is_just ct_law_is_just), sl_law_is_just⟩) (d_law_is_just : PySem.W.codeIn K cd_law_is_just "_law_is_just" = true) (k_law_is_just : PySem.W.keepIn K (.ref A_law_is_just) = true)
    {A_law_whole : Addr} {od_law_whole an_law_whole : Option Addr} {sl_law_whole : Array (Option Value)} {oc_law_whole kV_law_whole dc_law_whole pm_law_whole cd_law_whole ct_law_whole : Value}
    (a_law_whole : PySem.W.nsIn K mainGlobals "_law_whole" = some (some (.ref A_law_whole))) (l_law_whole : K.lookup A_law_whole = some ⟨oc_law_whole, od_law_whole, .func (PySem.W.fnOf "_law_whole" "_law_whole" (defArgs s_law_whole) (defBody s_law_whole) (defScope s_law_whole) .none kV_law_whole dc_law_whole pm_law_whole an_law_whole cd_law_whole ct_law_whole), sl_law_whole⟩) (d_law_whole : PySem.W.codeIn K cd_law_whole "_law_whole" = true) (k_law_whole : PySem.W.keepIn K (.ref A_law_whole) = true)
    {A_law_same : Addr} {od_law_same an_law_same : Option Addr} {sl_law_same : Array (Option Value)} {oc_law_same kV_law_same dc_law_same pm_law_same cd_law_same ct_law_same : Value}
    (a_law_same : PySem.W.nsIn K mainGlobals "_law_same" = some (some (.ref A_law_same))) (l_law_same : K.lookup A_law_same = some ⟨oc_law_same, od_law_same, .func (PySem.W.fnOf "_law_same" "_law_same" (defArgs s_law_same) (defBody s_law_same) (defScope s_law_same) .none kV_law_same dc_law_same pm_law_same an_law_same cd_law_same ct_law_same), sl_law_same⟩) (d_law_same : PySem.W.codeIn K cd_law_same "_law_same" = true) (k_law_same : PySem.W.keepIn K (.ref A_law_same) = true)
    {A_law_pairs : Addr} {od_law_pairs an_law_pairs : Option Addr} {sl_law_pairs : Array (Option Value)} {oc_law_pairs kV_law_pairs dc_law_pairs pm_law_pairs cd_law_pairs ct_law_pairs : Value}
    (a_law_pairs : PySem.W.nsIn K mainGlobals "_law_pairs" = some (some (.ref A_law_pairs))) (l_law_pairs : K.lookup A_law_pairs = some ⟨oc_law_pairs, od_law_pairs, .func (PySem.W.fnOf "_law_pairs" "_law_pairs" (defArgs s_law_pairs) (defBody s_law_pairs) (defScope s_law_pairs) .none kV_law_pairs dc_law_pairs pm_law_pairs an_law_pairs cd_law_pairs ct_law_pairs), sl_law_pairs⟩) (d_law_pairs : PySem.W.codeIn K cd_law_pairs "_law_pairs" = true) (k_law_pairs : PySem.W.keepIn K (.ref A_law_pairs) = true)
    {A_law_rule : Addr} {od_law_rule an_law_rule : Option Addr} {sl_law_rule : Array (Option Value)} {oc_law_rule kV_law_rule dc_law_rule pm_law_rule cd_law_rule ct_law_rule : Value}
    (a_law_rule : PySem.W.nsIn K mainGlobals "_law_rule" = some (some (.ref A_law_rule))) (l_law_rule : K.lookup A_law_rule = some ⟨oc_law_rule, od_law_rule, .func (PySem.W.fnOf "_law_rule" "_law_rule" (defArgs s_law_rule) (defBody s_law_rule) (defScope s_law_rule) .none kV_law_rule dc_law_rule pm_law_rule an_law_rule cd_law_rule ct_law_rule), sl_law_rule⟩) (d_law_rule : PySem.W.codeIn K cd_law_rule "_law_rule" = true) (k_law_rule : PySem.W.keepIn K (.ref A_law_rule) = true)
    {A_law_made : Addr} {od_law_made an_law_made : Option Addr} {sl_law_made : Array (Option Value)} {oc_law_made kV_law_made dc_law_made pm_law_made cd_law_made ct_law_made : Value}
    (a_law_made : PySem.W.nsIn K mainGlobals "_law_made" = some (some (.ref A_law_made))) (l_law_made : K.lookup A_law_made = some ⟨oc_law_made, od_law_made, .func (PySem.W.fnOf "_law_made" "_law_made" (defArgs s_law_made) (defBody s_law_made) (defScope s_law_made) .none kV_law_made dc_law_made pm_law_made an_law_made cd_law_made ct_law_made), sl_law_made⟩) (d_law_made : PySem.W.codeIn K cd_law_made "_law_made" = true) (k_law_made : PySem.W.keepIn K (.ref A_law_made) = true)
    {A_law_word : Addr} {od_law_word an_law_word : Option Addr} {sl_law_word : Array (Option Value)} {oc_law_word kV_law_word dc_law_word pm_law_word cd_law_word ct_law_word : Value}
    (a_law_word : PySem.W.nsIn K mainGlobals "_law_word" = some (some (.ref A_law_word))) (l_law_word : K.lookup A_law_word = some ⟨oc_law_word, od_law_word, .func (PySem.W.fnOf "_law_word" "_law_word" (defArgs s_law_word) (defBody s_law_word) (defScope s_law_word) .none kV_law_word dc_law_word pm_law_word an_law_word cd_law_word ct_law_word), sl_law_word⟩) (d_law_word : PySem.W.codeIn K cd_law_word "_law_word" = true) (k_law_word : PySem.W.keepIn K (.ref A_law_word) = true)
    {A_law_no_widths : Addr} {od_law_no_widths an_law_no_widths : Option Addr} {sl_law_no_widths : Array (Option Value)} {oc_law_no_widths kV_law_no_widths dc_law_no_widths pm_law_no_widths cd_law_no_widths ct_law_no_widths : Value}
    (a_law_no_widths : PySem.W.nsIn K mainGlobals "_law_no_widths" = some (some (.ref A_law_no_widths))) (l_law_no_widths : K.lookup A_law_no_widths = some ⟨oc_law_no_widths, od_law_no_widths, .func (PySem.W.fnOf "_law_no_widths" "_law_no_widths" (defArgs s_law_no_widths) (defBody s_law_no_widths) (defScope s_law_no_widths) .none kV_law_no_widths dc_law_no_widths pm_law_no_widths an_law_no_widths cd_law_no_widths ct_law_no_widths), sl_law_no_widths⟩) (d_law_no_widths : PySem.W.codeIn K cd_law_no_widths "_law_no_widths" = true) (k_law_no_widths : PySem.W.keepIn K (.ref A_law_no_widths) = true)
    {A_law_refused : Addr} {od_law_refused an_law_refused : Option Addr} {sl_law_refused : Array (Option Value)} {oc_law_refused kV_law_refused dc_law_refused pm_law_refused cd_law_refused ct_law_refused : Value}
    (a_law_refused : PySem.W.nsIn K mainGlobals "_law_refused" = some (some (.ref A_law_refused))) (l_law_refused : K.lookup A_law_refused = some ⟨oc_law_refused, od_law_refused, .func (PySem.W.fnOf "_law_refused" "_law_refused" (defArgs s_law_refused) (defBody s_law_refused) (defScope s_law_refused) .none kV_law_refused dc_law_refused pm_law_refused an_law_refused cd_law_refused ct_law_refused), sl_law_refused⟩) (d_law_refused : PySem.W.codeIn K cd_law_refused "_law_refused" = true) (k_law_refused : PySem.W.keepIn K (.ref A_law_refused) = true)
    {A_law_right : Addr} {od_law_right an_law_right : Option Addr} {sl_law_right : Array (Option Value)} {oc_law_right kV_law_right dc_law_right pm_law_right cd_law_right ct_law_right : Value}
    (a_law_right : PySem.W.nsIn K mainGlobals "_law_right" = some (some (.ref A_law_right))) (l_law_right : K.lookup A_law_right = some ⟨oc_law_right, od_law_right, .func (PySem.W.fnOf "_law_right" "_law_right" (defArgs s_law_right) (defBody s_law_right) (defScope s_law_right) .none kV_law_right dc_law_right pm_law_right an_law_right cd_law_right ct_law_right), sl_law_right⟩) (d_law_right : PySem.W.codeIn K cd_law_right "_law_right" = true) (k_law_right : PySem.W.keepIn K (.ref A_law_right) = true)
    {A_law : Addr} {od_law an_law : Option Addr} {sl_law : Array (Option Value)} {oc_law kV_law dc_law pm_law cd_law ct_law : Value}
    (a_law : PySem.W.nsIn K mainGlobals "law" = some (some (.ref A_law))) (l_law : K.lookup A_law = some ⟨oc_law, od_law, .func (PySem.W.fnOf "law" "law" (defArgs s_law) (defBody s_law) (defScope s_law) .none kV_law dc_law pm_law an_law cd_law ct_law), sl_law⟩) (d_law : PySem.W.codeIn K cd_law "law" = true) (k_law : PySem.W.keepIn K (.ref A_law) = true)
    (z_ValueError : PySem.W.nsIn K mainGlobals "ValueError" = some none)
    (z_abs : PySem.W.nsIn K mainGlobals "abs" = some none)
    (z_bool : PySem.W.nsIn K mainGlobals "bool" = some none)
    (z_int : PySem.W.nsIn K mainGlobals "int" = some none)
    (z_isinstance : PySem.W.nsIn K mainGlobals "isinstance" = some none)
    (z_len : PySem.W.nsIn K mainGlobals "len" = some none)
    (z_list : PySem.W.nsIn K mainGlobals "list" = some none)
    (z_min : PySem.W.nsIn K mainGlobals "min" = some none)
    (z_range : PySem.W.nsIn K mainGlobals "range" = some none)
    (z_reversed : PySem.W.nsIn K mainGlobals "reversed" = some none)
    (z_str : PySem.W.nsIn K mainGlobals "str" = some none)
    (z_tuple : PySem.W.nsIn K mainGlobals "tuple" = some none)
    (z_zip : PySem.W.nsIn K mainGlobals "zip" = some none)
    {t_MOST_SIZE : Tok} (z_MOST_SIZE : PySem.W.nsIn K mainGlobals "MOST_SIZE" = some (some (.int 64 t_MOST_SIZE)))
    {t_MOST_SPARE : Tok} (z_MOST_SPARE : PySem.W.nsIn K mainGlobals "MOST_SPARE" = some (some (.int 6 t_MOST_SPARE)))
    {t_MOST_WIDE : Tok} (z_MOST_WIDE : PySem.W.nsIn K mainGlobals "MOST_WIDE" = some (some (.int 64 t_MOST_WIDE)))
    {A_ONE : Addr} {od_ONE : Option Addr} {n_ONE : Nat} {sl_ONE : Array (Option Value)} {t_ONE u_ONE : Tok} (z_ONE : PySem.W.nsIn K mainGlobals "ONE" = some (some (.ref A_ONE))) (l_ONE : K.lookup A_ONE = some ⟨.type "tuple", od_ONE, .seq #[.str "steps" t_ONE, .int 1 u_ONE] n_ONE, sl_ONE⟩)
    {A_TWO : Addr} {od_TWO : Option Addr} {n_TWO : Nat} {sl_TWO : Array (Option Value)} {t_TWO u_TWO : Tok} (z_TWO : PySem.W.nsIn K mainGlobals "TWO" = some (some (.ref A_TWO))) (l_TWO : K.lookup A_TWO = some ⟨.type "tuple", od_TWO, .seq #[.str "steps" t_TWO, .int 2 u_TWO] n_TWO, sl_TWO⟩)
    {A_Bracketed : Addr} (a_Bracketed : PySem.W.nsIn K mainGlobals "Bracketed" = some (some (.ref A_Bracketed)))
    {A_NetError : Addr} (a_NetError : PySem.W.nsIn K mainGlobals "NetError" = some (some (.ref A_NetError)))
    {A_NoDepth : Addr} (a_NoDepth : PySem.W.nsIn K mainGlobals "NoDepth" = some (some (.ref A_NoDepth)))
    {A_NoEnds : Addr} (a_NoEnds : PySem.W.nsIn K mainGlobals "NoEnds" = some (some (.ref A_NoEnds)))
    {A_NoHands : Addr} (a_NoHands : PySem.W.nsIn K mainGlobals "NoHands" = some (some (.ref A_NoHands)))
    {A_NoJoining : Addr} (a_NoJoining : PySem.W.nsIn K mainGlobals "NoJoining" = some (some (.ref A_NoJoining)))
    {A_NoName : Addr} (a_NoName : PySem.W.nsIn K mainGlobals "NoName" = some (some (.ref A_NoName)))
    {A_NoNet : Addr} (a_NoNet : PySem.W.nsIn K mainGlobals "NoNet" = some (some (.ref A_NoNet)))
    {A_NoPaper : Addr} (a_NoPaper : PySem.W.nsIn K mainGlobals "NoPaper" = some (some (.ref A_NoPaper)))
    {A_NoPlace : Addr} (a_NoPlace : PySem.W.nsIn K mainGlobals "NoPlace" = some (some (.ref A_NoPlace)))
    {A_NoRounds : Addr} (a_NoRounds : PySem.W.nsIn K mainGlobals "NoRounds" = some (some (.ref A_NoRounds)))
    {A_NoRow : Addr} (a_NoRow : PySem.W.nsIn K mainGlobals "NoRow" = some (some (.ref A_NoRow)))
    {A_NoSize : Addr} (a_NoSize : PySem.W.nsIn K mainGlobals "NoSize" = some (some (.ref A_NoSize)))
    {A_NoSpare : Addr} (a_NoSpare : PySem.W.nsIn K mainGlobals "NoSpare" = some (some (.ref A_NoSpare)))
    {A_NoText : Addr} (a_NoText : PySem.W.nsIn K mainGlobals "NoText" = some (some (.ref A_NoText)))
    {A_NoThing : Addr} (a_NoThing : PySem.W.nsIn K mainGlobals "NoThing" = some (some (.ref A_NoThing)))
    {A_NoThings : Addr} (a_NoThings : PySem.W.nsIn K mainGlobals "NoThings" = some (some (.ref A_NoThings)))
    {A_NoWidth : Addr} (a_NoWidth : PySem.W.nsIn K mainGlobals "NoWidth" = some (some (.ref A_NoWidth)))
    {A_NoWindow : Addr} (a_NoWindow : PySem.W.nsIn K mainGlobals "NoWindow" = some (some (.ref A_NoWindow)))
    {A_NotBeside : Addr} (a_NotBeside : PySem.W.nsIn K mainGlobals "NotBeside" = some (some (.ref A_NotBeside)))
    {A_TooMany : Addr} (a_TooMany : PySem.W.nsIn K mainGlobals "TooMany" = some (some (.ref A_TooMany)))
    {A_TooShallow : Addr} (a_TooShallow : PySem.W.nsIn K mainGlobals "TooShallow" = some (some (.ref A_TooShallow)))
    (x_NoSize : PySem.W.excIn K A_NoSize bmV "ValueError.__new__" = true)
    (x_NoSpare : PySem.W.excIn K A_NoSpare bmV "ValueError.__new__" = true)
    (x_NoWidth : PySem.W.excIn K A_NoWidth bmV "ValueError.__new__" = true)
    (i1_NoWidth : PySem.W.subIn K (.ref A_NoWidth) (.type "BaseException") = some true) (i2_NoWidth : PySem.W.findIn K (.ref A_NoWidth) (Str.ofString "__getattribute__") = some (some (.builtin "BaseException.__getattribute__"))) (i3_NoWidth : PySem.W.findIn K (.ref A_NoWidth) (Str.ofString "__getattr__") = some none) (i4_NoWidth : PySem.W.findIn K (.ref A_NoWidth) (Str.ofString "__class__") = some (some (.builtin "object.__class__")))
    (i5_NoWidth : PySem.W.specialIn K (.builtin "object.__class__") (Str.ofString "__get__") = some (some (.builtin "getset_descriptor.__get__"))) (i6_NoWidth : PySem.W.takesIn K (.builtin "object.__class__") = some true) (i7_NoWidth : PySem.W.subIn K (.ref A_NoWidth) (.type "object") = some true) (i8_NoWidth : (PySem.W.clsIn K A_NoWidth).isSome = true)
    (e_NoWidth_NetError : PySem.W.exmOne K (.ref A_NoWidth) (.ref A_NetError) = some true)
    (r_NoWidth_Bracketed : PySem.W.kitOne K (.ref A_NoWidth) (.ref A_Bracketed) = some false)
    (r_NoWidth_NetError : PySem.W.kitOne K (.ref A_NoWidth) (.ref A_NetError) = some true)
    (r_NoWidth_NoDepth : PySem.W.kitOne K (.ref A_NoWidth) (.ref A_NoDepth) = some false)
    (r_NoWidth_NoEnds : PySem.W.kitOne K (.ref A_NoWidth) (.ref A_NoEnds) = some false)
    (r_NoWidth_NoHands : PySem.W.kitOne K (.ref A_NoWidth) (.ref A_NoHands) = some false)
    (r_NoWidth_NoJoining : PySem.W.kitOne K (.ref A_NoWidth) (.ref A_NoJoining) = some false)
    (r_NoWidth_NoName : PySem.W.kitOne K (.ref A_NoWidth) (.ref A_NoName) = some false)
    (r_NoWidth_NoNet : PySem.W.kitOne K (.ref A_NoWidth) (.ref A_NoNet) = some false)
    (r_NoWidth_NoPaper : PySem.W.kitOne K (.ref A_NoWidth) (.ref A_NoPaper) = some false)
    (r_NoWidth_NoPlace : PySem.W.kitOne K (.ref A_NoWidth) (.ref A_NoPlace) = some false)
    (r_NoWidth_NoRounds : PySem.W.kitOne K (.ref A_NoWidth) (.ref A_NoRounds) = some false)
    (r_NoWidth_NoRow : PySem.W.kitOne K (.ref A_NoWidth) (.ref A_NoRow) = some false)
    (r_NoWidth_NoSize : PySem.W.kitOne K (.ref A_NoWidth) (.ref A_NoSize) = some false)
    (r_NoWidth_NoSpare : PySem.W.kitOne K (.ref A_NoWidth) (.ref A_NoSpare) = some false)
    (r_NoWidth_NoText : PySem.W.kitOne K (.ref A_NoWidth) (.ref A_NoText) = some false)
    (r_NoWidth_NoThing : PySem.W.kitOne K (.ref A_NoWidth) (.ref A_NoThing) = some false)
    (r_NoWidth_NoThings : PySem.W.kitOne K (.ref A_NoWidth) (.ref A_NoThings) = some false)
    (r_NoWidth_NoWidth : PySem.W.kitOne K (.ref A_NoWidth) (.ref A_NoWidth) = some true)
    (r_NoWidth_NoWindow : PySem.W.kitOne K (.ref A_NoWidth) (.ref A_NoWindow) = some false)
    (r_NoWidth_NotBeside : PySem.W.kitOne K (.ref A_NoWidth) (.ref A_NotBeside) = some false)
    (r_NoWidth_TooMany : PySem.W.kitOne K (.ref A_NoWidth) (.ref A_TooMany) = some false)
    (r_NoWidth_TooShallow : PySem.W.kitOne K (.ref A_NoWidth) (.ref A_TooShallow) = some false)
    (r_NoWidth_ValueError : PySem.W.kitOne K (.ref A_NoWidth) (.type "ValueError") = some true)
    (i1_NoSpare : PySem.W.subIn K (.ref A_NoSpare) (.type "BaseException") = some true) (i2_NoSpare : PySem.W.findIn K (.ref A_NoSpare) (Str.ofString "__getattribute__") = some (some (.builtin "BaseException.__getattribute__"))) (i3_NoSpare : PySem.W.findIn K (.ref A_NoSpare) (Str.ofString "__getattr__") = some none) (i4_NoSpare : PySem.W.findIn K (.ref A_NoSpare) (Str.ofString "__class__") = some (some (.builtin "object.__class__")))
    (i5_NoSpare : PySem.W.specialIn K (.builtin "object.__class__") (Str.ofString "__get__") = some (some (.builtin "getset_descriptor.__get__"))) (i6_NoSpare : PySem.W.takesIn K (.builtin "object.__class__") = some true) (i7_NoSpare : PySem.W.subIn K (.ref A_NoSpare) (.type "object") = some true) (i8_NoSpare : (PySem.W.clsIn K A_NoSpare).isSome = true)
    (e_NoSpare_NetError : PySem.W.exmOne K (.ref A_NoSpare) (.ref A_NetError) = some true)
    (r_NoSpare_Bracketed : PySem.W.kitOne K (.ref A_NoSpare) (.ref A_Bracketed) = some false)
    (r_NoSpare_NetError : PySem.W.kitOne K (.ref A_NoSpare) (.ref A_NetError) = some true)
    (r_NoSpare_NoDepth : PySem.W.kitOne K (.ref A_NoSpare) (.ref A_NoDepth) = some false)
    (r_NoSpare_NoEnds : PySem.W.kitOne K (.ref A_NoSpare) (.ref A_NoEnds) = some false)
    (r_NoSpare_NoHands : PySem.W.kitOne K (.ref A_NoSpare) (.ref A_NoHands) = some false)
    (r_NoSpare_NoJoining : PySem.W.kitOne K (.ref A_NoSpare) (.ref A_NoJoining) = some false)
    (r_NoSpare_NoName : PySem.W.kitOne K (.ref A_NoSpare) (.ref A_NoName) = some false)
    (r_NoSpare_NoNet : PySem.W.kitOne K (.ref A_NoSpare) (.ref A_NoNet) = some false)
    (r_NoSpare_NoPaper : PySem.W.kitOne K (.ref A_NoSpare) (.ref A_NoPaper) = some false)
    (r_NoSpare_NoPlace : PySem.W.kitOne K (.ref A_NoSpare) (.ref A_NoPlace) = some false)
    (r_NoSpare_NoRounds : PySem.W.kitOne K (.ref A_NoSpare) (.ref A_NoRounds) = some false)
    (r_NoSpare_NoRow : PySem.W.kitOne K (.ref A_NoSpare) (.ref A_NoRow) = some false)
    (r_NoSpare_NoSize : PySem.W.kitOne K (.ref A_NoSpare) (.ref A_NoSize) = some false)
    (r_NoSpare_NoSpare : PySem.W.kitOne K (.ref A_NoSpare) (.ref A_NoSpare) = some true)
    (r_NoSpare_NoText : PySem.W.kitOne K (.ref A_NoSpare) (.ref A_NoText) = some false)
    (r_NoSpare_NoThing : PySem.W.kitOne K (.ref A_NoSpare) (.ref A_NoThing) = some false)
    (r_NoSpare_NoThings : PySem.W.kitOne K (.ref A_NoSpare) (.ref A_NoThings) = some false)
    (r_NoSpare_NoWidth : PySem.W.kitOne K (.ref A_NoSpare) (.ref A_NoWidth) = some false)
    (r_NoSpare_NoWindow : PySem.W.kitOne K (.ref A_NoSpare) (.ref A_NoWindow) = some false)
    (r_NoSpare_NotBeside : PySem.W.kitOne K (.ref A_NoSpare) (.ref A_NotBeside) = some false)
    (r_NoSpare_TooMany : PySem.W.kitOne K (.ref A_NoSpare) (.ref A_TooMany) = some false)
    (r_NoSpare_TooShallow : PySem.W.kitOne K (.ref A_NoSpare) (.ref A_TooShallow) = some false)
    (r_NoSpare_ValueError : PySem.W.kitOne K (.ref A_NoSpare) (.type "ValueError") = some true)
    (i1_NoSize : PySem.W.subIn K (.ref A_NoSize) (.type "BaseException") = some true) (i2_NoSize : PySem.W.findIn K (.ref A_NoSize) (Str.ofString "__getattribute__") = some (some (.builtin "BaseException.__getattribute__"))) (i3_NoSize : PySem.W.findIn K (.ref A_NoSize) (Str.ofString "__getattr__") = some none) (i4_NoSize : PySem.W.findIn K (.ref A_NoSize) (Str.ofString "__class__") = some (some (.builtin "object.__class__")))
    (i5_NoSize : PySem.W.specialIn K (.builtin "object.__class__") (Str.ofString "__get__") = some (some (.builtin "getset_descriptor.__get__"))) (i6_NoSize : PySem.W.takesIn K (.builtin "object.__class__") = some true) (i7_NoSize : PySem.W.subIn K (.ref A_NoSize) (.type "object") = some true) (i8_NoSize : (PySem.W.clsIn K A_NoSize).isSome = true)
    (e_NoSize_NetError : PySem.W.exmOne K (.ref A_NoSize) (.ref A_NetError) = some true)
    (r_NoSize_Bracketed : PySem.W.kitOne K (.ref A_NoSize) (.ref A_Bracketed) = some false)
    (r_NoSize_NetError : PySem.W.kitOne K (.ref A_NoSize) (.ref A_NetError) = some true)
    (r_NoSize_NoDepth : PySem.W.kitOne K (.ref A_NoSize) (.ref A_NoDepth) = some false)
    (r_NoSize_NoEnds : PySem.W.kitOne K (.ref A_NoSize) (.ref A_NoEnds) = some false)
    (r_NoSize_NoHands : PySem.W.kitOne K (.ref A_NoSize) (.ref A_NoHands) = some false)
    (r_NoSize_NoJoining : PySem.W.kitOne K (.ref A_NoSize) (.ref A_NoJoining) = some false)
    (r_NoSize_NoName : PySem.W.kitOne K (.ref A_NoSize) (.ref A_NoName) = some false)
    (r_NoSize_NoNet : PySem.W.kitOne K (.ref A_NoSize) (.ref A_NoNet) = some false)
    (r_NoSize_NoPaper : PySem.W.kitOne K (.ref A_NoSize) (.ref A_NoPaper) = some false)
    (r_NoSize_NoPlace : PySem.W.kitOne K (.ref A_NoSize) (.ref A_NoPlace) = some false)
    (r_NoSize_NoRounds : PySem.W.kitOne K (.ref A_NoSize) (.ref A_NoRounds) = some false)
    (r_NoSize_NoRow : PySem.W.kitOne K (.ref A_NoSize) (.ref A_NoRow) = some false)
    (r_NoSize_NoSize : PySem.W.kitOne K (.ref A_NoSize) (.ref A_NoSize) = some true)
    (r_NoSize_NoSpare : PySem.W.kitOne K (.ref A_NoSize) (.ref A_NoSpare) = some false)
    (r_NoSize_NoText : PySem.W.kitOne K (.ref A_NoSize) (.ref A_NoText) = some false)
    (r_NoSize_NoThing : PySem.W.kitOne K (.ref A_NoSize) (.ref A_NoThing) = some false)
    (r_NoSize_NoThings : PySem.W.kitOne K (.ref A_NoSize) (.ref A_NoThings) = some false)
    (r_NoSize_NoWidth : PySem.W.kitOne K (.ref A_NoSize) (.ref A_NoWidth) = some false)
    (r_NoSize_NoWindow : PySem.W.kitOne K (.ref A_NoSize) (.ref A_NoWindow) = some false)
    (r_NoSize_NotBeside : PySem.W.kitOne K (.ref A_NoSize) (.ref A_NotBeside) = some false)
    (r_NoSize_TooMany : PySem.W.kitOne K (.ref A_NoSize) (.ref A_TooMany) = some false)
    (r_NoSize_TooShallow : PySem.W.kitOne K (.ref A_NoSize) (.ref A_TooShallow) = some false)
    (r_NoSize_ValueError : PySem.W.kitOne K (.ref A_NoSize) (.type "ValueError") = some true)
    : ∃ (fd : FuncData) (tabs : List (Addr × Addr)), (∀ p ∈ tabs, ∃ y ∈ ([] : List Str), PySem.W.tabIn K y = some p) ∧ (∀ (s : Shared) (u : Value), BindsTo s fd ⟨[u], []⟩ [("_law_script", u)]) ∧
      ∀ (base : Heap) (a : Addr) (ns : List Int), K.In base → base.Ns mainGlobals mg → (∀ q ∈ tabs, PySem.W.CodeHd base q.1 q.2) → BM base mg → FnOk l.prog w K mg base CX0 143 fa fd ["_law_script"] (spE ⟨K, mg, a, ns, fun R => ∃ c, (c, R) ∈ tabs⟩ W0 (f_law ns)) := by
  have e := hfa.symm.trans (PySem.W.mg_of X G a_law)
  cases e
  have F_is_whole := fun_mk (st := s_is_whole) l_is_whole d_is_whole k_is_whole
  have B_is_whole := F_is_whole.binds (ps := ["thing"]) fun _ _ _ _ _ _ us hl => match us, hl with | [_], _ => rfl
  have F_is_between := fun_mk (st := s_is_between) l_is_between d_is_between k_is_between
  have B_is_between := F_is_between.binds (ps := ["thing", "low", "high"]) fun _ _ _ _ _ _ us hl => match us, hl with | [_, _, _], _ => rfl
  have F_look_at_width := fung_mk (st := s_look_at_width) l_look_at_width d_look_at_width k_look_at_width
  have B_look_at_width := F_look_at_width.fun.binds (ps := ["width"]) fun _ _ _ _ _ _ us hl => match us, hl with | [_], _ => rfl
  have F_half_of := fun_mk (st := s_half_of) l_half_of d_half_of k_half_of
  have B_half_of := F_half_of.binds (ps := ["width"]) fun _ _ _ _ _ _ us hl => match us, hl with | [_], _ => rfl
  have F_pairs_of := fun_mk (st := s_pairs_of) l_pairs_of d_pairs_of k_pairs_of
  have B_pairs_of := F_pairs_of.binds (ps := ["width"]) fun _ _ _ _ _ _ us hl => match us, hl with | [_], _ => rfl
  have F_by_steps := fung_mk (st := s_by_steps) l_by_steps d_by_steps k_by_steps
  have B_by_steps := F_by_steps.fun.binds (ps := ["width"]) fun _ _ _ _ _ _ us hl => match us, hl with | [_], _ => rfl
  have F_by_one := fung_mk (st := s_by_one) l_by_one d_by_one k_by_one
  have B_by_one := F_by_one.fun.binds (ps := ["width"]) fun _ _ _ _ _ _ us hl => match us, hl with | [_], _ => rfl
  have F_by_halves := fung_mk (st := s_by_halves) l_by_halves d_by_halves k_by_halves
  have B_by_halves := F_by_halves.fun.binds (ps := ["width"]) fun _ _ _ _ _ _ us hl => match us, hl with | [_], _ => rfl
  have F_by_pairs := fung_mk (st := s_by_pairs) l_by_pairs d_by_pairs k_by_pairs
  have B_by_pairs := F_by_pairs.fun.binds (ps := ["width"]) fun _ _ _ _ _ _ us hl => match us, hl with | [_], _ => rfl
  have F_by_twos := fung_mk (st := s_by_twos) l_by_twos d_by_twos k_by_twos
  have B_by_twos := F_by_twos.fun.binds (ps := ["width"]) fun _ _ _ _ _ _ us hl => match us, hl with | [_], _ => rfl
  have F_spared := fung_mk (st := s_spared) l_spared d_spared k_spared
  have B_spared := F_spared.fun.binds (ps := ["width", "spare"]) fun _ _ _ _ _ _ us hl => match us, hl with | [_, _], _ => rfl
  have F_by_blocks := fung_mk (st := s_by_blocks) l_by_blocks d_by_blocks k_by_blocks
  have B_by_blocks := F_by_blocks.fun.binds (ps := ["width", "size"]) fun _ _ _ _ _ _ us hl => match us, hl with | [_, _], _ => rfl
  have F_law_cell := fun_mk (st := s_law_cell) l_law_cell d_law_cell k_law_cell
  have B_law_cell := F_law_cell.binds (ps := ["_law_script", "_law_k"]) fun _ _ _ _ _ _ us hl => match us, hl with | [_, _], _ => rfl
  have F_law_mixed := fun_mk (st := s_law_mixed) l_law_mixed d_law_mixed k_law_mixed
  have B_law_mixed := F_law_mixed.binds (ps := ["_law_script", "_law_k", "_law_many"]) fun _ _ _ _ _ _ us hl => match us, hl with | [_, _, _], _ => rfl
  have F_law_deck := fun_mk (st := s_law_deck) l_law_deck d_law_deck k_law_deck
  have B_law_deck := F_law_deck.binds (ps := ["_law_script"]) fun _ _ _ _ _ _ us hl => match us, hl with | [_], _ => rfl
  have F_law_take := fun_mk (st := s_law_take) l_law_take d_law_take k_law_take
  have B_law_take := F_law_take.binds (ps := ["_law_deck_here", "_law_many"]) fun _ _ _ _ _ _ us hl => match us, hl with | [_, _], _ => rfl
  have F_law_kinds := fun_mk (st := s_law_kinds) l_law_kinds d_law_kinds k_law_kinds
  have B_law_kinds := F_law_kinds.binds (ps := ["_law_error"]) fun _ _ _ _ _ _ us hl => match us, hl with | [_], _ => rfl
  have F_law_is_just := fun_mk (st := s_law_is_just) l_law_is_just d_law_is_just k_law_is_just
  have B_law_is_just := F_law_is_just.binds (ps := ["_law_error", "_law_meant"]) fun _ _ _ _ _ _ us hl => match us, hl with | [_, _], _ => rfl
  have F_law_whole := fun_mk (st := s_law_whole) l_law_whole d_law_whole k_law_whole
  have B_law_whole := F_law_whole.binds (ps := ["_law_found"]) fun _ _ _ _ _ _ us hl => match us, hl with | [_], _ => rfl
  have F_law_same := fun_mk (st := s_law_same) l_law_same d_law_same k_law_same
  have B_law_same := F_law_same.binds (ps := ["_law_found", "_law_due"]) fun _ _ _ _ _ _ us hl => match us, hl with | [_, _], _ => rfl
  have F_law_pairs := fun_mk (st := s_law_pairs) l_law_pairs d_law_pairs k_law_pairs
  have B_law_pairs := F_law_pairs.binds (ps := ["_law_width"]) fun _ _ _ _ _ _ us hl => match us, hl with | [_], _ => rfl
  have F_law_rule := fun_mk (st := s_law_rule) l_law_rule d_law_rule k_law_rule
  have B_law_rule := F_law_rule.binds (ps := ["_law_which", "_law_width", "_law_more"]) fun _ _ _ _ _ _ us hl => match us, hl with | [_, _, _], _ => rfl
  have F_law_made := fung_mk (st := s_law_made) l_law_made d_law_made k_law_made
  have B_law_made := F_law_made.fun.binds (ps := ["_law_which", "_law_width", "_law_more"]) fun _ _ _ _ _ _ us hl => match us, hl with | [_, _, _], _ => rfl
  have F_law_word := fun_mk (st := s_law_word) l_law_word d_law_word k_law_word
  have B_law_word := F_law_word.binds (ps := ["_law_which", "_law_width", "_law_more"]) fun _ _ _ _ _ _ us hl => match us, hl with | [_, _, _], _ => rfl
  have F_law_no_widths := fun_mk (st := s_law_no_widths) l_law_no_widths d_law_no_widths k_law_no_widths
  have B_law_no_widths := F_law_no_widths.binds (ps := ["_law_far"]) fun _ _ _ _ _ _ us hl => match us, hl with | [_], _ => rfl
  have F_law_refused := fun_mk (st := s_law_refused) l_law_refused d_law_refused k_law_refused
  have B_law_refused := F_law_refused.binds (ps := ["_law_which", "_law_width", "_law_far"]) fun _ _ _ _ _ _ us hl => match us, hl with | [_, _, _], _ => rfl
  have F_law_right := fun_mk (st := s_law_right) l_law_right d_law_right k_law_right
  have B_law_right := F_law_right.binds (ps := ["_law_which", "_law_width", "_law_more"]) fun _ _ _ _ _ _ us hl => match us, hl with | [_, _, _], _ => rfl
  have F_law := fun_mk (st := s_law) l_law d_law k_law
  have B_law := F_law.binds (ps := ["_law_script"]) fun _ _ _ _ _ _ us hl => match us, hl with | [_], _ => rfl
  have m_ValueError := PySem.W.mg_none_of X G z_ValueError
  have m_abs := PySem.W.mg_none_of X G z_abs
  have m_bool := PySem.W.mg_none_of X G z_bool
  have m_int := PySem.W.mg_none_of X G z_int
  have m_isinstance := PySem.W.mg_none_of X G z_isinstance
  have m_len := PySem.W.mg_none_of X G z_len
  have m_list := PySem.W.mg_none_of X G z_list
  have m_min := PySem.W.mg_none_of X G z_min
  have m_range := PySem.W.mg_none_of X G z_range
  have m_reversed := PySem.W.mg_none_of X G z_reversed
  have m_str := PySem.W.mg_none_of X G z_str
  have m_tuple := PySem.W.mg_none_of X G z_tuple
  have m_zip := PySem.W.mg_none_of X G z_zip
  have m_MOST_SIZE := PySem.W.mg_of X G z_MOST_SIZE
  have m_MOST_SPARE := PySem.W.mg_of X G z_MOST_SPARE
  have m_MOST_WIDE := PySem.W.mg_of X G z_MOST_WIDE
  have m_ONE := gtup_si (PySem.W.mg_of X G z_ONE) l_ONE
  have m_TWO := gtup_si (PySem.W.mg_of X G z_TWO) l_TWO
  have m_Bracketed := PySem.W.mg_of X G a_Bracketed
  have m_NetError := PySem.W.mg_of X G a_NetError
  have m_NoDepth := PySem.W.mg_of X G a_NoDepth
  have m_NoEnds := PySem.W.mg_of X G a_NoEnds
  have m_NoHands := PySem.W.mg_of X G a_NoHands
  have m_NoJoining := PySem.W.mg_of X G a_NoJoining
  have m_NoName := PySem.W.mg_of X G a_NoName
  have m_NoNet := PySem.W.mg_of X G a_NoNet
  have m_NoPaper := PySem.W.mg_of X G a_NoPaper
  have m_NoPlace := PySem.W.mg_of X G a_NoPlace
  have m_NoRounds := PySem.W.mg_of X G a_NoRounds
  have m_NoRow := PySem.W.mg_of X G a_NoRow
  have m_NoSize := PySem.W.mg_of X G a_NoSize
  have m_NoSpare := PySem.W.mg_of X G a_NoSpare
  have m_NoText := PySem.W.mg_of X G a_NoText
  have m_NoThing := PySem.W.mg_of X G a_NoThing
  have m_NoThings := PySem.W.mg_of X G a_NoThings
  have m_NoWidth := PySem.W.mg_of X G a_NoWidth
  have m_NoWindow := PySem.W.mg_of X G a_NoWindow
  have m_NotBeside := PySem.W.mg_of X G a_NotBeside
  have m_TooMany := PySem.W.mg_of X G a_TooMany
  have m_TooShallow := PySem.W.mg_of X G a_TooShallow
  have h_NetError : ∀ y, (fun y => decide (y ∈ caught)) y = true → ∃ C, mg y = some (.ref C) ∧ PySem.W.exmOne K (.ref C) (.ref A_NetError) = some true := fun y hy => by
    have hy := of_decide_eq_true hy
    simp only [caught, List.mem_cons, List.not_mem_nil, or_false] at hy
    rcases hy with rfl | rfl | rfl
    · exact ⟨A_NoWidth, m_NoWidth, e_NoWidth_NetError⟩
    · exact ⟨A_NoSpare, m_NoSpare, e_NoSpare_NetError⟩
    · exact ⟨A_NoSize, m_NoSize, e_NoSize_NetError⟩
  have isT : ∀ r ∈ rows, RowOk K mg r := fun r hr => by
    simp only [rows, List.mem_cons, List.not_mem_nil, or_false] at hr
    rcases hr with rfl | rfl | rfl | rfl | rfl | rfl | rfl | rfl | rfl | rfl | rfl | rfl | rfl | rfl | rfl | rfl | rfl | rfl | rfl | rfl | rfl | rfl | rfl | rfl | rfl | rfl | rfl | rfl | rfl | rfl | rfl | rfl | rfl | rfl | rfl | rfl | rfl | rfl | rfl | rfl | rfl | rfl | rfl | rfl | rfl | rfl | rfl | rfl | rfl | rfl | rfl | rfl | rfl | rfl | rfl | rfl | rfl | rfl | rfl | rfl | rfl | rfl | rfl | rfl | rfl | rfl | rfl | rfl | rfl
    · exact ⟨A_NoWidth, m_NoWidth, (is_mk i1_NoWidth i2_NoWidth i3_NoWidth i4_NoWidth i5_NoWidth i6_NoWidth i7_NoWidth i8_NoWidth), A_Bracketed, m_Bracketed, r_NoWidth_Bracketed⟩
    · exact ⟨A_NoWidth, m_NoWidth, (is_mk i1_NoWidth i2_NoWidth i3_NoWidth i4_NoWidth i5_NoWidth i6_NoWidth i7_NoWidth i8_NoWidth), A_NetError, m_NetError, r_NoWidth_NetError⟩
    · exact ⟨A_NoWidth, m_NoWidth, (is_mk i1_NoWidth i2_NoWidth i3_NoWidth i4_NoWidth i5_NoWidth i6_NoWidth i7_NoWidth i8_NoWidth), A_NoDepth, m_NoDepth, r_NoWidth_NoDepth⟩
    · exact ⟨A_NoWidth, m_NoWidth, (is_mk i1_NoWidth i2_NoWidth i3_NoWidth i4_NoWidth i5_NoWidth i6_NoWidth i7_NoWidth i8_NoWidth), A_NoEnds, m_NoEnds, r_NoWidth_NoEnds⟩
    · exact ⟨A_NoWidth, m_NoWidth, (is_mk i1_NoWidth i2_NoWidth i3_NoWidth i4_NoWidth i5_NoWidth i6_NoWidth i7_NoWidth i8_NoWidth), A_NoHands, m_NoHands, r_NoWidth_NoHands⟩
    · exact ⟨A_NoWidth, m_NoWidth, (is_mk i1_NoWidth i2_NoWidth i3_NoWidth i4_NoWidth i5_NoWidth i6_NoWidth i7_NoWidth i8_NoWidth), A_NoJoining, m_NoJoining, r_NoWidth_NoJoining⟩
    · exact ⟨A_NoWidth, m_NoWidth, (is_mk i1_NoWidth i2_NoWidth i3_NoWidth i4_NoWidth i5_NoWidth i6_NoWidth i7_NoWidth i8_NoWidth), A_NoName, m_NoName, r_NoWidth_NoName⟩
    · exact ⟨A_NoWidth, m_NoWidth, (is_mk i1_NoWidth i2_NoWidth i3_NoWidth i4_NoWidth i5_NoWidth i6_NoWidth i7_NoWidth i8_NoWidth), A_NoNet, m_NoNet, r_NoWidth_NoNet⟩
    · exact ⟨A_NoWidth, m_NoWidth, (is_mk i1_NoWidth i2_NoWidth i3_NoWidth i4_NoWidth i5_NoWidth i6_NoWidth i7_NoWidth i8_NoWidth), A_NoPaper, m_NoPaper, r_NoWidth_NoPaper⟩
    · exact ⟨A_NoWidth, m_NoWidth, (is_mk i1_NoWidth i2_NoWidth i3_NoWidth i4_NoWidth i5_NoWidth i6_NoWidth i7_NoWidth i8_NoWidth), A_NoPlace, m_NoPlace, r_NoWidth_NoPlace⟩
    · exact ⟨A_NoWidth, m_NoWidth, (is_mk i1_NoWidth i2_NoWidth i3_NoWidth i4_NoWidth i5_NoWidth i6_NoWidth i7_NoWidth i8_NoWidth), A_NoRounds, m_NoRounds, r_NoWidth_NoRounds⟩
    · exact ⟨A_NoWidth, m_NoWidth, (is_mk i1_NoWidth i2_NoWidth i3_NoWidth i4_NoWidth i5_NoWidth i6_NoWidth i7_NoWidth i8_NoWidth), A_NoRow, m_NoRow, r_NoWidth_NoRow⟩
    · exact ⟨A_NoWidth, m_NoWidth, (is_mk i1_NoWidth i2_NoWidth i3_NoWidth i4_NoWidth i5_NoWidth i6_NoWidth i7_NoWidth i8_NoWidth), A_NoSize, m_NoSize, r_NoWidth_NoSize⟩
    · exact ⟨A_NoWidth, m_NoWidth, (is_mk i1_NoWidth i2_NoWidth i3_NoWidth i4_NoWidth i5_NoWidth i6_NoWidth i7_NoWidth i8_NoWidth), A_NoSpare, m_NoSpare, r_NoWidth_NoSpare⟩
    · exact ⟨A_NoWidth, m_NoWidth, (is_mk i1_NoWidth i2_NoWidth i3_NoWidth i4_NoWidth i5_NoWidth i6_NoWidth i7_NoWidth i8_NoWidth), A_NoText, m_NoText, r_NoWidth_NoText⟩
    · exact ⟨A_NoWidth, m_NoWidth, (is_mk i1_NoWidth i2_NoWidth i3_NoWidth i4_NoWidth i5_NoWidth i6_NoWidth i7_NoWidth i8_NoWidth), A_NoThing, m_NoThing, r_NoWidth_NoThing⟩
    · exact ⟨A_NoWidth, m_NoWidth, (is_mk i1_NoWidth i2_NoWidth i3_NoWidth i4_NoWidth i5_NoWidth i6_NoWidth i7_NoWidth i8_NoWidth), A_NoThings, m_NoThings, r_NoWidth_NoThings⟩
    · exact ⟨A_NoWidth, m_NoWidth, (is_mk i1_NoWidth i2_NoWidth i3_NoWidth i4_NoWidth i5_NoWidth i6_NoWidth i7_NoWidth i8_NoWidth), A_NoWidth, m_NoWidth, r_NoWidth_NoWidth⟩
    · exact ⟨A_NoWidth, m_NoWidth, (is_mk i1_NoWidth i2_NoWidth i3_NoWidth i4_NoWidth i5_NoWidth i6_NoWidth i7_NoWidth i8_NoWidth), A_NoWindow, m_NoWindow, r_NoWidth_NoWindow⟩
    · exact ⟨A_NoWidth, m_NoWidth, (is_mk i1_NoWidth i2_NoWidth i3_NoWidth i4_NoWidth i5_NoWidth i6_NoWidth i7_NoWidth i8_NoWidth), A_NotBeside, m_NotBeside, r_NoWidth_NotBeside⟩
    · exact ⟨A_NoWidth, m_NoWidth, (is_mk i1_NoWidth i2_NoWidth i3_NoWidth i4_NoWidth i5_NoWidth i6_NoWidth i7_NoWidth i8_NoWidth), A_TooMany, m_TooMany, r_NoWidth_TooMany⟩
    · exact ⟨A_NoWidth, m_NoWidth, (is_mk i1_NoWidth i2_NoWidth i3_NoWidth i4_NoWidth i5_NoWidth i6_NoWidth i7_NoWidth i8_NoWidth), A_TooShallow, m_TooShallow, r_NoWidth_TooShallow⟩
    · exact ⟨A_NoWidth, m_NoWidth, (is_mk i1_NoWidth i2_NoWidth i3_NoWidth i4_NoWidth i5_NoWidth i6_NoWidth i7_NoWidth i8_NoWidth), r_NoWidth_ValueError⟩
    · exact ⟨A_NoSpare, m_NoSpare, (is_mk i1_NoSpare i2_NoSpare i3_NoSpare i4_NoSpare i5_NoSpare i6_NoSpare i7_NoSpare i8_NoSpare), A_Bracketed, m_Bracketed, r_NoSpare_Bracketed⟩
    · exact ⟨A_NoSpare, m_NoSpare, (is_mk i1_NoSpare i2_NoSpare i3_NoSpare i4_NoSpare i5_NoSpare i6_NoSpare i7_NoSpare i8_NoSpare), A_NetError, m_NetError, r_NoSpare_NetError⟩
    · exact ⟨A_NoSpare, m_NoSpare, (is_mk i1_NoSpare i2_NoSpare i3_NoSpare i4_NoSpare i5_NoSpare i6_NoSpare i7_NoSpare i8_NoSpare), A_NoDepth, m_NoDepth, r_NoSpare_NoDepth⟩
    · exact ⟨A_NoSpare, m_NoSpare, (is_mk i1_NoSpare i2_NoSpare i3_NoSpare i4_NoSpare i5_NoSpare i6_NoSpare i7_NoSpare i8_NoSpare), A_NoEnds, m_NoEnds, r_NoSpare_NoEnds⟩
    · exact ⟨A_NoSpare, m_NoSpare, (is_mk i1_NoSpare i2_NoSpare i3_NoSpare i4_NoSpare i5_NoSpare i6_NoSpare i7_NoSpare i8_NoSpare), A_NoHands, m_NoHands, r_NoSpare_NoHands⟩
    · exact ⟨A_NoSpare, m_NoSpare, (is_mk i1_NoSpare i2_NoSpare i3_NoSpare i4_NoSpare i5_NoSpare i6_NoSpare i7_NoSpare i8_NoSpare), A_NoJoining, m_NoJoining, r_NoSpare_NoJoining⟩
    · exact ⟨A_NoSpare, m_NoSpare, (is_mk i1_NoSpare i2_NoSpare i3_NoSpare i4_NoSpare i5_NoSpare i6_NoSpare i7_NoSpare i8_NoSpare), A_NoName, m_NoName, r_NoSpare_NoName⟩
    · exact ⟨A_NoSpare, m_NoSpare, (is_mk i1_NoSpare i2_NoSpare i3_NoSpare i4_NoSpare i5_NoSpare i6_NoSpare i7_NoSpare i8_NoSpare), A_NoNet, m_NoNet, r_NoSpare_NoNet⟩
    · exact ⟨A_NoSpare, m_NoSpare, (is_mk i1_NoSpare i2_NoSpare i3_NoSpare i4_NoSpare i5_NoSpare i6_NoSpare i7_NoSpare i8_NoSpare), A_NoPaper, m_NoPaper, r_NoSpare_NoPaper⟩
    · exact ⟨A_NoSpare, m_NoSpare, (is_mk i1_NoSpare i2_NoSpare i3_NoSpare i4_NoSpare i5_NoSpare i6_NoSpare i7_NoSpare i8_NoSpare), A_NoPlace, m_NoPlace, r_NoSpare_NoPlace⟩
    · exact ⟨A_NoSpare, m_NoSpare, (is_mk i1_NoSpare i2_NoSpare i3_NoSpare i4_NoSpare i5_NoSpare i6_NoSpare i7_NoSpare i8_NoSpare), A_NoRounds, m_NoRounds, r_NoSpare_NoRounds⟩
    · exact ⟨A_NoSpare, m_NoSpare, (is_mk i1_NoSpare i2_NoSpare i3_NoSpare i4_NoSpare i5_NoSpare i6_NoSpare i7_NoSpare i8_NoSpare), A_NoRow, m_NoRow, r_NoSpare_NoRow⟩
    · exact ⟨A_NoSpare, m_NoSpare, (is_mk i1_NoSpare i2_NoSpare i3_NoSpare i4_NoSpare i5_NoSpare i6_NoSpare i7_NoSpare i8_NoSpare), A_NoSize, m_NoSize, r_NoSpare_NoSize⟩
    · exact ⟨A_NoSpare, m_NoSpare, (is_mk i1_NoSpare i2_NoSpare i3_NoSpare i4_NoSpare i5_NoSpare i6_NoSpare i7_NoSpare i8_NoSpare), A_NoSpare, m_NoSpare, r_NoSpare_NoSpare⟩
    · exact ⟨A_NoSpare, m_NoSpare, (is_mk i1_NoSpare i2_NoSpare i3_NoSpare i4_NoSpare i5_NoSpare i6_NoSpare i7_NoSpare i8_NoSpare), A_NoText, m_NoText, r_NoSpare_NoText⟩
    · exact ⟨A_NoSpare, m_NoSpare, (is_mk i1_NoSpare i2_NoSpare i3_NoSpare i4_NoSpare i5_NoSpare i6_NoSpare i7_NoSpare i8_NoSpare), A_NoThing, m_NoThing, r_NoSpare_NoThing⟩
    · exact ⟨A_NoSpare, m_NoSpare, (is_mk i1_NoSpare i2_NoSpare i3_NoSpare i4_NoSpare i5_NoSpare i6_NoSpare i7_NoSpare i8_NoSpare), A_NoThings, m_NoThings, r_NoSpare_NoThings⟩
    · exact ⟨A_NoSpare, m_NoSpare, (is_mk i1_NoSpare i2_NoSpare i3_NoSpare i4_NoSpare i5_NoSpare i6_NoSpare i7_NoSpare i8_NoSpare), A_NoWidth, m_NoWidth, r_NoSpare_NoWidth⟩
    · exact ⟨A_NoSpare, m_NoSpare, (is_mk i1_NoSpare i2_NoSpare i3_NoSpare i4_NoSpare i5_NoSpare i6_NoSpare i7_NoSpare i8_NoSpare), A_NoWindow, m_NoWindow, r_NoSpare_NoWindow⟩
    · exact ⟨A_NoSpare, m_NoSpare, (is_mk i1_NoSpare i2_NoSpare i3_NoSpare i4_NoSpare i5_NoSpare i6_NoSpare i7_NoSpare i8_NoSpare), A_NotBeside, m_NotBeside, r_NoSpare_NotBeside⟩
    · exact ⟨A_NoSpare, m_NoSpare, (is_mk i1_NoSpare i2_NoSpare i3_NoSpare i4_NoSpare i5_NoSpare i6_NoSpare i7_NoSpare i8_NoSpare), A_TooMany, m_TooMany, r_NoSpare_TooMany⟩
    · exact ⟨A_NoSpare, m_NoSpare, (is_mk i1_NoSpare i2_NoSpare i3_NoSpare i4_NoSpare i5_NoSpare i6_NoSpare i7_NoSpare i8_NoSpare), A_TooShallow, m_TooShallow, r_NoSpare_TooShallow⟩
    · exact ⟨A_NoSpare, m_NoSpare, (is_mk i1_NoSpare i2_NoSpare i3_NoSpare i4_NoSpare i5_NoSpare i6_NoSpare i7_NoSpare i8_NoSpare), r_NoSpare_ValueError⟩
    · exact ⟨A_NoSize, m_NoSize, (is_mk i1_NoSize i2_NoSize i3_NoSize i4_NoSize i5_NoSize i6_NoSize i7_NoSize i8_NoSize), A_Bracketed, m_Bracketed, r_NoSize_Bracketed⟩
    · exact ⟨A_NoSize, m_NoSize, (is_mk i1_NoSize i2_NoSize i3_NoSize i4_NoSize i5_NoSize i6_NoSize i7_NoSize i8_NoSize), A_NetError, m_NetError, r_NoSize_NetError⟩
    · exact ⟨A_NoSize, m_NoSize, (is_mk i1_NoSize i2_NoSize i3_NoSize i4_NoSize i5_NoSize i6_NoSize i7_NoSize i8_NoSize), A_NoDepth, m_NoDepth, r_NoSize_NoDepth⟩
    · exact ⟨A_NoSize, m_NoSize, (is_mk i1_NoSize i2_NoSize i3_NoSize i4_NoSize i5_NoSize i6_NoSize i7_NoSize i8_NoSize), A_NoEnds, m_NoEnds, r_NoSize_NoEnds⟩
    · exact ⟨A_NoSize, m_NoSize, (is_mk i1_NoSize i2_NoSize i3_NoSize i4_NoSize i5_NoSize i6_NoSize i7_NoSize i8_NoSize), A_NoHands, m_NoHands, r_NoSize_NoHands⟩
    · exact ⟨A_NoSize, m_NoSize, (is_mk i1_NoSize i2_NoSize i3_NoSize i4_NoSize i5_NoSize i6_NoSize i7_NoSize i8_NoSize), A_NoJoining, m_NoJoining, r_NoSize_NoJoining⟩
    · exact ⟨A_NoSize, m_NoSize, (is_mk i1_NoSize i2_NoSize i3_NoSize i4_NoSize i5_NoSize i6_NoSize i7_NoSize i8_NoSize), A_NoName, m_NoName, r_NoSize_NoName⟩
    · exact ⟨A_NoSize, m_NoSize, (is_mk i1_NoSize i2_NoSize i3_NoSize i4_NoSize i5_NoSize i6_NoSize i7_NoSize i8_NoSize), A_NoNet, m_NoNet, r_NoSize_NoNet⟩
    · exact ⟨A_NoSize, m_NoSize, (is_mk i1_NoSize i2_NoSize i3_NoSize i4_NoSize i5_NoSize i6_NoSize i7_NoSize i8_NoSize), A_NoPaper, m_NoPaper, r_NoSize_NoPaper⟩
    · exact ⟨A_NoSize, m_NoSize, (is_mk i1_NoSize i2_NoSize i3_NoSize i4_NoSize i5_NoSize i6_NoSize i7_NoSize i8_NoSize), A_NoPlace, m_NoPlace, r_NoSize_NoPlace⟩
    · exact ⟨A_NoSize, m_NoSize, (is_mk i1_NoSize i2_NoSize i3_NoSize i4_NoSize i5_NoSize i6_NoSize i7_NoSize i8_NoSize), A_NoRounds, m_NoRounds, r_NoSize_NoRounds⟩
    · exact ⟨A_NoSize, m_NoSize, (is_mk i1_NoSize i2_NoSize i3_NoSize i4_NoSize i5_NoSize i6_NoSize i7_NoSize i8_NoSize), A_NoRow, m_NoRow, r_NoSize_NoRow⟩
    · exact ⟨A_NoSize, m_NoSize, (is_mk i1_NoSize i2_NoSize i3_NoSize i4_NoSize i5_NoSize i6_NoSize i7_NoSize i8_NoSize), A_NoSize, m_NoSize, r_NoSize_NoSize⟩
    · exact ⟨A_NoSize, m_NoSize, (is_mk i1_NoSize i2_NoSize i3_NoSize i4_NoSize i5_NoSize i6_NoSize i7_NoSize i8_NoSize), A_NoSpare, m_NoSpare, r_NoSize_NoSpare⟩
    · exact ⟨A_NoSize, m_NoSize, (is_mk i1_NoSize i2_NoSize i3_NoSize i4_NoSize i5_NoSize i6_NoSize i7_NoSize i8_NoSize), A_NoText, m_NoText, r_NoSize_NoText⟩
    · exact ⟨A_NoSize, m_NoSize, (is_mk i1_NoSize i2_NoSize i3_NoSize i4_NoSize i5_NoSize i6_NoSize i7_NoSize i8_NoSize), A_NoThing, m_NoThing, r_NoSize_NoThing⟩
    · exact ⟨A_NoSize, m_NoSize, (is_mk i1_NoSize i2_NoSize i3_NoSize i4_NoSize i5_NoSize i6_NoSize i7_NoSize i8_NoSize), A_NoThings, m_NoThings, r_NoSize_NoThings⟩
    · exact ⟨A_NoSize, m_NoSize, (is_mk i1_NoSize i2_NoSize i3_NoSize i4_NoSize i5_NoSize i6_NoSize i7_NoSize i8_NoSize), A_NoWidth, m_NoWidth, r_NoSize_NoWidth⟩
    · exact ⟨A_NoSize, m_NoSize, (is_mk i1_NoSize i2_NoSize i3_NoSize i4_NoSize i5_NoSize i6_NoSize i7_NoSize i8_NoSize), A_NoWindow, m_NoWindow, r_NoSize_NoWindow⟩
    · exact ⟨A_NoSize, m_NoSize, (is_mk i1_NoSize i2_NoSize i3_NoSize i4_NoSize i5_NoSize i6_NoSize i7_NoSize i8_NoSize), A_NotBeside, m_NotBeside, r_NoSize_NotBeside⟩
    · exact ⟨A_NoSize, m_NoSize, (is_mk i1_NoSize i2_NoSize i3_NoSize i4_NoSize i5_NoSize i6_NoSize i7_NoSize i8_NoSize), A_TooMany, m_TooMany, r_NoSize_TooMany⟩
    · exact ⟨A_NoSize, m_NoSize, (is_mk i1_NoSize i2_NoSize i3_NoSize i4_NoSize i5_NoSize i6_NoSize i7_NoSize i8_NoSize), A_TooShallow, m_TooShallow, r_NoSize_TooShallow⟩
    · exact ⟨A_NoSize, m_NoSize, (is_mk i1_NoSize i2_NoSize i3_NoSize i4_NoSize i5_NoSize i6_NoSize i7_NoSize i8_NoSize), r_NoSize_ValueError⟩
  refine ⟨PySem.W.fnOf "law" "law" (defArgs s_law) (defBody s_law) (defScope s_law) .none kV_law dc_law pm_law an_law cd_law ct_law, [], ?_, fun s v => .of_eq rfl, fun base a ns kb nb hcd bm => ?_⟩
  · intro p hp; cases hp
  · let q : Q0 := ⟨a, ns, fun R => ∃ c, (c, R) ∈ ([] : List (Addr × Addr))⟩
    have C_is_whole := ok_is_whole (P := l.prog) (w := w) (base := base) (q := q) F_is_whole B_is_whole (PySem.W.mg_of X G a_is_whole) m_bool m_int m_isinstance
    have C_is_between := ok_is_between (P := l.prog) (w := w) (base := base) (q := q) F_is_between B_is_between (PySem.W.mg_of X G a_is_between) C_is_whole
    have C_look_at_width := ok_look_at_width (P := l.prog) (w := w) (base := base) (q := q) F_look_at_width B_look_at_width (PySem.W.mg_of X G a_look_at_width) m_MOST_WIDE C_is_between a_NoWidth x_NoWidth
    have C_half_of := ok_half_of (P := l.prog) (w := w) (base := base) (q := q) F_half_of B_half_of (PySem.W.mg_of X G a_half_of) 
    have C_pairs_of := ok_pairs_of (P := l.prog) (w := w) (base := base) (q := q) F_pairs_of B_pairs_of (PySem.W.mg_of X G a_pairs_of) m_ONE m_TWO
    have C_by_steps := ok_by_steps (P := l.prog) (w := w) (base := base) (q := q) F_by_steps B_by_steps (PySem.W.mg_of X G a_by_steps) C_look_at_width
    have R_by_one : ∀ n, CallOkX l.prog w K mg base q (3 + 1 * n) "by_one" (f_by_one n q.ns) := by
      intro n
      induction n with
      | zero => exact bad_okX (PySem.W.mg_of X G a_by_one) F_by_one.kp B_by_one
      | succ n ih =>
        have C_by_one := ih
        have h := ok_by_one (P := l.prog) (w := w) (base := base) (q := q) F_by_one B_by_one (PySem.W.mg_of X G a_by_one) m_ONE m_TWO C_look_at_width C_by_one (by omega)
        rw [show 3 + 1 * (n + 1) = 3 + 1 * n + 1 from by omega]
        exact h
    have C_by_one : CallOkX l.prog w K mg base q 69 "by_one" (f_by_one 66 q.ns) := R_by_one 66
    have R_by_halves : ∀ n, CallOkX l.prog w K mg base q (3 + 1 * n) "by_halves" (f_by_halves n q.ns) := by
      intro n
      induction n with
      | zero => exact bad_okX (PySem.W.mg_of X G a_by_halves) F_by_halves.kp B_by_halves
      | succ n ih =>
        have C_by_halves := ih
        have h := ok_by_halves (P := l.prog) (w := w) (base := base) (q := q) F_by_halves B_by_halves (PySem.W.mg_of X G a_by_halves) m_TWO C_look_at_width C_half_of C_by_halves (by omega)
        rw [show 3 + 1 * (n + 1) = 3 + 1 * n + 1 from by omega]
        exact h
    have C_by_halves : CallOkX l.prog w K mg base q 11 "by_halves" (f_by_halves 8 q.ns) := R_by_halves 8
    have R_by_pairs : ∀ n, CallOkX l.prog w K mg base q (3 + 1 * n) "by_pairs" (f_by_pairs n q.ns) := by
      intro n
      induction n with
      | zero => exact bad_okX (PySem.W.mg_of X G a_by_pairs) F_by_pairs.kp B_by_pairs
      | succ n ih =>
        have C_by_pairs := ih
        have h := ok_by_pairs (P := l.prog) (w := w) (base := base) (q := q) F_by_pairs B_by_pairs (PySem.W.mg_of X G a_by_pairs) C_look_at_width C_by_pairs C_half_of C_pairs_of (by omega)
        rw [show 3 + 1 * (n + 1) = 3 + 1 * n + 1 from by omega]
        exact h
    have C_by_pairs : CallOkX l.prog w K mg base q 11 "by_pairs" (f_by_pairs 8 q.ns) := R_by_pairs 8
    have C_by_twos := ok_by_twos (P := l.prog) (w := w) (base := base) (q := q) F_by_twos B_by_twos (PySem.W.mg_of X G a_by_twos) C_look_at_width C_half_of C_pairs_of
    have R_spared : ∀ n, CallOkX l.prog w K mg base q (3 + 1 * n) "spared" (f_spared n q.ns) := by
      intro n
      induction n with
      | zero => exact bad_okX (PySem.W.mg_of X G a_spared) F_spared.kp B_spared
      | succ n ih =>
        have C_spared := ih
        have h := ok_spared (P := l.prog) (w := w) (base := base) (q := q) F_spared B_spared (PySem.W.mg_of X G a_spared) m_MOST_SPARE m_TWO C_look_at_width C_is_between C_half_of C_spared C_pairs_of a_NoSpare x_NoSpare (by omega)
        rw [show 3 + 1 * (n + 1) = 3 + 1 * n + 1 from by omega]
        exact h
    have C_spared : CallOkX l.prog w K mg base q 11 "spared" (f_spared 8 q.ns) := R_spared 8
    have C_by_blocks := ok_by_blocks (P := l.prog) (w := w) (base := base) (q := q) F_by_blocks B_by_blocks (PySem.W.mg_of X G a_by_blocks) m_len m_MOST_SIZE C_look_at_width C_is_between C_by_halves a_NoSize x_NoSize
    have C_law_cell := ok_law_cell (P := l.prog) (w := w) (base := base) (q := q) F_law_cell B_law_cell (PySem.W.mg_of X G a_law_cell) m_abs m_len
    have C_law_mixed := ok_law_mixed (P := l.prog) (w := w) (base := base) (q := q) F_law_mixed B_law_mixed (PySem.W.mg_of X G a_law_mixed) C_law_cell
    have C_law_deck := ok_law_deck (P := l.prog) (w := w) (base := base) (q := q) F_law_deck B_law_deck (PySem.W.mg_of X G a_law_deck) m_abs m_list m_reversed
    have C_law_take := ok_law_take (P := l.prog) (w := w) (base := base) (q := q) F_law_take B_law_take (PySem.W.mg_of X G a_law_take) C_law_mixed
    have C_law_kinds := ok_law_kinds (P := l.prog) (w := w) (base := base) (q := q) F_law_kinds B_law_kinds (PySem.W.mg_of X G a_law_kinds) m_isinstance m_Bracketed m_NoDepth m_NoEnds m_NoHands m_NoJoining m_NoName m_NoNet m_NoPaper m_NoPlace m_NoRounds m_NoRow m_NoSize m_NoSpare m_NoText m_NoThing m_NoThings m_NoWidth m_NoWindow m_NotBeside m_TooMany m_TooShallow isT
    have C_law_is_just := ok_law_is_just (P := l.prog) (w := w) (base := base) (q := q) F_law_is_just B_law_is_just (PySem.W.mg_of X G a_law_is_just) m_ValueError m_isinstance C_law_kinds m_NetError isT
    have C_law_whole := ok_law_whole (P := l.prog) (w := w) (base := base) (q := q) F_law_whole B_law_whole (PySem.W.mg_of X G a_law_whole) m_bool m_int m_isinstance
    have R_law_same : ∀ n, CallOk l.prog w K mg base q (1 + 1 * n) "_law_same" (f_law_same n q.ns) := by
      intro n
      induction n with
      | zero => exact bad_ok (PySem.W.mg_of X G a_law_same) F_law_same.kp B_law_same
      | succ n ih =>
        have C_law_same := ih
        have h := ok_law_same (P := l.prog) (w := w) (base := base) (q := q) F_law_same B_law_same (PySem.W.mg_of X G a_law_same) m_isinstance m_len m_str m_tuple m_zip C_law_same C_law_whole (by omega)
        rw [show 1 + 1 * (n + 1) = 1 + 1 * n + 1 from by omega]
        exact h
    have C_law_same : CallOk l.prog w K mg base q 141 "_law_same" (f_law_same 140 q.ns) := R_law_same 140
    have C_law_pairs := ok_law_pairs (P := l.prog) (w := w) (base := base) (q := q) F_law_pairs B_law_pairs (PySem.W.mg_of X G a_law_pairs) m_tuple
    have R_law_rule : ∀ n, CallOk l.prog w K mg base q (1 + 1 * n) "_law_rule" (f_law_rule n q.ns) := by
      intro n
      induction n with
      | zero => exact bad_ok (PySem.W.mg_of X G a_law_rule) F_law_rule.kp B_law_rule
      | succ n ih =>
        have C_law_rule := ih
        have h := ok_law_rule (P := l.prog) (w := w) (base := base) (q := q) F_law_rule B_law_rule (PySem.W.mg_of X G a_law_rule) m_len m_min m_range m_tuple C_law_rule C_law_pairs (by omega)
        rw [show 1 + 1 * (n + 1) = 1 + 1 * n + 1 from by omega]
        exact h
    have C_law_rule : CallOk l.prog w K mg base q 67 "_law_rule" (f_law_rule 66 q.ns) := R_law_rule 66
    have C_law_made := ok_law_made (P := l.prog) (w := w) (base := base) (q := q) F_law_made B_law_made (PySem.W.mg_of X G a_law_made) C_by_steps C_by_one C_by_halves C_by_pairs C_by_twos C_spared C_by_blocks
    have C_law_word := ok_law_word (P := l.prog) (w := w) (base := base) (q := q) F_law_word B_law_word (PySem.W.mg_of X G a_law_word) m_isinstance C_law_is_just C_law_made m_NetError m_NoSize m_NoSpare m_NoWidth h_NetError isT
    have C_law_no_widths := ok_law_no_widths (P := l.prog) (w := w) (base := base) (q := q) F_law_no_widths B_law_no_widths (PySem.W.mg_of X G a_law_no_widths) 
    have C_law_refused := ok_law_refused (P := l.prog) (w := w) (base := base) (q := q) F_law_refused B_law_refused (PySem.W.mg_of X G a_law_refused) C_law_no_widths C_law_word
    have C_law_right := ok_law_right (P := l.prog) (w := w) (base := base) (q := q) F_law_right B_law_right (PySem.W.mg_of X G a_law_right) C_law_same C_law_made C_law_rule
    have C_law := ok_law (P := l.prog) (w := w) (base := base) (q := q) F_law B_law (PySem.W.mg_of X G a_law) m_range C_law_deck C_law_take C_law_right C_law_refused
    exact C_law
end LW

end
section
set_option Elab.async false
set_option linter.all false
set_option maxRecDepth 100000
set_option maxHeartbeats 1000000
namespace LW
open PySem PySem.Spec PyProof.Rows L2 Ev Xc
section
local macro_rules | `(tactic| simp! only [$s,*]) => `(tactic| try simp (disch := (first | assumption | omega | (simp only [List.length_cons, List.length_nil, List.length_append, List.length_map, List.length_set, List.length_replicate, List.length_take, List.length_drop, List.length_reverse, List.length_range] <;> omega) | fail)) only [↓wOk, ↓wBad, ↓wExc, ↓wC, ↓wV, ↓wBin, ↓wACons, ↓wANil, ↓wBi, ↓wCall, ↓wTup, ↓wLst, ↓wB1, ↓wNot, ↓wOr, ↓wAnd, ↓wTru, ↓wEAnd, ↓wENot, ↓wChain, ↓wIf, ↓wAsg, ↓wGN, ↓wRet, ↓wNx, ↓wDrop, ↓wAdd, ↓wSub, ↓wCmp, Ev.eq_int, ↓wEqI, ↓wNeI, y1, y2, y3, y4, y5, y6, y7, y8, y9, y10, y11, y12, y13, y14, y15, y16, y17, y18, y19, y20, y21, y22, y23, y24, y25, y26, y27, y28, y29, y30, y31, y32, y33, y34, y35, y36, y37, y38, y39, y40, y41, tru1, tru2, tru3, tru5, tru6, isD1, isD2, beq1, beq2, beq3, beq4, ty1, ty2, ty3, ty4, ty5, ty6, ty7, it00, it01, it02, it03, it04, it05, it10, it11, it12, it13, it14, it15, it20, it21, it22, it23, it24, it25, it30, it31, it32, it33, it34, it35, it40, it41, it42, it43, it44, it45, it50, it51, it52, it53, it54, it55, it60, it61, it62, it63, it64, it65, im0, im1, im2, im3, im4, im5, ↓xSeq, ↓xIx, seq_tup, seq_obj, lst_obj, ↓xLenT, ↓xLenO, ↓xListT, ↓xListO, ↓xTupleT, ↓xTupleO, ↓xIntI, ↓xIntB, ↓xAbs, ↓xMax2, ↓xMin2, ↓xMod, ↓xDiv, ↓xMulL, ↓xMulR, cut_to, cut_from, cut_all, cut_ft, cut_m1, rep_flat, ↓xRepT, ↓xRepL, ↓xAddT, ↓xAddO, ↓xIs, ↓xEq, ↓xNe, ↓xBIs, ↓xMt, isL_obj, ↓xApp, ↓xRev, ↓xSl, ↓xON, ↓xOS, ↓xSlT, ↓xSlO, ↓xRevL, ↓xRevT, ↓xNeg, ↓xMkT, ↓xMkL, ↓xGT, ↓xGC, ↓xGNil, ↓xGIx, ↓xSetD, ↓xEIf, ↓xEOr, ↓xD0, ↓xNever, ↓xRetN, ↓xBrk, ↓xCnt, ↓xAug, at_nn, ixN_nn, app_lt, app_eq, set_eq, set_ne, set_app, ↓xFor, ↓xR1, ↓xR2, ↓xTupF, ↓xEn, rngC, rngC2, ↓xForL, ↓xNox, ↓xNoxF, ↓xTry, ↓xIsX, ↓xLc, ↓xIK, ↓xIL, ↓xZp, ↓xYes, seq_net, ↓xGTn, ↓xIn, ↓xAllN, ↓xTupN, ↓xOrV, ↓xLrng, rngL, ↓xR3, ↓xForG, ↓xIRv, ↓xTryR, ↓xGDix, ↓xRr, ↓xEnL, ↓xEnL0, ↓xDc, ↓xTupG, ↓xU, ↓xZp3, ↓xLrev, ↓xLrng2, rngL2, ↓xAugM, mulC, ↓xShl1, ↓xR3p, ↓xDivW, Int.reduceToNat, Nat.reduceAdd, Nat.reduceLT, Nat.reduceLeDiff, Int.reduceAdd, Int.reduceNeg, Nat.reduceEqDiff, reduceCtorEq, reduceIte, Int.reduceLT, Int.reduceLE, Int.reduceEq, Int.reduceSub, Int.reduceMul, beq_self_eq_true, $s,*])
variable {ns : List Int} {μ μ' μ'' : Store} {ρ : Ro}
theorem cell_ok {k : Int} (k0 : 0 ≤ k) (k1 : k ≤ 1000000) : ∃ c, 0 ≤ c ∧ f_law_cell ns [.scr, .int k] μ = .ok (.int c) μ := by
  have e0 : bLen ns [.scr] μ = .ok (.int ns.length) μ := by unfold bLen; simp [seqOf, lstOf]
  have z1 : CMul 7 k := CMul_l _ (by decide) (by decide)
  by_cases hn : ns.length = 0
  · refine ⟨7 * k + 5, by omega, run_rt rfl ?_⟩
    show b_law_cell ns [some .scr, some (.int k)] μ = _
    have e1 : opEq ns (.int ns.length) (.int 0) μ = .ok (.bl true) μ := by unfold opEq; rw [Ev.eq_int, decide_eq_true (by omega)]
    simp [b_law_cell, b_law_cell_0b, b_law_cell_1, sSeq, sIf, tB1, eBin, eBi, aCons, aNil, eVar, eC, R.bind, e0, e1, sRet, opMul, z1, opAdd]
  · have e1 : opEq ns (.int ns.length) (.int 0) μ = .ok (.bl false) μ := by unfold opEq; rw [Ev.eq_int, decide_eq_false (by omega)]
    have hl : (0 : Int) < ns.length := by omega
    have hl2 : 0 < ns.length := by omega
    have h0 := Int.emod_nonneg k (show (ns.length : Int) ≠ 0 by omega)
    have h1 := Int.emod_lt_of_pos k hl
    have hi : (k % ns.length).toNat < ns.length := by omega
    have e2 : atI (ns.map D.int) (k % ns.length) = some (.int ns[(k % ns.length).toNat]) := atI_at h0 (by simp [hi])
    refine ⟨if ns[(k % ns.length).toNat] < 0 then -ns[(k % ns.length).toNat] else ns[(k % ns.length).toNat], by split <;> omega, run_rt rfl ?_⟩
    show b_law_cell ns [some .scr, some (.int k)] μ = _
    simp [b_law_cell, b_law_cell_0b, b_law_cell_1, sSeq, sIf, tB1, eBin, eBi, aCons, aNil, eVar, eC, R.bind, e0, e1, sRet, sNext, opMod, hl, hl2, ixD, seqOf, lstOf, e2, bAbs]
theorem draw_ok {k b : Int} (k0 : 0 ≤ k) (k1 : k ≤ 1000000) (b0 : 0 < b) : ∃ n, 0 ≤ n ∧ n < b ∧ f_law_mixed ns [.scr, .int k, .int b] μ = .ok (.int n) μ := by
  obtain ⟨c, c0, ec⟩ := cell_ok (ns := ns) (μ := μ) k0 k1
  have z1 : ∀ x, CMul x 48271 := fun x => CMul_r _ (by decide) (by decide)
  have z2 : CMul k k := CMul_l _ (by omega) (by omega)
  have z3 : ∀ x, CMul x 7919 := fun x => CMul_r _ (by decide) (by decide)
  have z4 : ∀ x, CMul 31 x := fun x => CMul_l _ (by decide) (by decide)
  have z5 : ∀ x, CMul x 104729 := fun x => CMul_r _ (by decide) (by decide)
  have a0 := Int.emod_nonneg (c % 1000003 * 48271 + k * k * 7919 + 101) (show (2147483647 : Int) ≠ 0 by decide)
  have a1 := Int.emod_lt_of_pos (c % 1000003 * 48271 + k * k * 7919 + 101) (show (0 : Int) < 2147483647 by decide)
  have z6 : CMul ((c % 1000003 * 48271 + k * k * 7919 + 101) % 2147483647) ((c % 1000003 * 48271 + k * k * 7919 + 101) % 2147483647) := CMul_l _ (by omega) (by omega)
  generalize hA : (c % 1000003 * 48271 + k * k * 7919 + 101) % 2147483647 = A at a0 a1 z6
  refine ⟨(A * A + 31 * A + k * 104729) % 2147483629 / 11 % b, Int.emod_nonneg _ (by omega), Int.emod_lt_of_pos _ b0, run_rt rfl ?_⟩
  show b_law_mixed ns [some .scr, some (.int k), some (.int b), none] μ = _
  simp [b_law_mixed, b_law_mixed_1, b_law_mixed_2, sSeq, sAsg, gN, eBin, eCall, aCons, aNil, eVar, eC, R.bind, ec, opMod, opMul, z1, z2, z3, z4, z5, opAdd, hA, z6, opDivW, sRet, b0]
structure Dk (c : Int) (m : Store) : Prop where
  ex : ∃ (cs : List Int) (k : Int), (∀ x ∈ cs, 0 ≤ x) ∧ cs.length ≤ 63 ∧ 0 ≤ k ∧ k ≤ c ∧ m[1]? = some (.lst (cs.map D.int)) ∧ m[2]? = some (.lst [.scr, .ob 1, .int k])
abbrev dkP (k : Nat) : Prop := k < 3
theorem Dk.pos {c : Int} {m : Store} (h : Dk c m) : 3 ≤ m.length := let ⟨_, _, _, _, _, _, _, h⟩ := h.ex; lt_of_at h
theorem Dk.mono {c d : Int} {m : Store} (h : Dk c m) (hd : c ≤ d) : Dk d m := let ⟨b, k, a, h0, h1, h2, h3⟩ := h.ex; ⟨b, k, a, h0, h1, Int.le_trans h2 hd, h3⟩
theorem Dk.ext {c : Int} {p : Nat → Prop} {m m' : Store} (h : Dk c m) (e : Ex p m m') (hp : ∀ k, k < 3 → ¬ p k) : Dk c m' := let ⟨b, k, a, h0, h1, h2, h3, h4⟩ := h.ex; ⟨b, k, a, h0, h1, h2, e.at h3 (hp 1 (by decide)), e.at h4 (hp 2 (by decide))⟩
theorem Dk.app {c : Int} {m : Store} (h : Dk c m) (xs : Store) : Dk c (m ++ xs) := h.ext (p := fun _ => False) (ex_app xs) fun _ _ => id
theorem Dk.set {c : Int} {m : Store} {j : Nat} {x : MO} (h : Dk c m) (hj : 3 ≤ j) : Dk c (m.set j x) := h.ext (p := fun k => 3 ≤ k) (Ex.refl.set fun _ => hj) fun k h z => by omega
theorem at3_0 {a b c : D} : atI [a, b, c] 0 = some a := rfl
theorem at3_1 {a b c : D} : atI [a, b, c] 1 = some b := rfl
theorem at3_2 {a b c : D} : atI [a, b, c] 2 = some c := rfl
theorem j3_2 : ixN 3 2 = some 2 := rfl
theorem w_take {b c : Int} {P : D → Store → Prop} (h : Dk c μ) (b0 : 0 < b) (b1 : b < 18446744073709551616) (hc : c ≤ 100000) (hP : ∀ n m, 0 ≤ n → n < b → Dk (c + 1) m → Ex dkP μ m → P (.int n) m) : Ok (f_law_take ns [.ob 2, .int b] μ) P := by
  obtain ⟨cs, k, ca, cl, k0, k1, h1, h2⟩ := h.ex
  refine ok_run rfl ?_
  show Ok (b_law_take ns [some (.ob 2), some (.int b), none] μ) _
  simp! only [b_law_take]
  refine ok_while (fun j ρ m => ρ = [some (.ob 2), some (.int b), none] ∧ ∃ ds : List Int, ds.length = j ∧ ds.length ≤ 63 ∧ (∀ x ∈ ds, 0 ≤ x) ∧ m[1]? = some (.lst (ds.map D.int)) ∧ m[2]? = some (.lst [.scr, .ob 1, .int k]) ∧ Ex dkP μ m) (k := cs.length) ⟨rfl, cs, rfl, cl, ca, h1, h2, Ex.refl⟩ (by omega) ?_
  rintro j ρ m ⟨rfl, ds, dl, d63, dn, m1, m2, mx⟩
  have q1 : (m ++ [MO.lst []])[1]? = some (.lst (ds.map D.int)) := (app_lt (lt_of_at m1)).trans m1
  have q2 : (m ++ [MO.lst []])[2]? = some (.lst [.scr, .ob 1, .int k]) := (app_lt (lt_of_at m2)).trans m2
  have q3 : (m ++ [MO.lst []])[m.length]? = some (.lst []) := app_eq rfl
  have qe := eq_nil (ns := ns) (es := ds) q1 q3 (by omega)
  have fin : ∀ (es : List Int) (m : Store), es.length ≤ 63 → (∀ x ∈ es, 0 ≤ x) → m[1]? = some (.lst (es.map D.int)) → m[2]? = some (.lst [.scr, .ob 1, .int k]) → Ex dkP μ m → Ok (b_law_take_1 ns [some (.ob 2), some (.int b), none] m) fun f μ1 => (match f with | .rt d => P d μ1 | .nx _ => P .non μ1 | _ => False) := by
    intro es m el en m1 m2 mx
    have q1 : (m ++ [MO.lst []])[1]? = some (.lst (es.map D.int)) := (app_lt (lt_of_at m1)).trans m1
    have q2 : (m ++ [MO.lst []])[2]? = some (.lst [.scr, .ob 1, .int k]) := (app_lt (lt_of_at m2)).trans m2
    have q3 : (m ++ [MO.lst []])[m.length]? = some (.lst []) := app_eq rfl
    have qe := eq_nil (ns := ns) (es := es) q1 q3 (by omega)
    have mx' : Ex dkP μ (m ++ [MO.lst []]) := mx.app _
    simp! only [b_law_take_1, m2, at3_1]
    generalize m ++ [MO.lst []] = m' at *
    simp! only [qe]
    rcases List.eq_nil_or_concat es with rfl | ⟨fs, x, rfl⟩
    · refine ⟨fun hf => by simp at hf, fun _ => ?_⟩
      simp! only [b_law_take_2, q2, at3_2, j3_2]
      have hl := lt_of_at q2
      have hl1 := lt_of_at q1
      have e2 : (m'.set 2 (MO.lst [.scr, .ob 1, .int (k + 1)]))[2]? = some (.lst [.scr, .ob 1, .int (k + 1)]) := set_eq rfl hl
      have e1 : (m'.set 2 (MO.lst [.scr, .ob 1, .int (k + 1)]))[1]? = some (.lst []) := (set_ne (by decide)).trans q1
      have mx2 : Ex dkP μ (m'.set 2 (MO.lst [.scr, .ob 1, .int (k + 1)])) := mx'.set fun _ => by show 2 < 3; decide
      generalize m'.set 2 (MO.lst [.scr, .ob 1, .int (k + 1)]) = m2 at *
      obtain ⟨n, n0, n1, en⟩ := draw_ok (ns := ns) (μ := m2) (k := k + 1) (b := b) (by omega) (by omega) b0
      simp! only [b_law_take_3, e2, at3_0, at3_2, en]
      exact hP n m2 n0 n1 ⟨[], k + 1, by simp, by simp, by omega, by omega, e1, e2⟩ mx2
    · refine ⟨fun _ => ?_, fun hf => by simp at hf⟩
      rw [List.concat_eq_append, List.map_append] at *
      have x0 := en x (by simp)
      have hl1 := lt_of_at q1
      simp! only [b_law_take_1b, q2, at3_1, q1, List.map_cons, List.map_nil, at_m1]
      simp! only [b_law_take_1b_1, q2, at3_1, q1, List.map_cons, List.map_nil, at_m1, List.length_append, List.length_map, List.length_cons, List.length_nil, ixN_m1]
      simp! only [b_law_take_1b_2]
      refine hP _ _ (Int.emod_nonneg _ (by omega)) (Int.emod_lt_of_pos _ b0) ⟨fs ++ [x / b], k, ?_, ?_, k0, by omega, ?_, ?_⟩ (mx'.set fun _ => by show 1 < 3; decide)
      · intro y hy
        rcases List.mem_append.mp hy with h | h
        · exact en y (List.mem_append_left _ h)
        · simp at h; subst h; exact Int.ediv_nonneg x0 (by omega)
      · simpa using el
      · rw [set_eq rfl hl1, List.map_append]; simp
      · exact (set_ne (by decide)).trans q2
  simp! only [m2, at3_1]
  have mx' : Ex dkP μ (m ++ [MO.lst []]) := mx.app _
  generalize m ++ [MO.lst []] = m' at *
  simp! only [qe]
  rcases List.eq_nil_or_concat ds with rfl | ⟨es, x, rfl⟩
  · refine ⟨fun hf => by simp at hf, fun _ => ?_⟩
    exact fin [] m' (by simp) (by simp) q1 q2 mx'
  · refine ⟨fun _ => ?_, fun hf => by simp at hf⟩
    have q1' := q1
    rw [List.concat_eq_append, List.map_append, List.map_cons, List.map_nil] at q1
    simp! only [q2, at3_1, q1, List.map_cons, List.map_nil, at_m1]
    refine ⟨fun _ => ?_, fun _ => ?_⟩
    · simp! only [b_law_take_0b, q2, at3_1, q1]
      rw [xPop0 q1]
      have hl1 := lt_of_at q1
      refine ⟨es.length, by simp at dl; omega, es, rfl, by simp at d63; omega, fun y hy => dn y (by simp [hy]), set_eq rfl hl1, (set_ne (by decide)).trans q2, mx'.set fun _ => by show 1 < 3; decide⟩
    · exact fin _ m' (by simpa using d63) dn q1' q2 mx'
theorem w_deck {P : D → Store → Prop} (hn : ns.length ≤ 63) (hP : ∀ m, Dk 0 m → m.length = 3 → P (.ob 2) m) : Ok (f_law_deck ns [.scr] []) P := by
  refine ok_run rfl ?_
  show Ok (b_law_deck ns [some .scr, none, none] []) _
  have hpw : ∀ m : Store, opPow (.int 10) (.int 18) m = .ok (.int ((10 : Int) ^ (18 : Int).toNat)) m := fun m => by unfold opPow; simp only; rw [if_pos (by decide)]
  have hs : ∀ m : Store, lstOf ns m .scr = some (ns.map D.int) := fun m => rfl
  simp! only [b_law_deck, hs]
  refine ok_lcG (ns.map D.int) (fun i ys m => ∃ cs : List Int, ys = cs.map D.int ∧ cs.length ≤ i ∧ (∀ x ∈ cs, 0 ≤ x) ∧ m = [MO.lst ys]) (by simp) (by first | omega | (simp; omega)) ⟨[], rfl, by simp, by simp, rfl⟩ ?_ ?_ ?_ ?_
  · rintro i ys m ⟨cs, rfl, hl, hc, rfl⟩
    exact ⟨rfl, by simpa using hl⟩
  · rintro i ys m ⟨cs, rfl, hl, hc, rfl⟩
    unfold nxL
    rw [hs]
    simp
  · rintro i d ys m hd ⟨cs, rfl, hl, hc, rfl⟩
    rw [List.getElem?_map] at hd
    cases he : ns[i]? with
    | none => rw [he] at hd; cases hd
    | some e =>
      rw [he] at hd; cases hd
      refine ⟨_, rfl, ?_⟩
      simp only [wipeR]
      simp! only [hpw]
      refine ⟨fun _ => ?_, fun _ => ?_⟩
      · refine ⟨cs ++ [if e < 0 then -e else e], by simp, by simp; omega, ?_⟩
        intro y hy
        rcases List.mem_append.mp hy with h | h
        · exact hc y h
        · simp at h; subst h; split <;> omega
      · exact ⟨cs, rfl, by omega, hc⟩
  · rintro ys m ⟨cs, rfl, hl, hc, rfl⟩
    simp! only [y1]
    simp! only [b_law_deck_1]
    refine hP _ ⟨cs.reverse, 0, by simpa using hc, by simp at hl ⊢; omega, by omega, by omega, by simp, by simp⟩ rfl
end
end LW

end
section
set_option Elab.async false
set_option linter.all false
set_option maxRecDepth 100000
set_option maxHeartbeats 1000000
namespace LW
open PySem PySem.Spec PyProof.Rows L2 Ev Xc
section
local macro_rules | `(tactic| simp! only [$s,*]) => `(tactic| try simp (disch := (first | assumption | omega | (simp only [List.length_cons, List.length_nil, List.length_append, List.length_map, List.length_set, List.length_replicate, List.length_take, List.length_drop, List.length_reverse, List.length_range] <;> omega) | fail)) only [↓wOk, ↓wBad, ↓wExc, ↓wC, ↓wV, ↓wBin, ↓wACons, ↓wANil, ↓wBi, ↓wCall, ↓wTup, ↓wLst, ↓wB1, ↓wNot, ↓wOr, ↓wAnd, ↓wTru, ↓wEAnd, ↓wENot, ↓wChain, ↓wIf, ↓wAsg, ↓wGN, ↓wRet, ↓wNx, ↓wDrop, ↓wAdd, ↓wSub, ↓wCmp, Ev.eq_int, ↓wEqI, ↓wNeI, y1, y2, y3, y4, y5, y6, y7, y8, y9, y10, y11, y12, y13, y14, y15, y16, y17, y18, y19, y20, y21, y22, y23, y24, y25, y26, y27, y28, y29, y30, y31, y32, y33, y34, y35, y36, y37, y38, y39, y40, y41, tru1, tru2, tru3, tru5, tru6, isD1, isD2, beq1, beq2, beq3, beq4, ty1, ty2, ty3, ty4, ty5, ty6, ty7, it00, it01, it02, it03, it04, it05, it10, it11, it12, it13, it14, it15, it20, it21, it22, it23, it24, it25, it30, it31, it32, it33, it34, it35, it40, it41, it42, it43, it44, it45, it50, it51, it52, it53, it54, it55, it60, it61, it62, it63, it64, it65, im0, im1, im2, im3, im4, im5, ↓xSeq, ↓xIx, seq_tup, seq_obj, lst_obj, ↓xLenT, ↓xLenO, ↓xListT, ↓xListO, ↓xTupleT, ↓xTupleO, ↓xIntI, ↓xIntB, ↓xAbs, ↓xMax2, ↓xMin2, ↓xMod, ↓xDiv, ↓xMulL, ↓xMulR, cut_to, cut_from, cut_all, cut_ft, cut_m1, rep_flat, ↓xRepT, ↓xRepL, ↓xAddT, ↓xAddO, ↓xIs, ↓xEq, ↓xNe, ↓xBIs, ↓xMt, isL_obj, ↓xApp, ↓xRev, ↓xSl, ↓xON, ↓xOS, ↓xSlT, ↓xSlO, ↓xRevL, ↓xRevT, ↓xNeg, ↓xMkT, ↓xMkL, ↓xGT, ↓xGC, ↓xGNil, ↓xGIx, ↓xSetD, ↓xEIf, ↓xEOr, ↓xD0, ↓xNever, ↓xRetN, ↓xBrk, ↓xCnt, ↓xAug, at_nn, ixN_nn, app_lt, app_eq, set_eq, set_ne, set_app, ↓xFor, ↓xR1, ↓xR2, ↓xTupF, ↓xEn, rngC, rngC2, ↓xForL, ↓xNox, ↓xNoxF, ↓xTry, ↓xIsX, ↓xLc, ↓xIK, ↓xIL, ↓xZp, ↓xYes, seq_net, ↓xGTn, ↓xIn, ↓xAllN, ↓xTupN, ↓xOrV, ↓xLrng, rngL, ↓xR3, ↓xForG, ↓xIRv, ↓xTryR, ↓xGDix, ↓xRr, ↓xEnL, ↓xEnL0, ↓xDc, ↓xTupG, ↓xU, ↓xZp3, ↓xLrev, ↓xLrng2, rngL2, ↓xAugM, mulC, ↓xShl1, ↓xR3p, ↓xDivW, Int.reduceToNat, Nat.reduceAdd, Nat.reduceLT, Nat.reduceLeDiff, Int.reduceAdd, Int.reduceNeg, Nat.reduceEqDiff, reduceCtorEq, reduceIte, Int.reduceLT, Int.reduceLE, Int.reduceEq, Int.reduceSub, Int.reduceMul, beq_self_eq_true, $s,*])
variable {ns : List Int} {μ μ' μ'' : Store} {ρ : Ro}
theorem eq_of_ok {r : R D} {d : D} (h : Ok r fun b m => b = d ∧ m = μ) : r = .ok d μ := by
  obtain ⟨b, m, e, rfl, rfl⟩ := h.ex; exact e
theorem e_whole {i : Int} : f_is_whole ns [.int i] μ = .ok (.bl true) μ := by
  refine eq_of_ok (ok_run rfl ?_)
  show Ok (b_is_whole ns [some (.int i)] μ) _
  simp! only [b_is_whole]
theorem e_between {i a b : Int} : f_is_between ns [.int i, .int a, .int b] μ = .ok (.bl (decide (a ≤ i) && decide (i ≤ b))) μ := by
  refine eq_of_ok (ok_run rfl ?_)
  show Ok (b_is_between ns [some (.int i), some (.int a), some (.int b)] μ) _
  simp! only [b_is_between, e_whole]
  by_cases h : a ≤ i <;> simp [h]
end
end LW

end
section
set_option Elab.async false
set_option linter.all false
set_option maxRecDepth 100000
set_option maxHeartbeats 1000000
namespace LW
open PySem PySem.Spec PyProof.Rows L2 Ev Xc
section
local macro_rules | `(tactic| simp! only [$s,*]) => `(tactic| try simp (disch := (first | assumption | omega | (simp only [List.length_cons, List.length_nil, List.length_append, List.length_map, List.length_set, List.length_replicate, List.length_take, List.length_drop, List.length_reverse, List.length_range] <;> omega) | fail)) only [↓wOk, ↓wBad, ↓wExc, ↓wC, ↓wV, ↓wBin, ↓wACons, ↓wANil, ↓wBi, ↓wCall, ↓wTup, ↓wLst, ↓wB1, ↓wNot, ↓wOr, ↓wAnd, ↓wTru, ↓wEAnd, ↓wENot, ↓wChain, ↓wIf, ↓wAsg, ↓wGN, ↓wRet, ↓wNx, ↓wDrop, ↓wAdd, ↓wSub, ↓wCmp, Ev.eq_int, ↓wEqI, ↓wNeI, y1, y2, y3, y4, y5, y6, y7, y8, y9, y10, y11, y12, y13, y14, y15, y16, y17, y18, y19, y20, y21, y22, y23, y24, y25, y26, y27, y28, y29, y30, y31, y32, y33, y34, y35, y36, y37, y38, y39, y40, y41, tru1, tru2, tru3, tru5, tru6, isD1, isD2, beq1, beq2, beq3, beq4, ty1, ty2, ty3, ty4, ty5, ty6, ty7, it00, it01, it02, it03, it04, it05, it10, it11, it12, it13, it14, it15, it20, it21, it22, it23, it24, it25, it30, it31, it32, it33, it34, it35, it40, it41, it42, it43, it44, it45, it50, it51, it52, it53, it54, it55, it60, it61, it62, it63, it64, it65, im0, im1, im2, im3, im4, im5, ↓xSeq, ↓xIx, seq_tup, seq_obj, lst_obj, ↓xLenT, ↓xLenO, ↓xListT, ↓xListO, ↓xTupleT, ↓xTupleO, ↓xIntI, ↓xIntB, ↓xAbs, ↓xMax2, ↓xMin2, ↓xMod, ↓xDiv, ↓xMulL, ↓xMulR, cut_to, cut_from, cut_all, cut_ft, cut_m1, rep_flat, ↓xRepT, ↓xRepL, ↓xAddT, ↓xAddO, ↓xIs, ↓xEq, ↓xNe, ↓xBIs, ↓xMt, isL_obj, ↓xApp, ↓xRev, ↓xSl, ↓xON, ↓xOS, ↓xSlT, ↓xSlO, ↓xRevL, ↓xRevT, ↓xNeg, ↓xMkT, ↓xMkL, ↓xGT, ↓xGC, ↓xGNil, ↓xGIx, ↓xSetD, ↓xEIf, ↓xEOr, ↓xD0, ↓xNever, ↓xRetN, ↓xBrk, ↓xCnt, ↓xAug, at_nn, ixN_nn, app_lt, app_eq, set_eq, set_ne, set_app, ↓xFor, ↓xR1, ↓xR2, ↓xTupF, ↓xEn, rngC, rngC2, ↓xForL, ↓xNox, ↓xNoxF, ↓xTry, ↓xIsX, ↓xLc, ↓xIK, ↓xIL, ↓xZp, ↓xYes, seq_net, ↓xGTn, ↓xIn, ↓xAllN, ↓xTupN, ↓xOrV, ↓xLrng, rngL, ↓xR3, ↓xForG, ↓xIRv, ↓xTryR, ↓xGDix, ↓xRr, ↓xEnL, ↓xEnL0, ↓xDc, ↓xTupG, ↓xU, ↓xZp3, ↓xLrev, ↓xLrng2, rngL2, ↓xAugM, mulC, ↓xShl1, ↓xR3p, ↓xDivW, Int.reduceToNat, Nat.reduceAdd, Nat.reduceLT, Nat.reduceLeDiff, Int.reduceAdd, Int.reduceNeg, Nat.reduceEqDiff, reduceCtorEq, reduceIte, Int.reduceLT, Int.reduceLE, Int.reduceEq, Int.reduceSub, Int.reduceMul, beq_self_eq_true, $s,*])
variable {ns : List Int} {μ μ' μ'' : Store} {ρ : Ro}
theorem xAugT {i : Nat} {r : EF} {P : Fl → Store → Prop} : Ok (sAugT i r ρ μ) P = (match ρ[i]? with | some (some (.tup xs)) => (Ok (r ρ μ) fun d μ1 => (match d with | .tup ys => (if 0 < xs.length ∧ 0 < ys.length ∧ xs.length + ys.length ≤ sizeLine then P (.nx (ρ.set i (some (.tup (xs ++ ys))))) μ1 else False) | _ => False)) | _ => False) := by
  unfold sAugT
  rcases ρ[i]? with _ | (_ | d) <;> first | exact wBad | skip
  cases d <;> first | exact wBad | skip
  rename_i xs
  dsimp only
  rw [Ok.bind]; congr; funext d μ1; cases d <;> first | exact wBad | skip
  rename_i ys
  dsimp only
  by_cases h : 0 < xs.length ∧ 0 < ys.length ∧ xs.length + ys.length ≤ sizeLine
  · rw [if_pos h, if_pos h]; exact wOk
  · rw [if_neg h, if_neg h]; exact wBad
theorem e_look {w : Nat} (h1 : 1 ≤ w) (h2 : w ≤ 64) : f_look_at_width ns [.int (w : Nat)] μ = .ok .non μ := by
  refine eq_of_ok (ok_run rfl ?_)
  show Ok (b_look_at_width ns [some (.int (w : Nat))] μ) _
  have c1 : decide ((1 : Int) ≤ (w : Nat)) = true := decide_eq_true (by omega)
  have c2 : decide (((w : Nat) : Int) ≤ 64) = true := decide_eq_true (by omega)
  simp! only [b_look_at_width, e_between, c1, c2]
theorem e_half {w : Nat} : f_half_of ns [.int (w : Nat)] μ = .ok (.int ((w + 1) / 2 : Nat)) μ := by
  refine eq_of_ok (ok_run rfl ?_)
  show Ok (b_half_of ns [some (.int (w : Nat))] μ) _
  simp! only [b_half_of]
  rw [show (((w + 1) / 2 : Nat) : Int) = (((w : Nat) : Int) + 1) / 2 by omega]
theorem pd1 : D.tup [D.str "steps", D.int 1] = paD (.st 1) := by rw [paD_st]; rfl
theorem pd2 : D.tup [D.str "steps", D.int 2] = paD (.st 2) := by rw [paD_st]; rfl
theorem pdn {n : Nat} : D.tup [D.str "steps", D.int (n : Nat)] = paD (.st n) := paD_st.symm
theorem e_prs {w : Nat} (hw : w ≤ 64) : f_pairs_of ns [.int (w : Nat)] μ = .ok (.tup ((prs2 w).map paD)) μ := by
  refine eq_of_ok (ok_run rfl ?_)
  show Ok (b_pairs_of ns [some (.int (w : Nat))] μ) _
  have d1 : ((w : Nat) : Int) / 2 ≤ 100 := by omega
  have d2 : -100 ≤ ((w : Nat) : Int) / 2 := by omega
  have d3 : ((w : Nat) : Int) % 2 ≤ 100 := by omega
  have d4 : -100 ≤ ((w : Nat) : Int) % 2 := by omega
  simp! only [b_pairs_of, pd1, pd2]
  rw [show (((w : Nat) : Int) / 2).toNat = w / 2 by omega, show (((w : Nat) : Int) % 2).toNat = w % 2 by omega]
  unfold prs2
  rw [List.map_append, List.map_replicate, List.map_replicate]
theorem e_bysteps2 {w : Nat} (h1 : 1 ≤ w) (h2 : w ≤ 64) : f_by_steps ns [.int (w : Nat)] μ = .ok (paD (.st w)) μ := by
  refine eq_of_ok (ok_run rfl ?_)
  show Ok (b_by_steps ns [some (.int (w : Nat))] μ) _
  simp! only [b_by_steps, e_look h1 h2]
  simp! only [b_by_steps_1, pdn]
theorem e_byone : ∀ (n w : Nat), 1 ≤ w → w ≤ 64 → w ≤ n + 1 → 1 ≤ n → f_by_one n ns [.int (w : Nat)] μ = .ok (paD (byO n w)) μ := by
  intro n
  induction n with
  | zero => intro w _ _ _ h; omega
  | succ n ih =>
    intro w h1 h2 hn _
    refine eq_of_ok (ok_run rfl ?_)
    show Ok (b_by_one (f_by_one n ns) ns [some (.int (w : Nat))] μ) _
    simp! only [b_by_one, e_look h1 h2]
    by_cases hw : w ≤ 2
    · have c : decide (((w : Nat) : Int) ≤ 2) = true := decide_eq_true (by omega)
      simp! only [b_by_one_1, c]
      simp! only [b_by_one_1b, pdn]
      rw [byO, if_pos hw]
    · have c : decide (((w : Nat) : Int) ≤ 2) = false := decide_eq_false (by omega)
      have e := ih (w - 1) (by omega) (by omega) (by omega) (by omega)
      rw [show ((w - 1 : Nat) : Int) = ((w : Nat) : Int) - 1 by omega] at e
      simp! only [b_by_one_1, c]
      simp! only [b_by_one_2, e, pd1, pd2]
      rw [byO, if_neg hw, frc_eq, paD_bl]
      rfl
theorem e_byhalves : ∀ (n w : Nat), 1 ≤ w → w ≤ 64 → w ≤ 2 ^ n → 1 ≤ n → f_by_halves n ns [.int (w : Nat)] μ = .ok (paD (byH n w)) μ := by
  intro n
  induction n with
  | zero => intro w _ _ _ h; omega
  | succ n ih =>
    intro w h1 h2 hn _
    refine eq_of_ok (ok_run rfl ?_)
    show Ok (b_by_halves (f_by_halves n ns) ns [some (.int (w : Nat)), none] μ) _
    simp! only [b_by_halves, e_look h1 h2]
    by_cases hw : w ≤ 2
    · have c : decide (((w : Nat) : Int) ≤ 2) = true := decide_eq_true (by omega)
      simp! only [b_by_halves_1, c]
      simp! only [b_by_halves_1b, pdn]
      rw [byH_st hw]
    · have c : decide (((w : Nat) : Int) ≤ 2) = false := decide_eq_false (by omega)
      rw [Nat.pow_succ] at hn
      have n1 : 1 ≤ n := by
        cases n with
        | zero => simp at hn; omega
        | succ n => omega
      have e1 := ih ((w + 1) / 2) (by omega) (by omega) (by omega) n1
      have e2 := ih (w - (w + 1) / 2) (by omega) (by omega) (by omega) n1
      rw [show ((w - (w + 1) / 2 : Nat) : Int) = ((w : Nat) : Int) - ((w + 1) / 2 : Nat) by omega] at e2
      simp! only [b_by_halves_1, c]
      simp! only [b_by_halves_2, e_half]
      simp! only [b_by_halves_3, e1, e2, pd2]
      rw [byH_bl hw, paD_bl]
      rfl
theorem e_bypairs : ∀ (n w : Nat), 1 ≤ w → w ≤ 64 → w ≤ 2 ^ n → 1 ≤ n → f_by_pairs n ns [.int (w : Nat)] μ = .ok (paD (byP n w)) μ := by
  intro n
  induction n with
  | zero => intro w _ _ _ h; omega
  | succ n ih =>
    intro w h1 h2 hn _
    refine eq_of_ok (ok_run rfl ?_)
    show Ok (b_by_pairs (f_by_pairs n ns) ns [some (.int (w : Nat))] μ) _
    simp! only [b_by_pairs, e_look h1 h2]
    by_cases hw : w ≤ 2
    · have c : decide (((w : Nat) : Int) ≤ 2) = true := decide_eq_true (by omega)
      simp! only [b_by_pairs_1, c]
      simp! only [b_by_pairs_1b, pdn]
      rw [byP, if_pos hw]
    · have c : decide (((w : Nat) : Int) ≤ 2) = false := decide_eq_false (by omega)
      rw [Nat.pow_succ] at hn
      have n1 : 1 ≤ n := by
        cases n with
        | zero => simp at hn; omega
        | succ n => omega
      have e1 := ih ((w + 1) / 2) (by omega) (by omega) (by omega) n1
      simp! only [b_by_pairs_1, c]
      simp! only [b_by_pairs_2, e_half, e1, e_prs h2]
      rw [byP, if_neg hw, frc_eq, paD_bl]
theorem e_bytwos {w : Nat} (h1 : 1 ≤ w) (h2 : w ≤ 64) : f_by_twos ns [.int (w : Nat)] μ = .ok (paD (byT w)) μ := by
  refine eq_of_ok (ok_run rfl ?_)
  show Ok (b_by_twos ns [some (.int (w : Nat))] μ) _
  simp! only [b_by_twos, e_look h1 h2]
  by_cases hw : w ≤ 2
  · have c : decide (((w : Nat) : Int) ≤ 2) = true := decide_eq_true (by omega)
    simp! only [b_by_twos_1, c]
    simp! only [b_by_twos_1b, pdn]
    rw [byT, if_pos hw]
  · have c : decide (((w : Nat) : Int) ≤ 2) = false := decide_eq_false (by omega)
    simp! only [b_by_twos_1, c]
    simp! only [b_by_twos_2, e_half, pdn, e_prs h2]
    rw [byT, if_neg hw, paD_bl]
theorem e_spared : ∀ (n w s : Nat), 1 ≤ w → w ≤ 64 → w ≤ 2 ^ n → 1 ≤ n → s ≤ 6 → f_spared n ns [.int (w : Nat), .int (s : Nat)] μ = .ok (paD (spr n w s)) μ := by
  intro n
  induction n with
  | zero => intro w s _ _ _ h; omega
  | succ n ih =>
    intro w s h1 h2 hn _ hs
    refine eq_of_ok (ok_run rfl ?_)
    show Ok (b_spared (f_spared n ns) ns [some (.int (w : Nat)), some (.int (s : Nat)), none] μ) _
    have s1 : decide ((0 : Int) ≤ (s : Nat)) = true := decide_eq_true (by omega)
    have s2 : decide (((s : Nat) : Int) ≤ 6) = true := decide_eq_true (by omega)
    simp! only [b_spared, e_look h1 h2]
    simp! only [b_spared_1, e_between, s1, s2]
    by_cases hw : w ≤ 2
    · have c : decide (((w : Nat) : Int) ≤ 2) = true := decide_eq_true (by omega)
      simp! only [b_spared_2, c]
      simp! only [b_spared_2b, pdn]
      rw [spr, if_pos hw]
    · have c : decide (((w : Nat) : Int) ≤ 2) = false := decide_eq_false (by omega)
      rw [Nat.pow_succ] at hn
      have n1 : 1 ≤ n := by
        cases n with
        | zero => simp at hn; omega
        | succ n => omega
      simp! only [b_spared_2, c]
      simp! only [b_spared_3, e_half]
      by_cases hz : s = 0
      · have c0 : decide (((s : Nat) : Int) = 0) = true := decide_eq_true (by omega)
        have e1 := ih ((w + 1) / 2) 1 (by omega) (by omega) (by omega) n1 (by omega)
        have e2 := ih (w - (w + 1) / 2) 0 (by omega) (by omega) (by omega) n1 (by omega)
        rw [show ((w - (w + 1) / 2 : Nat) : Int) = ((w : Nat) : Int) - ((w + 1) / 2 : Nat) by omega] at e2
        have e1' : f_spared n ns [.int ((w + 1) / 2 : Nat), .int 1] μ = _ := e1
        have e2' : f_spared n ns [.int (((w : Nat) : Int) - ((w + 1) / 2 : Nat)), .int 0] μ = _ := e2
        simp! only [b_spared_4, c0]
        simp! only [b_spared_4b, e1', e2', pd2]
        rw [spr, if_neg hw, frc_eq, frc_eq, if_pos hz, paD_bl]
        rfl
      · have c0 : decide (((s : Nat) : Int) = 0) = false := decide_eq_false (by omega)
        have e1 := ih ((w + 1) / 2) (s - 1) (by omega) (by omega) (by omega) n1 (by omega)
        rw [show ((s - 1 : Nat) : Int) = ((s : Nat) : Int) - 1 by omega] at e1
        simp! only [b_spared_4, c0]
        simp! only [b_spared_5, e1, e_prs h2]
        rw [spr, if_neg hw, frc_eq, frc_eq, if_neg hz, frc_eq, paD_bl]
theorem e_byblocks {w z : Nat} (h1 : 1 ≤ w) (h2 : w ≤ 64) (z1 : 1 ≤ z) (z2 : z ≤ 64) : f_by_blocks ns [.int (w : Nat), .int (z : Nat)] μ = .ok (paD (byB w z)) μ := by
  refine eq_of_ok (ok_run rfl ?_)
  show Ok (b_by_blocks ns [some (.int (w : Nat)), some (.int (z : Nat)), none, none] μ) _
  have s1 : decide ((1 : Int) ≤ (z : Nat)) = true := decide_eq_true (by omega)
  have s2 : decide (((z : Nat) : Int) ≤ 64) = true := decide_eq_true (by omega)
  simp! only [b_by_blocks, e_look h1 h2]
  simp! only [b_by_blocks_1, e_between, s1, s2]
  unfold byB
  by_cases h : w ≤ 2 ∨ w ≤ z
  · rw [if_pos h]
    simp! only [b_by_blocks_2]
    refine ⟨fun _ => ?_, fun c1 => ⟨fun _ => ?_, fun c2 => ?_⟩⟩
    · simp! only [b_by_blocks_2b, pdn]
    · simp! only [b_by_blocks_2b, pdn]
    · have := of_decide_eq_false c1; have := of_decide_eq_false c2; omega
  · rw [if_neg h]
    have hw : 3 ≤ w ∧ z < w := by omega
    have c1 : decide (((w : Nat) : Int) ≤ 2) = false := decide_eq_false (by omega)
    have c2 : decide (((w : Nat) : Int) ≤ (z : Nat)) = false := decide_eq_false (by omega)
    simp! only [b_by_blocks_2, c1, c2]
    have dq : ((w : Nat) : Int) / ((z : Nat) : Int) = (w / z : Nat) := (Int.natCast_ediv w z).symm
    have mq : ((w : Nat) : Int) % ((z : Nat) : Int) = (w % z : Nat) := (Int.natCast_emod w z).symm
    have dl : w / z ≤ 64 := Nat.le_trans (Nat.div_le_self _ _) h2
    have dp : 1 ≤ w / z := (Nat.le_div_iff_mul_le (by omega)).mpr (by omega)
    simp! only [b_by_blocks_3, dq, pdn]
    simp! only [b_by_blocks_4, mq]
    have fin : ∀ (m : Nat), (bks w z).length = m → Ok (b_by_blocks_6 ns [some (.int (w : Nat)), some (.int (z : Nat)), some (.tup ((bks w z).map paD)), some (.int (w % z : Nat))] μ) fun f μ1 => (match f with | .rt d => d = paD (.bl (byH 8 (bks w z).length) (bks w z)) ∧ μ1 = μ | .nx _ => D.non = paD (.bl (byH 8 (bks w z).length) (bks w z)) ∧ μ1 = μ | _ => False) := by
      intro m hm
      have q := upTo_at (upTo_at l_blk (i := w - 1) (by omega) |> fun h => by rw [frc_eq] at h; exact h) (i := z - 1) (by omega)
      rw [frc_eq, show w - 1 + 1 = w by omega, show z - 1 + 1 = z by omega] at q
      simp only [Bool.or_eq_true, Bool.and_eq_true, Nat.ble_eq, Nat.beq_eq] at q
      obtain ⟨q1, q2, q3, q4⟩ := q.resolve_left (by omega)
      have bl : (bks w z).length = (bkn w z).length := by rw [bks_map, List.length_map]
      have eh := e_byhalves (ns := ns) (μ := μ) 8 (bks w z).length (by omega) (by omega) (by omega) (by decide)
      have ml : ((bks w z).map paD).length = (bks w z).length := List.length_map ..
      simp! only [b_by_blocks_6, ml, eh]
      rw [paD_bl]
    by_cases hm : 0 < w % z
    · have c3 : decide ((0 : Int) < (w % z : Nat)) = true := decide_eq_true (by omega)
      simp! only [b_by_blocks_5, c3]
      simp! only [b_by_blocks_5b, pdn]
      rw [xAugT]
      simp! only [pdn]
      have eb : List.replicate (w / z) (paD (.st z)) ++ [paD (.st (w % z))] = (bks w z).map paD := by unfold bks; rw [if_pos hm, List.map_append, List.map_replicate]; rfl
      rw [eb]
      exact fin _ rfl
    · have c3 : decide ((0 : Int) < (w % z : Nat)) = false := decide_eq_false (by omega)
      simp! only [b_by_blocks_5, c3]
      have eb : List.replicate (w / z) (paD (.st z)) = (bks w z).map paD := by unfold bks; rw [if_neg hm, List.append_nil, List.map_replicate]
      rw [eb]
      exact fin _ rfl
end
end LW

end
section
set_option Elab.async false
set_option linter.all false
set_option maxRecDepth 100000
set_option maxHeartbeats 1000000
namespace LW
open PySem PySem.Spec PyProof.Rows L2 Ev Xc
section
local macro_rules | `(tactic| simp! only [$s,*]) => `(tactic| try simp (disch := (first | assumption | omega | (simp only [List.length_cons, List.length_nil, List.length_append, List.length_map, List.length_set, List.length_replicate, List.length_take, List.length_drop, List.length_reverse, List.length_range] <;> omega) | fail)) only [↓wOk, ↓wBad, ↓wExc, ↓wC, ↓wV, ↓wBin, ↓wACons, ↓wANil, ↓wBi, ↓wCall, ↓wTup, ↓wLst, ↓wB1, ↓wNot, ↓wOr, ↓wAnd, ↓wTru, ↓wEAnd, ↓wENot, ↓wChain, ↓wIf, ↓wAsg, ↓wGN, ↓wRet, ↓wNx, ↓wDrop, ↓wAdd, ↓wSub, ↓wCmp, Ev.eq_int, ↓wEqI, ↓wNeI, y1, y2, y3, y4, y5, y6, y7, y8, y9, y10, y11, y12, y13, y14, y15, y16, y17, y18, y19, y20, y21, y22, y23, y24, y25, y26, y27, y28, y29, y30, y31, y32, y33, y34, y35, y36, y37, y38, y39, y40, y41, tru1, tru2, tru3, tru5, tru6, isD1, isD2, beq1, beq2, beq3, beq4, ty1, ty2, ty3, ty4, ty5, ty6, ty7, it00, it01, it02, it03, it04, it05, it10, it11, it12, it13, it14, it15, it20, it21, it22, it23, it24, it25, it30, it31, it32, it33, it34, it35, it40, it41, it42, it43, it44, it45, it50, it51, it52, it53, it54, it55, it60, it61, it62, it63, it64, it65, im0, im1, im2, im3, im4, im5, ↓xSeq, ↓xIx, seq_tup, seq_obj, lst_obj, ↓xLenT, ↓xLenO, ↓xListT, ↓xListO, ↓xTupleT, ↓xTupleO, ↓xIntI, ↓xIntB, ↓xAbs, ↓xMax2, ↓xMin2, ↓xMod, ↓xDiv, ↓xMulL, ↓xMulR, cut_to, cut_from, cut_all, cut_ft, cut_m1, rep_flat, ↓xRepT, ↓xRepL, ↓xAddT, ↓xAddO, ↓xIs, ↓xEq, ↓xNe, ↓xBIs, ↓xMt, isL_obj, ↓xApp, ↓xRev, ↓xSl, ↓xON, ↓xOS, ↓xSlT, ↓xSlO, ↓xRevL, ↓xRevT, ↓xNeg, ↓xMkT, ↓xMkL, ↓xGT, ↓xGC, ↓xGNil, ↓xGIx, ↓xSetD, ↓xEIf, ↓xEOr, ↓xD0, ↓xNever, ↓xRetN, ↓xBrk, ↓xCnt, ↓xAug, at_nn, ixN_nn, app_lt, app_eq, set_eq, set_ne, set_app, ↓xFor, ↓xR1, ↓xR2, ↓xTupF, ↓xEn, rngC, rngC2, ↓xForL, ↓xNox, ↓xNoxF, ↓xTry, ↓xIsX, ↓xLc, ↓xIK, ↓xIL, ↓xZp, ↓xYes, seq_net, ↓xGTn, ↓xIn, ↓xAllN, ↓xTupN, ↓xOrV, ↓xLrng, rngL, ↓xR3, ↓xForG, ↓xIRv, ↓xTryR, ↓xGDix, ↓xRr, ↓xEnL, ↓xEnL0, ↓xDc, ↓xTupG, ↓xU, ↓xZp3, ↓xLrev, ↓xLrng2, rngL2, ↓xAugM, mulC, ↓xShl1, ↓xR3p, ↓xDivW, Int.reduceToNat, Nat.reduceAdd, Nat.reduceLT, Nat.reduceLeDiff, Int.reduceAdd, Int.reduceNeg, Nat.reduceEqDiff, reduceCtorEq, reduceIte, Int.reduceLT, Int.reduceLE, Int.reduceEq, Int.reduceSub, Int.reduceMul, beq_self_eq_true, $s,*])
variable {ns : List Int} {μ μ' μ'' : Store} {ρ : Ro}
inductive Dt (μ : Store) : D → Prop
  | non : Dt μ .non
  | bl (b : Bool) : Dt μ (.bl b)
  | int (i : Int) : Dt μ (.int i)
  | str (x : Str) : Dt μ (.str x)
  | tup {xs : List D} : (∀ x ∈ xs, Dt μ x) → Dt μ (.tup xs)
  | obl {i : Nat} {xs : List D} : μ[i]? = some (.lst xs) → Dt μ (.ob i)
  | obd {i : Nat} {kvs : List (Key × D)} : μ[i]? = some (.dic kvs) → Dt μ (.ob i)
  | scr : Dt μ .scr
theorem Dt.ty {d : D} (h : Dt μ d) : ∃ t, tyN μ d = some t := by
  cases h with
  | @obl i xs e => exact ⟨"list", by simp [tyN, e]⟩
  | @obd i kvs e => exact ⟨"dict", by simp [tyN, e]⟩
  | _ => exact ⟨_, rfl⟩
def isI : D → Bool
  | .int _ => true
  | _ => false
def isT : D → Bool
  | .tup _ => true
  | _ => false
theorem is_int {d : D} (h : Dt μ d) : bIs [d, .ty "int"] μ = .ok (.bl (isI d || (match d with | .bl _ => true | _ => false))) μ := by
  cases h with
  | @obl i xs e => simp [bIs, tyN, e, isTys, isTab, isI]
  | @obd i kvs e => simp [bIs, tyN, e, isTys, isTab, isI]
  | _ => simp [bIs, tyN, isTys, isTab, isI]
theorem is_bool {d : D} (h : Dt μ d) : bIs [d, .ty "bool"] μ = .ok (.bl (match d with | .bl _ => true | _ => false)) μ := by
  cases h with
  | @obl i xs e => simp [bIs, tyN, e, isTys, isTab]
  | @obd i kvs e => simp [bIs, tyN, e, isTys, isTab]
  | _ => simp [bIs, tyN, isTys, isTab]
theorem is_tuple {d : D} (h : Dt μ d) : bIs [d, .ty "tuple"] μ = .ok (.bl (isT d)) μ := by
  cases h with
  | @obl i xs e => simp [bIs, tyN, e, isTys, isTab, isT]
  | @obd i kvs e => simp [bIs, tyN, e, isTys, isTab, isT]
  | _ => simp [bIs, tyN, isTys, isTab, isT]
theorem whole_any {d : D} (h : Dt μ d) : f_is_whole ns [d] μ = .ok (.bl (isI d)) μ := by
  refine run_rt rfl (sret_ok ?_)
  show eAnd _ _ [some d] μ = _
  have e1 := is_int h
  have e2 := is_bool h
  cases h <;> simp [eAnd, eNotB, eBi, aCons, aNil, eVar, eC, R.bind, e1, e2, isI] at e1 e2 ⊢ <;> simp [e1, e2, R.bind]
def betw (lo hi : Int) : D → Bool
  | .int i => decide (lo ≤ i) && decide (i ≤ hi)
  | _ => false
theorem between_any {d : D} {lo hi : Int} (h : Dt μ d) : f_is_between ns [d, .int lo, .int hi] μ = .ok (.bl (betw lo hi d)) μ := by
  refine run_rt rfl (sret_ok ?_)
  show eAnd _ _ [some d, some (.int lo), some (.int hi)] μ = _
  have e := whole_any (ns := ns) h
  cases h with
  | int i =>
    by_cases h1 : lo ≤ i <;> by_cases h2 : i ≤ hi <;> simp [eAnd, eCall, aCons, aNil, eVar, R.bind, e, isI, eChain, opCmp, betw, h1, h2]
  | _ => simp [eAnd, eCall, aCons, aNil, eVar, R.bind, e, isI, betw]
theorem run_ex {np n : Nat} {body : SF} {ds : List D} {e : Exc} {m : Store} (hl : ds.length = np) (h : body (ds.map some ++ List.replicate (n - ds.length) none) μ = .ex e m) : Ev.run np n body ds μ = .ex e m := by
  unfold Ev.run; rw [if_pos hl, h]; rfl
theorem look_no {d : D} (h : Dt μ d) (hb : betw 1 64 d = false) : f_look_at_width ns [d] μ = .ex (.mk "NoWidth" []) μ := by
  have eb := between_any (ns := ns) (lo := 1) (hi := 64) h
  refine run_ex rfl ?_
  show b_look_at_width ns [some d] μ = _
  unfold b_look_at_width b_look_at_width_0b
  simp [sIf, tNotF, tTru, eCall, noxF, aCons, aNil, eVar, eC, R.bind, eb, hb, nox_ok, truD, sRaise]
theorem steps_no {d : D} (h : Dt μ d) (hb : betw 1 64 d = false) : f_by_steps ns [d] μ = .ex (.mk "NoWidth" []) μ := by
  have eb := look_no (ns := ns) h hb
  refine run_ex rfl ?_
  show b_by_steps ns [some d] μ = _
  unfold b_by_steps sSeq
  simp [sDrop, eCall, aCons, aNil, eVar, R.bind, eb]
theorem one_no {d : D} (h : Dt μ d) (hb : betw 1 64 d = false) : f_by_one 66 ns [d] μ = .ex (.mk "NoWidth" []) μ := by
  have eb := look_no (ns := ns) h hb
  refine run_ex rfl ?_
  show b_by_one _ ns [some d] μ = _
  unfold b_by_one sSeq
  simp [sDrop, eCall, aCons, aNil, eVar, R.bind, eb]
theorem halves_no {d : D} (h : Dt μ d) (hb : betw 1 64 d = false) : f_by_halves 8 ns [d] μ = .ex (.mk "NoWidth" []) μ := by
  have eb := look_no (ns := ns) h hb
  refine run_ex rfl ?_
  show b_by_halves _ ns [some d, none] μ = _
  unfold b_by_halves sSeq
  simp [sDrop, eCall, aCons, aNil, eVar, R.bind, eb]
theorem pairs_no {d : D} (h : Dt μ d) (hb : betw 1 64 d = false) : f_by_pairs 8 ns [d] μ = .ex (.mk "NoWidth" []) μ := by
  have eb := look_no (ns := ns) h hb
  refine run_ex rfl ?_
  show b_by_pairs _ ns [some d] μ = _
  unfold b_by_pairs sSeq
  simp [sDrop, eCall, aCons, aNil, eVar, R.bind, eb]
theorem twos_no {d : D} (h : Dt μ d) (hb : betw 1 64 d = false) : f_by_twos ns [d] μ = .ex (.mk "NoWidth" []) μ := by
  have eb := look_no (ns := ns) h hb
  refine run_ex rfl ?_
  show b_by_twos ns [some d] μ = _
  unfold b_by_twos sSeq
  simp [sDrop, eCall, aCons, aNil, eVar, R.bind, eb]
theorem spared_no {d s : D} (h : Dt μ d) (hb : betw 1 64 d = false) : f_spared 8 ns [d, s] μ = .ex (.mk "NoWidth" []) μ := by
  have eb := look_no (ns := ns) h hb
  refine run_ex rfl ?_
  show b_spared _ ns [some d, some s, none] μ = _
  unfold b_spared sSeq
  simp [sDrop, eCall, aCons, aNil, eVar, R.bind, eb]
theorem blocks_no {d s : D} (h : Dt μ d) (hb : betw 1 64 d = false) : f_by_blocks ns [d, s] μ = .ex (.mk "NoWidth" []) μ := by
  have eb := look_no (ns := ns) h hb
  refine run_ex rfl ?_
  show b_by_blocks ns [some d, some s, none, none] μ = _
  unfold b_by_blocks sSeq
  simp [sDrop, eCall, aCons, aNil, eVar, R.bind, eb]
theorem spared_no2 {w : Nat} {s : D} (h1 : 1 ≤ w) (h2 : w ≤ 64) (h : Dt μ s) (hb : betw 0 6 s = false) : f_spared 8 ns [.int (w : Nat), s] μ = .ex (.mk "NoSpare" []) μ := by
  have el := e_look (ns := ns) (μ := μ) h1 h2
  have eb := between_any (ns := ns) (lo := 0) (hi := 6) h
  refine run_ex rfl ?_
  show b_spared _ ns [some (.int (w : Nat)), some s, none] μ = _
  unfold b_spared b_spared_1 b_spared_1b sSeq
  simp [sDrop, sIf, tNotF, tTru, eCall, noxF, aCons, aNil, eVar, eC, R.bind, el, eb, hb, nox_ok, truD, sRaise]
theorem blocks_no2 {w : Nat} {s : D} (h1 : 1 ≤ w) (h2 : w ≤ 64) (h : Dt μ s) (hb : betw 1 64 s = false) : f_by_blocks ns [.int (w : Nat), s] μ = .ex (.mk "NoSize" []) μ := by
  have el := e_look (ns := ns) (μ := μ) h1 h2
  have eb := between_any (ns := ns) (lo := 1) (hi := 64) h
  refine run_ex rfl ?_
  show b_by_blocks ns [some (.int (w : Nat)), some s, none, none] μ = _
  unfold b_by_blocks b_by_blocks_1 b_by_blocks_1b sSeq
  simp [sDrop, sIf, tNotF, tTru, eCall, noxF, aCons, aNil, eVar, eC, R.bind, el, eb, hb, nox_ok, truD, sRaise]
theorem made_k {k : Nat} {d x : D} (hk : k < 7) : f_law_made ns [.int (k : Nat), d, x] μ = (match k with | 0 => f_by_steps ns [d] μ | 1 => f_by_one 66 ns [d] μ | 2 => f_by_halves 8 ns [d] μ | 3 => f_by_pairs 8 ns [d] μ | 4 => f_by_twos ns [d] μ | 5 => f_spared 8 ns [d, x] μ | _ => f_by_blocks ns [d, x] μ) := by
  unfold f_law_made Ev.run
  rw [if_pos (show [D.int (k : Nat), d, x].length = 3 from rfl)]
  show (b_law_made ns [some (.int (k : Nat)), some d, some x] μ).bind _ = _
  have te : ∀ a b : Int, opEq ns (.int a) (.int b) μ = .ok (.bl (decide (a = b))) μ := fun a b => by unfold opEq; rw [Ev.eq_int]
  match k, hk with
  | 0, _ => cases h : f_by_steps ns [d] μ <;> simp [b_law_made, sSeq, sIf, tB1, eBin, eVar, eC, R.bind, te, sRet, eCall, aCons, aNil, h]
  | 1, _ => cases h : f_by_one 66 ns [d] μ <;> simp [b_law_made, b_law_made_1, sSeq, sIf, tB1, eBin, eVar, eC, R.bind, te, sRet, sNext, eCall, aCons, aNil, h]
  | 2, _ => cases h : f_by_halves 8 ns [d] μ <;> simp [b_law_made, b_law_made_1, b_law_made_2, sSeq, sIf, tB1, eBin, eVar, eC, R.bind, te, sRet, sNext, eCall, aCons, aNil, h]
  | 3, _ => cases h : f_by_pairs 8 ns [d] μ <;> simp [b_law_made, b_law_made_1, b_law_made_2, b_law_made_3, sSeq, sIf, tB1, eBin, eVar, eC, R.bind, te, sRet, sNext, eCall, aCons, aNil, h]
  | 4, _ => cases h : f_by_twos ns [d] μ <;> simp [b_law_made, b_law_made_1, b_law_made_2, b_law_made_3, b_law_made_4, sSeq, sIf, tB1, eBin, eVar, eC, R.bind, te, sRet, sNext, eCall, aCons, aNil, h]
  | 5, _ => cases h : f_spared 8 ns [d, x] μ <;> simp [b_law_made, b_law_made_1, b_law_made_2, b_law_made_3, b_law_made_4, b_law_made_5, b_law_made_5b, sSeq, sIf, tB1, eBin, eVar, eC, R.bind, te, sRet, sNext, eCall, aCons, aNil, h]
  | 6, _ => cases h : f_by_blocks ns [d, x] μ <;> simp [b_law_made, b_law_made_1, b_law_made_2, b_law_made_3, b_law_made_4, b_law_made_5, b_law_made_6, sSeq, sIf, tB1, eBin, eVar, eC, R.bind, te, sRet, sNext, eCall, aCons, aNil, h]
end
end LW

end
section
set_option Elab.async false
set_option linter.all false
set_option maxRecDepth 100000
set_option maxHeartbeats 1000000
namespace LW
open PySem PySem.Spec PyProof.Rows L2 Ev Xc
section
local macro_rules | `(tactic| simp! only [$s,*]) => `(tactic| try simp (disch := (first | assumption | omega | (simp only [List.length_cons, List.length_nil, List.length_append, List.length_map, List.length_set, List.length_replicate, List.length_take, List.length_drop, List.length_reverse, List.length_range] <;> omega) | fail)) only [↓wOk, ↓wBad, ↓wExc, ↓wC, ↓wV, ↓wBin, ↓wACons, ↓wANil, ↓wBi, ↓wCall, ↓wTup, ↓wLst, ↓wB1, ↓wNot, ↓wOr, ↓wAnd, ↓wTru, ↓wEAnd, ↓wENot, ↓wChain, ↓wIf, ↓wAsg, ↓wGN, ↓wRet, ↓wNx, ↓wDrop, ↓wAdd, ↓wSub, ↓wCmp, Ev.eq_int, ↓wEqI, ↓wNeI, y1, y2, y3, y4, y5, y6, y7, y8, y9, y10, y11, y12, y13, y14, y15, y16, y17, y18, y19, y20, y21, y22, y23, y24, y25, y26, y27, y28, y29, y30, y31, y32, y33, y34, y35, y36, y37, y38, y39, y40, y41, tru1, tru2, tru3, tru5, tru6, isD1, isD2, beq1, beq2, beq3, beq4, ty1, ty2, ty3, ty4, ty5, ty6, ty7, it00, it01, it02, it03, it04, it05, it10, it11, it12, it13, it14, it15, it20, it21, it22, it23, it24, it25, it30, it31, it32, it33, it34, it35, it40, it41, it42, it43, it44, it45, it50, it51, it52, it53, it54, it55, it60, it61, it62, it63, it64, it65, im0, im1, im2, im3, im4, im5, ↓xSeq, ↓xIx, seq_tup, seq_obj, lst_obj, ↓xLenT, ↓xLenO, ↓xListT, ↓xListO, ↓xTupleT, ↓xTupleO, ↓xIntI, ↓xIntB, ↓xAbs, ↓xMax2, ↓xMin2, ↓xMod, ↓xDiv, ↓xMulL, ↓xMulR, cut_to, cut_from, cut_all, cut_ft, cut_m1, rep_flat, ↓xRepT, ↓xRepL, ↓xAddT, ↓xAddO, ↓xIs, ↓xEq, ↓xNe, ↓xBIs, ↓xMt, isL_obj, ↓xApp, ↓xRev, ↓xSl, ↓xON, ↓xOS, ↓xSlT, ↓xSlO, ↓xRevL, ↓xRevT, ↓xNeg, ↓xMkT, ↓xMkL, ↓xGT, ↓xGC, ↓xGNil, ↓xGIx, ↓xSetD, ↓xEIf, ↓xEOr, ↓xD0, ↓xNever, ↓xRetN, ↓xBrk, ↓xCnt, ↓xAug, at_nn, ixN_nn, app_lt, app_eq, set_eq, set_ne, set_app, ↓xFor, ↓xR1, ↓xR2, ↓xTupF, ↓xEn, rngC, rngC2, ↓xForL, ↓xNox, ↓xNoxF, ↓xTry, ↓xIsX, ↓xLc, ↓xIK, ↓xIL, ↓xZp, ↓xYes, seq_net, ↓xGTn, ↓xIn, ↓xAllN, ↓xTupN, ↓xOrV, ↓xLrng, rngL, ↓xR3, ↓xForG, ↓xIRv, ↓xTryR, ↓xGDix, ↓xRr, ↓xEnL, ↓xEnL0, ↓xDc, ↓xTupG, ↓xU, ↓xZp3, ↓xLrev, ↓xLrng2, rngL2, ↓xAugM, mulC, ↓xShl1, ↓xR3p, ↓xDivW, Int.reduceToNat, Nat.reduceAdd, Nat.reduceLT, Nat.reduceLeDiff, Int.reduceAdd, Int.reduceNeg, Nat.reduceEqDiff, reduceCtorEq, reduceIte, Int.reduceLT, Int.reduceLE, Int.reduceEq, Int.reduceSub, Int.reduceMul, beq_self_eq_true, $s,*])
variable {ns : List Int} {μ μ' μ'' : Store} {ρ : Ro}
theorem w_lprs {w : Nat} {P : D → Store → Prop} (hw : w ≤ 64) (hP : ∀ m, Ex0 μ m → P (.tup ((prs2 w).map paD)) m) : Ok (f_law_pairs ns [.int (w : Nat)] μ) P := by
  refine ok_run rfl ?_
  show Ok (b_law_pairs ns [some (.int (w : Nat)), none] μ) _
  have d1 : ((w : Nat) : Int) / 2 ≤ 100 := by omega
  have d2 : -100 ≤ ((w : Nat) : Int) / 2 := by omega
  simp! only [b_law_pairs, pd2]
  rw [show (((w : Nat) : Int) / 2).toNat = w / 2 by omega]
  have hl : (List.replicate (w / 2) (paD (.st 2))).length ≤ 100 := by simp; omega
  simp! only [b_law_pairs_1]
  refine ⟨fun h => ?_, fun h => ?_⟩
  · have h := of_decide_eq_true h
    simp! only [b_law_pairs_1b, pd1]
    simp! only [b_law_pairs_2]
    have e : (prs2 w).map paD = List.replicate (w / 2) (paD (.st 2)) ++ [paD (.st 1)] := by
      unfold prs2
      rw [List.map_append, List.map_replicate, List.map_replicate, show w % 2 = 1 by omega]; rfl
    rw [← e]
    exact hP _ ((ex_app _).app _)
  · have h := of_decide_eq_false h
    simp! only [b_law_pairs_2]
    have e : (prs2 w).map paD = List.replicate (w / 2) (paD (.st 2)) := by
      unfold prs2
      rw [List.map_append, List.map_replicate, List.map_replicate, show w % 2 = 0 by omega, List.replicate_zero, List.append_nil]
    rw [← e]
    exact hP _ ((ex_app _).app _)
theorem half_i {w : Nat} : ((w : Nat) : Int) - ((w : Nat) : Int) / 2 = ((w + 1) / 2 : Nat) := by omega
theorem rest_i {w : Nat} : ((w : Nat) : Int) / 2 = (w - (w + 1) / 2 : Nat) := by omega
theorem r_st {k : Int} {g : Fn} {w : Nat} {x : D} {a4 a5 a6 : Option D} {Q : Fl → Store → Prop} (h : w ≤ 2) (hQ : Q (.rt (paD (.st w))) μ) : Ok (b_law_rule g ns [some (.int k), some (.int (w : Nat)), some x, none, a4, a5, a6] μ) Q := by
  have c : decide (((w : Nat) : Int) < 3) = true := decide_eq_true (by omega)
  simp! only [b_law_rule]
  simp! only [b_law_rule_1, c]
  simp! only [b_law_rule_1b, pdn]
  exact hQ
theorem w_r1 : ∀ (n w : Nat) (μ : Store) (P : D → Store → Prop), 1 ≤ w → w ≤ 64 → w ≤ n + 1 → 1 ≤ n → (∀ m, Ex0 μ m → P (paD (byO n w)) m) → Ok (f_law_rule n ns [.int 1, .int (w : Nat), .int 0] μ) P := by
  intro n
  induction n with
  | zero => intro w μ P _ _ _ h; omega
  | succ n ih =>
    intro w μ P h1 h2 hn _ hP
    refine ok_run rfl ?_
    show Ok (b_law_rule (f_law_rule n ns) ns [some (.int 1), some (.int (w : Nat)), some (.int 0), none, none, none, none] μ) _
    by_cases hw : w ≤ 2
    · refine r_st hw ?_
      have := hP μ Ex.refl
      rwa [byO, if_pos hw] at this
    · have c : decide (((w : Nat) : Int) < 3) = false := decide_eq_false (by omega)
      simp! only [b_law_rule]
      simp! only [b_law_rule_1, c]
      simp! only [b_law_rule_2]
      simp! only [b_law_rule_2b]
      rw [show ((w : Nat) : Int) - 1 = (w - 1 : Nat) by omega]
      refine ih (w - 1) μ _ (by omega) (by omega) (by omega) (by omega) fun m e => ?_
      simp! only [pd1, pd2]
      have := hP m e
      rw [byO, if_neg hw, frc_eq, paD_bl] at this
      exact this
theorem w_r2 : ∀ (n k w : Nat) (μ : Store) (P : D → Store → Prop), 1 ≤ w → w ≤ 64 → w ≤ 2 ^ n → 1 ≤ n → (∀ m, Ex0 μ m → P (paD (byH n w)) m) → Ok (f_law_rule (n + k) ns [.int 2, .int (w : Nat), .int 0] μ) P := by
  intro n k
  induction n with
  | zero => intro w μ P _ _ _ h; omega
  | succ n ih =>
    intro w μ P h1 h2 hn _ hP
    rw [show n + 1 + k = (n + k) + 1 by omega]
    refine ok_run rfl ?_
    show Ok (b_law_rule (f_law_rule (n + k) ns) ns [some (.int 2), some (.int (w : Nat)), some (.int 0), none, none, none, none] μ) _
    by_cases hw : w ≤ 2
    · refine r_st hw ?_
      have := hP μ Ex.refl
      rwa [byH_st hw] at this
    · have c : decide (((w : Nat) : Int) < 3) = false := decide_eq_false (by omega)
      rw [Nat.pow_succ] at hn
      have n1 : 1 ≤ n := by
        cases n with
        | zero => simp at hn; omega
        | succ n => omega
      simp! only [b_law_rule]
      rw [half_i]
      simp! only [b_law_rule_1, c]
      simp! only [b_law_rule_2]
      simp! only [b_law_rule_3]
      simp! only [b_law_rule_3b]
      refine ih ((w + 1) / 2) μ _ (by omega) (by omega) (by omega) n1 fun m1 e1 => ?_
      simp! only [y1]
      rw [rest_i]
      refine ih (w - (w + 1) / 2) m1 _ (by omega) (by omega) (by omega) n1 fun m2 e2 => ?_
      simp! only [pd2]
      have := hP m2 (e1.trans e2)
      rw [byH_bl hw, paD_bl] at this
      exact this
theorem w_r3 : ∀ (n k w : Nat) (μ : Store) (P : D → Store → Prop), 1 ≤ w → w ≤ 64 → w ≤ 2 ^ n → 1 ≤ n → (∀ m, Ex0 μ m → P (paD (byP n w)) m) → Ok (f_law_rule (n + k) ns [.int 3, .int (w : Nat), .int 0] μ) P := by
  intro n k
  induction n with
  | zero => intro w μ P _ _ _ h; omega
  | succ n ih =>
    intro w μ P h1 h2 hn _ hP
    rw [show n + 1 + k = (n + k) + 1 by omega]
    refine ok_run rfl ?_
    show Ok (b_law_rule (f_law_rule (n + k) ns) ns [some (.int 3), some (.int (w : Nat)), some (.int 0), none, none, none, none] μ) _
    by_cases hw : w ≤ 2
    · refine r_st hw ?_
      have := hP μ Ex.refl
      rwa [byP, if_pos hw] at this
    · have c : decide (((w : Nat) : Int) < 3) = false := decide_eq_false (by omega)
      rw [Nat.pow_succ] at hn
      have n1 : 1 ≤ n := by
        cases n with
        | zero => simp at hn; omega
        | succ n => omega
      simp! only [b_law_rule]
      rw [half_i]
      simp! only [b_law_rule_1, c]
      simp! only [b_law_rule_2]
      simp! only [b_law_rule_3]
      simp! only [b_law_rule_4]
      simp! only [b_law_rule_4b]
      refine ih ((w + 1) / 2) μ _ (by omega) (by omega) (by omega) n1 fun m1 e1 => ?_
      simp! only [y1]
      refine w_lprs h2 fun m2 e2 => ?_
      simp! only [y1]
      have := hP m2 (e1.trans e2)
      rw [byP, if_neg hw, frc_eq, paD_bl] at this
      exact this
theorem w_r4 {n w : Nat} {P : D → Store → Prop} (h1 : 1 ≤ w) (h2 : w ≤ 64) (hP : ∀ m, Ex0 μ m → P (paD (byT w)) m) : Ok (f_law_rule (n + 1) ns [.int 4, .int (w : Nat), .int 0] μ) P := by
  refine ok_run rfl ?_
  show Ok (b_law_rule (f_law_rule n ns) ns [some (.int 4), some (.int (w : Nat)), some (.int 0), none, none, none, none] μ) _
  by_cases hw : w ≤ 2
  · refine r_st hw ?_
    have := hP μ Ex.refl
    rwa [byT, if_pos hw] at this
  · have c : decide (((w : Nat) : Int) < 3) = false := decide_eq_false (by omega)
    simp! only [b_law_rule]
    rw [half_i]
    simp! only [b_law_rule_1, c]
    simp! only [b_law_rule_2]
    simp! only [b_law_rule_3]
    simp! only [b_law_rule_4]
    simp! only [b_law_rule_5]
    simp! only [b_law_rule_5b, pdn]
    refine w_lprs h2 fun m2 e2 => ?_
    simp! only [y1]
    have := hP m2 e2
    rw [byT, if_neg hw, paD_bl] at this
    exact this
theorem w_r0 {n w : Nat} {P : D → Store → Prop} (hP : P (paD (.st w)) μ) : Ok (f_law_rule (n + 1) ns [.int 0, .int (w : Nat), .int 0] μ) P := by
  refine ok_run rfl ?_
  show Ok (b_law_rule (f_law_rule n ns) ns [some (.int 0), some (.int (w : Nat)), some (.int 0), none, none, none, none] μ) _
  simp! only [b_law_rule]
  simp! only [b_law_rule_1]
  simp! only [b_law_rule_1b, pdn]
  refine ⟨fun _ => hP, fun _ => hP⟩
theorem w_r5 : ∀ (n k w s : Nat) (μ : Store) (P : D → Store → Prop), 1 ≤ w → w ≤ 64 → w ≤ 2 ^ n → 1 ≤ n → s ≤ 6 → (∀ m, Ex0 μ m → P (paD (spr n w s)) m) → Ok (f_law_rule (n + k) ns [.int 5, .int (w : Nat), .int (s : Nat)] μ) P := by
  intro n k
  induction n with
  | zero => intro w s μ P _ _ _ h; omega
  | succ n ih =>
    intro w s μ P h1 h2 hn _ hs hP
    rw [show n + 1 + k = (n + k) + 1 by omega]
    refine ok_run rfl ?_
    show Ok (b_law_rule (f_law_rule (n + k) ns) ns [some (.int 5), some (.int (w : Nat)), some (.int (s : Nat)), none, none, none, none] μ) _
    by_cases hw : w ≤ 2
    · refine r_st hw ?_
      have := hP μ Ex.refl
      rwa [spr, if_pos hw] at this
    · have c : decide (((w : Nat) : Int) < 3) = false := decide_eq_false (by omega)
      rw [Nat.pow_succ] at hn
      have n1 : 1 ≤ n := by
        cases n with
        | zero => simp at hn; omega
        | succ n => omega
      simp! only [b_law_rule]
      rw [half_i]
      simp! only [b_law_rule_1, c]
      simp! only [b_law_rule_2]
      simp! only [b_law_rule_3]
      simp! only [b_law_rule_4]
      simp! only [b_law_rule_5]
      by_cases hz : s = 0
      · have c0 : decide (((s : Nat) : Int) = 0) = true := decide_eq_true (by omega)
        simp! only [b_law_rule_6, c0]
        simp! only [b_law_rule_6b]
        refine ih ((w + 1) / 2) 1 μ _ (by omega) (by omega) (by omega) n1 (by omega) fun m1 e1 => ?_
        simp! only [y1]
        rw [rest_i]
        refine ih (w - (w + 1) / 2) 0 m1 _ (by omega) (by omega) (by omega) n1 (by omega) fun m2 e2 => ?_
        simp! only [pd2]
        have := hP m2 (e1.trans e2)
        rw [spr, if_neg hw, frc_eq, frc_eq, if_pos hz, paD_bl] at this
        exact this
      · have c0 : decide (((s : Nat) : Int) = 0) = false := decide_eq_false (by omega)
        simp! only [b_law_rule_6, c0]
        simp! only [b_law_rule_7]
        simp! only [b_law_rule_7b]
        rw [show ((s : Nat) : Int) - 1 = (s - 1 : Nat) by omega]
        refine ih ((w + 1) / 2) (s - 1) μ _ (by omega) (by omega) (by omega) n1 (by omega) fun m1 e1 => ?_
        simp! only [y1]
        refine w_lprs h2 fun m2 e2 => ?_
        simp! only [y1]
        have := hP m2 (e1.trans e2)
        rw [spr, if_neg hw, frc_eq, frc_eq, if_neg hz, frc_eq, paD_bl] at this
        exact this
end
end LW

end
section
set_option Elab.async false
set_option linter.all false
set_option maxRecDepth 100000
set_option maxHeartbeats 1000000
namespace LW
open PySem PySem.Spec PyProof.Rows L2 Ev Xc
section
local macro_rules | `(tactic| simp! only [$s,*]) => `(tactic| try simp (disch := (first | assumption | omega | (simp only [List.length_cons, List.length_nil, List.length_append, List.length_map, List.length_set, List.length_replicate, List.length_take, List.length_drop, List.length_reverse, List.length_range] <;> omega) | fail)) only [↓wOk, ↓wBad, ↓wExc, ↓wC, ↓wV, ↓wBin, ↓wACons, ↓wANil, ↓wBi, ↓wCall, ↓wTup, ↓wLst, ↓wB1, ↓wNot, ↓wOr, ↓wAnd, ↓wTru, ↓wEAnd, ↓wENot, ↓wChain, ↓wIf, ↓wAsg, ↓wGN, ↓wRet, ↓wNx, ↓wDrop, ↓wAdd, ↓wSub, ↓wCmp, Ev.eq_int, ↓wEqI, ↓wNeI, y1, y2, y3, y4, y5, y6, y7, y8, y9, y10, y11, y12, y13, y14, y15, y16, y17, y18, y19, y20, y21, y22, y23, y24, y25, y26, y27, y28, y29, y30, y31, y32, y33, y34, y35, y36, y37, y38, y39, y40, y41, tru1, tru2, tru3, tru5, tru6, isD1, isD2, beq1, beq2, beq3, beq4, ty1, ty2, ty3, ty4, ty5, ty6, ty7, it00, it01, it02, it03, it04, it05, it10, it11, it12, it13, it14, it15, it20, it21, it22, it23, it24, it25, it30, it31, it32, it33, it34, it35, it40, it41, it42, it43, it44, it45, it50, it51, it52, it53, it54, it55, it60, it61, it62, it63, it64, it65, im0, im1, im2, im3, im4, im5, ↓xSeq, ↓xIx, seq_tup, seq_obj, lst_obj, ↓xLenT, ↓xLenO, ↓xListT, ↓xListO, ↓xTupleT, ↓xTupleO, ↓xIntI, ↓xIntB, ↓xAbs, ↓xMax2, ↓xMin2, ↓xMod, ↓xDiv, ↓xMulL, ↓xMulR, cut_to, cut_from, cut_all, cut_ft, cut_m1, rep_flat, ↓xRepT, ↓xRepL, ↓xAddT, ↓xAddO, ↓xIs, ↓xEq, ↓xNe, ↓xBIs, ↓xMt, isL_obj, ↓xApp, ↓xRev, ↓xSl, ↓xON, ↓xOS, ↓xSlT, ↓xSlO, ↓xRevL, ↓xRevT, ↓xNeg, ↓xMkT, ↓xMkL, ↓xGT, ↓xGC, ↓xGNil, ↓xGIx, ↓xSetD, ↓xEIf, ↓xEOr, ↓xD0, ↓xNever, ↓xRetN, ↓xBrk, ↓xCnt, ↓xAug, at_nn, ixN_nn, app_lt, app_eq, set_eq, set_ne, set_app, ↓xFor, ↓xR1, ↓xR2, ↓xTupF, ↓xEn, rngC, rngC2, ↓xForL, ↓xNox, ↓xNoxF, ↓xTry, ↓xIsX, ↓xLc, ↓xIK, ↓xIL, ↓xZp, ↓xYes, seq_net, ↓xGTn, ↓xIn, ↓xAllN, ↓xTupN, ↓xOrV, ↓xLrng, rngL, ↓xR3, ↓xForG, ↓xIRv, ↓xTryR, ↓xGDix, ↓xRr, ↓xEnL, ↓xEnL0, ↓xDc, ↓xTupG, ↓xU, ↓xZp3, ↓xLrev, ↓xLrng2, rngL2, ↓xAugM, mulC, ↓xShl1, ↓xR3p, ↓xDivW, Int.reduceToNat, Nat.reduceAdd, Nat.reduceLT, Nat.reduceLeDiff, Int.reduceAdd, Int.reduceNeg, Nat.reduceEqDiff, reduceCtorEq, reduceIte, Int.reduceLT, Int.reduceLE, Int.reduceEq, Int.reduceSub, Int.reduceMul, beq_self_eq_true, $s,*])
variable {ns : List Int} {μ μ' μ'' : Store} {ρ : Ro}
def sz (w z : Nat) : List Nat := (List.range ((w - 1) / z + 1)).map fun k => min z (w - k * z)
theorem sz_bkn : ∀ w : Nat, w < 65 → ∀ z : Nat, z < 65 → 1 ≤ w → 1 ≤ z → sz w z = bkn w z := by decide +kernel
theorem w_r6 {k w z : Nat} {P : D → Store → Prop} (h1 : 1 ≤ w) (h2 : w ≤ 64) (z1 : 1 ≤ z) (z2 : z ≤ 64) (hP : ∀ m, Ex0 μ m → P (paD (byB w z)) m) : Ok (f_law_rule (8 + k + 1) ns [.int 6, .int (w : Nat), .int (z : Nat)] μ) P := by
  refine ok_run rfl ?_
  show Ok (b_law_rule (f_law_rule (8 + k) ns) ns [some (.int 6), some (.int (w : Nat)), some (.int (z : Nat)), none, none, none, none] μ) _
  unfold byB at hP
  by_cases hw : w ≤ 2
  · refine r_st hw ?_
    have := hP μ Ex.refl
    rwa [if_pos (.inl hw)] at this
  · have c : decide (((w : Nat) : Int) < 3) = false := decide_eq_false (by omega)
    simp! only [b_law_rule]
    rw [half_i]
    simp! only [b_law_rule_1, c]
    refine ⟨fun hz => ?_, fun hz => ?_⟩
    · have hz := of_decide_eq_true hz
      simp! only [b_law_rule_1b, pdn]
      have := hP μ Ex.refl
      rwa [if_pos (.inr (by omega))] at this
    · have hz := of_decide_eq_false hz
      rw [if_neg (by omega)] at hP
      simp! only [b_law_rule_2]
      simp! only [b_law_rule_3]
      simp! only [b_law_rule_4]
      simp! only [b_law_rule_5]
      simp! only [b_law_rule_6]
      simp! only [b_law_rule_7]
      simp! only [b_law_rule_8]
      have en : ((((w : Nat) : Int) - 0 - 1) / ((z : Nat) : Int) + 1).toNat = (w - 1) / z + 1 := by
        rw [show ((w : Nat) : Int) - 0 - 1 = ((w - 1 : Nat) : Int) by omega, ← Int.natCast_ediv]; generalize (w - 1) / z = t; omega
      rw [en]
      have hsz := sz_bkn w (by omega) z (by omega) h1 z1
      have hbl : (bks w z).length = (bkn w z).length := by rw [bks_map, List.length_map]
      have q0 := upTo_at l_blk (i := w - 1) (by omega)
      rw [frc_eq] at q0
      have q := upTo_at q0 (i := z - 1) (by omega)
      rw [frc_eq, show w - 1 + 1 = w by omega, show z - 1 + 1 = z by omega] at q
      simp only [Bool.or_eq_true, Bool.and_eq_true, Nat.ble_eq, Nat.beq_eq] at q
      obtain ⟨q1, q2, q3, q4⟩ := q.resolve_left (by omega)
      refine ok_lcM _ ((sz w z).map fun (x : Nat) => D.int (x : Nat)) (by simp [sz]) (by simp) (show (w - 1) / z + 1 ≤ 1000000 from Nat.le_trans (Nat.succ_le_succ (Nat.div_le_self (w - 1) z)) (by omega)) (fun i m hm hk => rfl) (fun i x y m hx hy hm hk => ?_) ?_
      · unfold sz at hy
        rw [List.getElem?_map] at hx
        rw [List.getElem?_map, List.getElem?_map] at hy
        cases hr : (List.range ((w - 1) / z + 1))[i]? with
        | none => rw [hr] at hx; cases hx
        | some j =>
          rw [hr] at hx hy
          cases hx; cases hy
          have hj : j ≤ (w - 1) / z := by
            obtain ⟨l1, l2⟩ := List.getElem?_eq_some_iff.mp hr
            rw [List.getElem_range] at l2
            rw [List.length_range] at l1; omega
          have hjz : j * z ≤ w - 1 := (Nat.le_div_iff_mul_le (by omega)).mp hj
          refine ⟨_, rfl, ?_⟩
          simp only [wipeR]
          simp! only [y1]
          rw [← Int.natCast_mul]
          generalize j * z = t at *
          congr 1
          omega
      simp! only [y1]
      rw [hsz]
      have hl : ((bkn w z).map fun (x : Nat) => D.int (x : Nat)).length = (bkn w z).length := List.length_map ..
      have a0 : (μ ++ [MO.lst ((bkn w z).map fun (x : Nat) => D.int (x : Nat))])[μ.length]? = some (.lst ((bkn w z).map fun (x : Nat) => D.int (x : Nat))) := app_eq rfl
      have x0 : Ex0 μ (μ ++ [MO.lst ((bkn w z).map fun (x : Nat) => D.int (x : Nat))]) := ex_app _
      generalize μ ++ [MO.lst ((bkn w z).map fun (x : Nat) => D.int (x : Nat))] = m0 at *
      generalize μ.length = R at *
      simp! only [b_law_rule_9, a0, hl]
      refine w_r2 8 k (bkn w z).length m0 _ (by omega) (by omega) (by omega) (by decide) fun m1 e1 => ?_
      have a1 := e1.at a0 (fun h => h)
      simp! only [a1, hl]
      refine ok_lcM ((bkn w z).map fun (x : Nat) => D.int (x : Nat)) ((bks w z).map paD) (by rw [List.length_map, List.length_map, hbl]) (by simp) (by omega) (fun i m hm hk => ?_) (fun i x y m hx hy hm hk => ?_) ?_
      · have : lstOf ns m (.ob R) = some ((bkn w z).map fun (x : Nat) => D.int (x : Nat)) := by rw [lst_obj, hk _ (lt_of_at a1), a1]
        unfold nxL
        rw [this]; simp
      · rw [bks_map, List.map_map, List.getElem?_map] at hy
        rw [List.getElem?_map] at hx
        cases hr : (bkn w z)[i]? with
        | none => rw [hr] at hx; cases hx
        | some j =>
          rw [hr] at hx hy
          cases hx; cases hy
          refine ⟨_, rfl, ?_⟩
          simp only [wipeR]
          simp! only [pdn]
          rfl
      simp! only [y1]
      have := hP (m1 ++ [MO.lst ((bks w z).map paD)]) ((x0.trans e1).app _)
      rw [paD_bl, hbl] at this
      exact this
end
end LW

end
section
set_option Elab.async false
set_option linter.all false
set_option maxRecDepth 100000
set_option maxHeartbeats 1000000
namespace LW
open PySem PySem.Spec PyProof.Rows L2 Ev Xc
section
local macro_rules | `(tactic| simp! only [$s,*]) => `(tactic| try simp (disch := (first | assumption | omega | (simp only [List.length_cons, List.length_nil, List.length_append, List.length_map, List.length_set, List.length_replicate, List.length_take, List.length_drop, List.length_reverse, List.length_range] <;> omega) | fail)) only [↓wOk, ↓wBad, ↓wExc, ↓wC, ↓wV, ↓wBin, ↓wACons, ↓wANil, ↓wBi, ↓wCall, ↓wTup, ↓wLst, ↓wB1, ↓wNot, ↓wOr, ↓wAnd, ↓wTru, ↓wEAnd, ↓wENot, ↓wChain, ↓wIf, ↓wAsg, ↓wGN, ↓wRet, ↓wNx, ↓wDrop, ↓wAdd, ↓wSub, ↓wCmp, Ev.eq_int, ↓wEqI, ↓wNeI, y1, y2, y3, y4, y5, y6, y7, y8, y9, y10, y11, y12, y13, y14, y15, y16, y17, y18, y19, y20, y21, y22, y23, y24, y25, y26, y27, y28, y29, y30, y31, y32, y33, y34, y35, y36, y37, y38, y39, y40, y41, tru1, tru2, tru3, tru5, tru6, isD1, isD2, beq1, beq2, beq3, beq4, ty1, ty2, ty3, ty4, ty5, ty6, ty7, it00, it01, it02, it03, it04, it05, it10, it11, it12, it13, it14, it15, it20, it21, it22, it23, it24, it25, it30, it31, it32, it33, it34, it35, it40, it41, it42, it43, it44, it45, it50, it51, it52, it53, it54, it55, it60, it61, it62, it63, it64, it65, im0, im1, im2, im3, im4, im5, ↓xSeq, ↓xIx, seq_tup, seq_obj, lst_obj, ↓xLenT, ↓xLenO, ↓xListT, ↓xListO, ↓xTupleT, ↓xTupleO, ↓xIntI, ↓xIntB, ↓xAbs, ↓xMax2, ↓xMin2, ↓xMod, ↓xDiv, ↓xMulL, ↓xMulR, cut_to, cut_from, cut_all, cut_ft, cut_m1, rep_flat, ↓xRepT, ↓xRepL, ↓xAddT, ↓xAddO, ↓xIs, ↓xEq, ↓xNe, ↓xBIs, ↓xMt, isL_obj, ↓xApp, ↓xRev, ↓xSl, ↓xON, ↓xOS, ↓xSlT, ↓xSlO, ↓xRevL, ↓xRevT, ↓xNeg, ↓xMkT, ↓xMkL, ↓xGT, ↓xGC, ↓xGNil, ↓xGIx, ↓xSetD, ↓xEIf, ↓xEOr, ↓xD0, ↓xNever, ↓xRetN, ↓xBrk, ↓xCnt, ↓xAug, at_nn, ixN_nn, app_lt, app_eq, set_eq, set_ne, set_app, ↓xFor, ↓xR1, ↓xR2, ↓xTupF, ↓xEn, rngC, rngC2, ↓xForL, ↓xNox, ↓xNoxF, ↓xTry, ↓xIsX, ↓xLc, ↓xIK, ↓xIL, ↓xZp, ↓xYes, seq_net, ↓xGTn, ↓xIn, ↓xAllN, ↓xTupN, ↓xOrV, ↓xLrng, rngL, ↓xR3, ↓xForG, ↓xIRv, ↓xTryR, ↓xGDix, ↓xRr, ↓xEnL, ↓xEnL0, ↓xDc, ↓xTupG, ↓xU, ↓xZp3, ↓xLrev, ↓xLrng2, rngL2, ↓xAugM, mulC, ↓xShl1, ↓xR3p, ↓xDivW, Int.reduceToNat, Nat.reduceAdd, Nat.reduceLT, Nat.reduceLeDiff, Int.reduceAdd, Int.reduceNeg, Nat.reduceEqDiff, reduceCtorEq, reduceIte, Int.reduceLT, Int.reduceLE, Int.reduceEq, Int.reduceSub, Int.reduceMul, beq_self_eq_true, $s,*])
variable {ns : List Int} {μ μ' μ'' : Store} {ρ : Ro}
inductive Ts : Nat → D → Prop
  | int {n : Nat} (i : Int) : Ts (n + 1) (.int i)
  | st {n : Nat} : Ts (n + 1) (.str "steps")
  | bl {n : Nat} : Ts (n + 1) (.str "blocks")
  | tup {n : Nat} {xs : List D} : (∀ x ∈ xs, Ts n x) → Ts (n + 1) (.tup xs)
theorem ts_pa : ∀ (n : Nat) (p : Pa), dep p ≤ n → Ts (2 * n) (paD p) := by
  intro n
  induction n with
  | zero => intro p h; cases p <;> (rw [dep] at h; omega)
  | succ n ih =>
    intro p h
    show Ts (2 * n + 1 + 1) _
    cases p with
    | st k =>
      rw [paD_st]
      refine .tup fun x hx => ?_
      simp only [List.mem_cons, List.not_mem_nil, or_false] at hx
      rcases hx with rfl | rfl
      · exact .st
      · exact .int _
    | bl o bs =>
      rw [dep] at h
      rw [paD_bl]
      have up : ∀ {n : Nat} {d : D}, Ts n d → Ts (n + 1) d := by
        intro n d h
        induction h with
        | int i => exact .int i
        | st => exact .st
        | bl => exact .bl
        | tup _ ih => exact .tup ih
      refine .tup fun x hx => ?_
      simp only [List.mem_cons, List.not_mem_nil, or_false] at hx
      rcases hx with rfl | rfl | rfl
      · exact .bl
      · exact up (ih o (by omega))
      · refine .tup fun x hx => ?_
        obtain ⟨b, hb, rfl⟩ := List.mem_map.mp hx
        have db := deps_le.mp (Nat.le_refl (deps bs)) b hb
        exact ih b (by omega)
theorem e_lwhole {i : Int} : f_law_whole ns [.int i] μ = .ok (.bl true) μ := by
  refine eq_of_ok (ok_run rfl ?_)
  show Ok (b_law_whole ns [some (.int i)] μ) _
  simp! only [b_law_whole]
theorem e_same : ∀ (n : Nat) (d : D), Ts n d → f_law_same n ns [d, d] μ = .ok (.bl true) μ := by
  intro n
  induction n with
  | zero => intro d h; cases h
  | succ n ih =>
    intro d h
    refine eq_of_ok (ok_run rfl ?_)
    show Ok (b_law_same (f_law_same n ns) ns [some d, some d, none, none] μ) _
    cases h with
    | int i =>
      simp! only [b_law_same]
      have q : decide (i = i) = true := decide_eq_true rfl
      simp! only [b_law_same_1]
      simp! only [b_law_same_2, e_lwhole, q]
    | st =>
      simp! only [b_law_same]
      simp! only [b_law_same_1, eqS1]
      simp! only [b_law_same_1b, eqS1]
    | bl =>
      simp! only [b_law_same]
      simp! only [b_law_same_1, eqS3]
      simp! only [b_law_same_1b, eqS3]
    | tup h =>
      rename_i xs
      have q : decide (((xs.length : Nat) : Int) = (xs.length : Nat)) = true := decide_eq_true rfl
      simp! only [b_law_same]
      simp! only [b_law_same_0b, q]
      simp! only [b_law_same_0b_1]
      refine ok_loopG (zipD xs xs) rfl (fun i ρ m => m = μ ∧ ∃ a2 a3, ρ = [some (.tup xs), some (.tup xs), a2, a3]) ⟨rfl, none, none, rfl⟩ (fun i ρ m _ => rfl) ?_ ?_
      · rintro i d ρ m hi ⟨rfl, a2, a3, rfl⟩
        unfold zipD at hi
        rw [List.getElem?_zipWith_eq_some] at hi
        obtain ⟨x, y, hx, hy, rfl⟩ := hi
        rw [hx] at hy; cases hy
        have e := ih x (h x (List.mem_of_getElem? hx))
        simp! only [b_law_same_0b_1b, e]
        exact ⟨_, _, rfl⟩
      · rintro ρ m ⟨rfl, a2, a3, rfl⟩
        simp! only [b_law_same_0b_2]
end
end LW

end
section
set_option Elab.async false
set_option linter.all false
set_option maxRecDepth 100000
set_option maxHeartbeats 1000000
namespace LW
open PySem PySem.Spec PyProof.Rows L2 Ev Xc
section
local macro_rules | `(tactic| simp! only [$s,*]) => `(tactic| try simp (disch := (first | assumption | omega | (simp only [List.length_cons, List.length_nil, List.length_append, List.length_map, List.length_set, List.length_replicate, List.length_take, List.length_drop, List.length_reverse, List.length_range] <;> omega) | fail)) only [↓wOk, ↓wBad, ↓wExc, ↓wC, ↓wV, ↓wBin, ↓wACons, ↓wANil, ↓wBi, ↓wCall, ↓wTup, ↓wLst, ↓wB1, ↓wNot, ↓wOr, ↓wAnd, ↓wTru, ↓wEAnd, ↓wENot, ↓wChain, ↓wIf, ↓wAsg, ↓wGN, ↓wRet, ↓wNx, ↓wDrop, ↓wAdd, ↓wSub, ↓wCmp, Ev.eq_int, ↓wEqI, ↓wNeI, y1, y2, y3, y4, y5, y6, y7, y8, y9, y10, y11, y12, y13, y14, y15, y16, y17, y18, y19, y20, y21, y22, y23, y24, y25, y26, y27, y28, y29, y30, y31, y32, y33, y34, y35, y36, y37, y38, y39, y40, y41, tru1, tru2, tru3, tru5, tru6, isD1, isD2, beq1, beq2, beq3, beq4, ty1, ty2, ty3, ty4, ty5, ty6, ty7, it00, it01, it02, it03, it04, it05, it10, it11, it12, it13, it14, it15, it20, it21, it22, it23, it24, it25, it30, it31, it32, it33, it34, it35, it40, it41, it42, it43, it44, it45, it50, it51, it52, it53, it54, it55, it60, it61, it62, it63, it64, it65, im0, im1, im2, im3, im4, im5, ↓xSeq, ↓xIx, seq_tup, seq_obj, lst_obj, ↓xLenT, ↓xLenO, ↓xListT, ↓xListO, ↓xTupleT, ↓xTupleO, ↓xIntI, ↓xIntB, ↓xAbs, ↓xMax2, ↓xMin2, ↓xMod, ↓xDiv, ↓xMulL, ↓xMulR, cut_to, cut_from, cut_all, cut_ft, cut_m1, rep_flat, ↓xRepT, ↓xRepL, ↓xAddT, ↓xAddO, ↓xIs, ↓xEq, ↓xNe, ↓xBIs, ↓xMt, isL_obj, ↓xApp, ↓xRev, ↓xSl, ↓xON, ↓xOS, ↓xSlT, ↓xSlO, ↓xRevL, ↓xRevT, ↓xNeg, ↓xMkT, ↓xMkL, ↓xGT, ↓xGC, ↓xGNil, ↓xGIx, ↓xSetD, ↓xEIf, ↓xEOr, ↓xD0, ↓xNever, ↓xRetN, ↓xBrk, ↓xCnt, ↓xAug, at_nn, ixN_nn, app_lt, app_eq, set_eq, set_ne, set_app, ↓xFor, ↓xR1, ↓xR2, ↓xTupF, ↓xEn, rngC, rngC2, ↓xForL, ↓xNox, ↓xNoxF, ↓xTry, ↓xIsX, ↓xLc, ↓xIK, ↓xIL, ↓xZp, ↓xYes, seq_net, ↓xGTn, ↓xIn, ↓xAllN, ↓xTupN, ↓xOrV, ↓xLrng, rngL, ↓xR3, ↓xForG, ↓xIRv, ↓xTryR, ↓xGDix, ↓xRr, ↓xEnL, ↓xEnL0, ↓xDc, ↓xTupG, ↓xU, ↓xZp3, ↓xLrev, ↓xLrng2, rngL2, ↓xAugM, mulC, ↓xShl1, ↓xR3p, ↓xDivW, Int.reduceToNat, Nat.reduceAdd, Nat.reduceLT, Nat.reduceLeDiff, Int.reduceAdd, Int.reduceNeg, Nat.reduceEqDiff, reduceCtorEq, reduceIte, Int.reduceLT, Int.reduceLE, Int.reduceEq, Int.reduceSub, Int.reduceMul, beq_self_eq_true, $s,*])
variable {ns : List Int} {μ μ' μ'' : Store} {ρ : Ro}
theorem xCountN {i n : Nat} {xs : List D} {y : D} {P : D → Store → Prop} (h : μ[i]? = some (.lst xs)) (h1 : flatD y = true) (h2 : xs.all flatD = true) (h3 : xs.countP (fun z => eqF z y) = n) : Ok (mCount (.ob i) [y] μ) P = P (.int (n : Nat)) μ := by
  rw [xCount h h1 h2, h3]
theorem t_NoWidth_NoJoining : tabOf rows "NoWidth" (.gl "NoJoining") = some false := by decide +kernel
theorem t_NoWidth_Bracketed : tabOf rows "NoWidth" (.gl "Bracketed") = some false := by decide +kernel
theorem t_NoWidth_NoThing : tabOf rows "NoWidth" (.gl "NoThing") = some false := by decide +kernel
theorem t_NoWidth_NoRow : tabOf rows "NoWidth" (.gl "NoRow") = some false := by decide +kernel
theorem t_NoWidth_NoWindow : tabOf rows "NoWidth" (.gl "NoWindow") = some false := by decide +kernel
theorem t_NoWidth_NoNet : tabOf rows "NoWidth" (.gl "NoNet") = some false := by decide +kernel
theorem t_NoWidth_NotBeside : tabOf rows "NoWidth" (.gl "NotBeside") = some false := by decide +kernel
theorem t_NoWidth_NoPaper : tabOf rows "NoWidth" (.gl "NoPaper") = some false := by decide +kernel
theorem t_NoWidth_NoWidth : tabOf rows "NoWidth" (.gl "NoWidth") = some true := by decide +kernel
theorem t_NoWidth_NoSpare : tabOf rows "NoWidth" (.gl "NoSpare") = some false := by decide +kernel
theorem t_NoWidth_NoSize : tabOf rows "NoWidth" (.gl "NoSize") = some false := by decide +kernel
theorem t_NoWidth_NoEnds : tabOf rows "NoWidth" (.gl "NoEnds") = some false := by decide +kernel
theorem t_NoWidth_NoDepth : tabOf rows "NoWidth" (.gl "NoDepth") = some false := by decide +kernel
theorem t_NoWidth_TooShallow : tabOf rows "NoWidth" (.gl "TooShallow") = some false := by decide +kernel
theorem t_NoWidth_TooMany : tabOf rows "NoWidth" (.gl "TooMany") = some false := by decide +kernel
theorem t_NoWidth_NoPlace : tabOf rows "NoWidth" (.gl "NoPlace") = some false := by decide +kernel
theorem t_NoWidth_NoHands : tabOf rows "NoWidth" (.gl "NoHands") = some false := by decide +kernel
theorem t_NoWidth_NoRounds : tabOf rows "NoWidth" (.gl "NoRounds") = some false := by decide +kernel
theorem t_NoWidth_NoText : tabOf rows "NoWidth" (.gl "NoText") = some false := by decide +kernel
theorem t_NoWidth_NoName : tabOf rows "NoWidth" (.gl "NoName") = some false := by decide +kernel
theorem t_NoWidth_NoThings : tabOf rows "NoWidth" (.gl "NoThings") = some false := by decide +kernel
theorem t_NoWidth_NetError : tabOf rows "NoWidth" (.gl "NetError") = some true := by decide +kernel
theorem t_NoWidth_V : tabOf rows "NoWidth" (.ty "ValueError") = some true := by decide +kernel
theorem t_NoSpare_NoJoining : tabOf rows "NoSpare" (.gl "NoJoining") = some false := by decide +kernel
theorem t_NoSpare_Bracketed : tabOf rows "NoSpare" (.gl "Bracketed") = some false := by decide +kernel
theorem t_NoSpare_NoThing : tabOf rows "NoSpare" (.gl "NoThing") = some false := by decide +kernel
theorem t_NoSpare_NoRow : tabOf rows "NoSpare" (.gl "NoRow") = some false := by decide +kernel
theorem t_NoSpare_NoWindow : tabOf rows "NoSpare" (.gl "NoWindow") = some false := by decide +kernel
theorem t_NoSpare_NoNet : tabOf rows "NoSpare" (.gl "NoNet") = some false := by decide +kernel
theorem t_NoSpare_NotBeside : tabOf rows "NoSpare" (.gl "NotBeside") = some false := by decide +kernel
theorem t_NoSpare_NoPaper : tabOf rows "NoSpare" (.gl "NoPaper") = some false := by decide +kernel
theorem t_NoSpare_NoWidth : tabOf rows "NoSpare" (.gl "NoWidth") = some false := by decide +kernel
theorem t_NoSpare_NoSpare : tabOf rows "NoSpare" (.gl "NoSpare") = some true := by decide +kernel
theorem t_NoSpare_NoSize : tabOf rows "NoSpare" (.gl "NoSize") = some false := by decide +kernel
theorem t_NoSpare_NoEnds : tabOf rows "NoSpare" (.gl "NoEnds") = some false := by decide +kernel
theorem t_NoSpare_NoDepth : tabOf rows "NoSpare" (.gl "NoDepth") = some false := by decide +kernel
theorem t_NoSpare_TooShallow : tabOf rows "NoSpare" (.gl "TooShallow") = some false := by decide +kernel
theorem t_NoSpare_TooMany : tabOf rows "NoSpare" (.gl "TooMany") = some false := by decide +kernel
theorem t_NoSpare_NoPlace : tabOf rows "NoSpare" (.gl "NoPlace") = some false := by decide +kernel
theorem t_NoSpare_NoHands : tabOf rows "NoSpare" (.gl "NoHands") = some false := by decide +kernel
theorem t_NoSpare_NoRounds : tabOf rows "NoSpare" (.gl "NoRounds") = some false := by decide +kernel
theorem t_NoSpare_NoText : tabOf rows "NoSpare" (.gl "NoText") = some false := by decide +kernel
theorem t_NoSpare_NoName : tabOf rows "NoSpare" (.gl "NoName") = some false := by decide +kernel
theorem t_NoSpare_NoThings : tabOf rows "NoSpare" (.gl "NoThings") = some false := by decide +kernel
theorem t_NoSpare_NetError : tabOf rows "NoSpare" (.gl "NetError") = some true := by decide +kernel
theorem t_NoSpare_V : tabOf rows "NoSpare" (.ty "ValueError") = some true := by decide +kernel
theorem t_NoSize_NoJoining : tabOf rows "NoSize" (.gl "NoJoining") = some false := by decide +kernel
theorem t_NoSize_Bracketed : tabOf rows "NoSize" (.gl "Bracketed") = some false := by decide +kernel
theorem t_NoSize_NoThing : tabOf rows "NoSize" (.gl "NoThing") = some false := by decide +kernel
theorem t_NoSize_NoRow : tabOf rows "NoSize" (.gl "NoRow") = some false := by decide +kernel
theorem t_NoSize_NoWindow : tabOf rows "NoSize" (.gl "NoWindow") = some false := by decide +kernel
theorem t_NoSize_NoNet : tabOf rows "NoSize" (.gl "NoNet") = some false := by decide +kernel
theorem t_NoSize_NotBeside : tabOf rows "NoSize" (.gl "NotBeside") = some false := by decide +kernel
theorem t_NoSize_NoPaper : tabOf rows "NoSize" (.gl "NoPaper") = some false := by decide +kernel
theorem t_NoSize_NoWidth : tabOf rows "NoSize" (.gl "NoWidth") = some false := by decide +kernel
theorem t_NoSize_NoSpare : tabOf rows "NoSize" (.gl "NoSpare") = some false := by decide +kernel
theorem t_NoSize_NoSize : tabOf rows "NoSize" (.gl "NoSize") = some true := by decide +kernel
theorem t_NoSize_NoEnds : tabOf rows "NoSize" (.gl "NoEnds") = some false := by decide +kernel
theorem t_NoSize_NoDepth : tabOf rows "NoSize" (.gl "NoDepth") = some false := by decide +kernel
theorem t_NoSize_TooShallow : tabOf rows "NoSize" (.gl "TooShallow") = some false := by decide +kernel
theorem t_NoSize_TooMany : tabOf rows "NoSize" (.gl "TooMany") = some false := by decide +kernel
theorem t_NoSize_NoPlace : tabOf rows "NoSize" (.gl "NoPlace") = some false := by decide +kernel
theorem t_NoSize_NoHands : tabOf rows "NoSize" (.gl "NoHands") = some false := by decide +kernel
theorem t_NoSize_NoRounds : tabOf rows "NoSize" (.gl "NoRounds") = some false := by decide +kernel
theorem t_NoSize_NoText : tabOf rows "NoSize" (.gl "NoText") = some false := by decide +kernel
theorem t_NoSize_NoName : tabOf rows "NoSize" (.gl "NoName") = some false := by decide +kernel
theorem t_NoSize_NoThings : tabOf rows "NoSize" (.gl "NoThings") = some false := by decide +kernel
theorem t_NoSize_NetError : tabOf rows "NoSize" (.gl "NetError") = some true := by decide +kernel
theorem t_NoSize_V : tabOf rows "NoSize" (.ty "ValueError") = some true := by decide +kernel
theorem w_kinds_NoWidth {L : Nat} {P : D → Store → Prop} (h : μ[L]? = some (.exc "NoWidth")) (hP : ∀ m, Ex0 μ m → P (.int 1) m) : Ok (f_law_kinds ns [.ob L] μ) P := by
  have hb := lt_of_at h
  refine ok_run rfl ?_
  show Ok (b_law_kinds ns [some (.ob L), none] μ) _
  simp! only [b_law_kinds, h, t_NoWidth_NoJoining, t_NoWidth_Bracketed, t_NoWidth_NoThing]
  have x0 : Ex0 μ (μ ++ [MO.lst [D.bl false, D.bl false, D.bl false]]) := ex_app _
  have r0 : (μ ++ [MO.lst [D.bl false, D.bl false, D.bl false]])[μ.length]? = some (.lst [D.bl false, D.bl false, D.bl false]) := app_eq rfl
  have l0 := x0.at h (fun h => h)
  have b0 := lt_of_at r0
  have c0 := lt_of_at l0
  generalize μ ++ [MO.lst [D.bl false, D.bl false, D.bl false]] = m0 at *
  generalize μ.length = R0 at *
  simp! only [b_law_kinds_1, l0, r0, t_NoWidth_NoRow, t_NoWidth_NoWindow, t_NoWidth_NoNet]
  have x1 : Ex0 μ (m0 ++ [MO.lst [D.bl false, D.bl false, D.bl false]] ++ [MO.lst [D.bl false, D.bl false, D.bl false, D.bl false, D.bl false, D.bl false]]) := (x0.app _).app _
  have r1 : (m0 ++ [MO.lst [D.bl false, D.bl false, D.bl false]] ++ [MO.lst [D.bl false, D.bl false, D.bl false, D.bl false, D.bl false, D.bl false]])[m0.length + 1]? = some (.lst [D.bl false, D.bl false, D.bl false, D.bl false, D.bl false, D.bl false]) := app_eq (by simp)
  have l1 := x1.at h (fun h => h)
  have b1 := lt_of_at r1
  have c1 := lt_of_at l1
  generalize m0 ++ [MO.lst [D.bl false, D.bl false, D.bl false]] ++ [MO.lst [D.bl false, D.bl false, D.bl false, D.bl false, D.bl false, D.bl false]] = m1 at *
  generalize m0.length + 1 = R1 at *
  simp! only [b_law_kinds_2, l1, r1, t_NoWidth_NotBeside, t_NoWidth_NoPaper, t_NoWidth_NoWidth]
  have x2 : Ex0 μ (m1 ++ [MO.lst [D.bl false, D.bl false, D.bl true]] ++ [MO.lst [D.bl false, D.bl false, D.bl false, D.bl false, D.bl false, D.bl false, D.bl false, D.bl false, D.bl true]]) := (x1.app _).app _
  have r2 : (m1 ++ [MO.lst [D.bl false, D.bl false, D.bl true]] ++ [MO.lst [D.bl false, D.bl false, D.bl false, D.bl false, D.bl false, D.bl false, D.bl false, D.bl false, D.bl true]])[m1.length + 1]? = some (.lst [D.bl false, D.bl false, D.bl false, D.bl false, D.bl false, D.bl false, D.bl false, D.bl false, D.bl true]) := app_eq (by simp)
  have l2 := x2.at h (fun h => h)
  have b2 := lt_of_at r2
  have c2 := lt_of_at l2
  generalize m1 ++ [MO.lst [D.bl false, D.bl false, D.bl true]] ++ [MO.lst [D.bl false, D.bl false, D.bl false, D.bl false, D.bl false, D.bl false, D.bl false, D.bl false, D.bl true]] = m2 at *
  generalize m1.length + 1 = R2 at *
  simp! only [b_law_kinds_3, l2, r2, t_NoWidth_NoSpare, t_NoWidth_NoSize, t_NoWidth_NoEnds]
  have x3 : Ex0 μ (m2 ++ [MO.lst [D.bl false, D.bl false, D.bl false]] ++ [MO.lst [D.bl false, D.bl false, D.bl false, D.bl false, D.bl false, D.bl false, D.bl false, D.bl false, D.bl true, D.bl false, D.bl false, D.bl false]]) := (x2.app _).app _
  have r3 : (m2 ++ [MO.lst [D.bl false, D.bl false, D.bl false]] ++ [MO.lst [D.bl false, D.bl false, D.bl false, D.bl false, D.bl false, D.bl false, D.bl false, D.bl false, D.bl true, D.bl false, D.bl false, D.bl false]])[m2.length + 1]? = some (.lst [D.bl false, D.bl false, D.bl false, D.bl false, D.bl false, D.bl false, D.bl false, D.bl false, D.bl true, D.bl false, D.bl false, D.bl false]) := app_eq (by simp)
  have l3 := x3.at h (fun h => h)
  have b3 := lt_of_at r3
  have c3 := lt_of_at l3
  generalize m2 ++ [MO.lst [D.bl false, D.bl false, D.bl false]] ++ [MO.lst [D.bl false, D.bl false, D.bl false, D.bl false, D.bl false, D.bl false, D.bl false, D.bl false, D.bl true, D.bl false, D.bl false, D.bl false]] = m3 at *
  generalize m2.length + 1 = R3 at *
  simp! only [b_law_kinds_4, l3, r3, t_NoWidth_NoDepth, t_NoWidth_TooShallow, t_NoWidth_TooMany]
  have x4 : Ex0 μ (m3 ++ [MO.lst [D.bl false, D.bl false, D.bl false]] ++ [MO.lst [D.bl false, D.bl false, D.bl false, D.bl false, D.bl false, D.bl false, D.bl false, D.bl false, D.bl true, D.bl false, D.bl false, D.bl false, D.bl false, D.bl false, D.bl false]]) := (x3.app _).app _
  have r4 : (m3 ++ [MO.lst [D.bl false, D.bl false, D.bl false]] ++ [MO.lst [D.bl false, D.bl false, D.bl false, D.bl false, D.bl false, D.bl false, D.bl false, D.bl false, D.bl true, D.bl false, D.bl false, D.bl false, D.bl false, D.bl false, D.bl false]])[m3.length + 1]? = some (.lst [D.bl false, D.bl false, D.bl false, D.bl false, D.bl false, D.bl false, D.bl false, D.bl false, D.bl true, D.bl false, D.bl false, D.bl false, D.bl false, D.bl false, D.bl false]) := app_eq (by simp)
  have l4 := x4.at h (fun h => h)
  have b4 := lt_of_at r4
  have c4 := lt_of_at l4
  generalize m3 ++ [MO.lst [D.bl false, D.bl false, D.bl false]] ++ [MO.lst [D.bl false, D.bl false, D.bl false, D.bl false, D.bl false, D.bl false, D.bl false, D.bl false, D.bl true, D.bl false, D.bl false, D.bl false, D.bl false, D.bl false, D.bl false]] = m4 at *
  generalize m3.length + 1 = R4 at *
  simp! only [b_law_kinds_5, l4, r4, t_NoWidth_NoPlace, t_NoWidth_NoHands, t_NoWidth_NoRounds]
  have x5 : Ex0 μ (m4 ++ [MO.lst [D.bl false, D.bl false, D.bl false]] ++ [MO.lst [D.bl false, D.bl false, D.bl false, D.bl false, D.bl false, D.bl false, D.bl false, D.bl false, D.bl true, D.bl false, D.bl false, D.bl false, D.bl false, D.bl false, D.bl false, D.bl false, D.bl false, D.bl false]]) := (x4.app _).app _
  have r5 : (m4 ++ [MO.lst [D.bl false, D.bl false, D.bl false]] ++ [MO.lst [D.bl false, D.bl false, D.bl false, D.bl false, D.bl false, D.bl false, D.bl false, D.bl false, D.bl true, D.bl false, D.bl false, D.bl false, D.bl false, D.bl false, D.bl false, D.bl false, D.bl false, D.bl false]])[m4.length + 1]? = some (.lst [D.bl false, D.bl false, D.bl false, D.bl false, D.bl false, D.bl false, D.bl false, D.bl false, D.bl true, D.bl false, D.bl false, D.bl false, D.bl false, D.bl false, D.bl false, D.bl false, D.bl false, D.bl false]) := app_eq (by simp)
  have l5 := x5.at h (fun h => h)
  have b5 := lt_of_at r5
  have c5 := lt_of_at l5
  generalize m4 ++ [MO.lst [D.bl false, D.bl false, D.bl false]] ++ [MO.lst [D.bl false, D.bl false, D.bl false, D.bl false, D.bl false, D.bl false, D.bl false, D.bl false, D.bl true, D.bl false, D.bl false, D.bl false, D.bl false, D.bl false, D.bl false, D.bl false, D.bl false, D.bl false]] = m5 at *
  generalize m4.length + 1 = R5 at *
  simp! only [b_law_kinds_6, l5, r5, t_NoWidth_NoText, t_NoWidth_NoName, t_NoWidth_NoThings]
  have x6 : Ex0 μ (m5 ++ [MO.lst [D.bl false, D.bl false, D.bl false]] ++ [MO.lst [D.bl false, D.bl false, D.bl false, D.bl false, D.bl false, D.bl false, D.bl false, D.bl false, D.bl true, D.bl false, D.bl false, D.bl false, D.bl false, D.bl false, D.bl false, D.bl false, D.bl false, D.bl false, D.bl false, D.bl false, D.bl false]]) := (x5.app _).app _
  have r6 : (m5 ++ [MO.lst [D.bl false, D.bl false, D.bl false]] ++ [MO.lst [D.bl false, D.bl false, D.bl false, D.bl false, D.bl false, D.bl false, D.bl false, D.bl false, D.bl true, D.bl false, D.bl false, D.bl false, D.bl false, D.bl false, D.bl false, D.bl false, D.bl false, D.bl false, D.bl false, D.bl false, D.bl false]])[m5.length + 1]? = some (.lst [D.bl false, D.bl false, D.bl false, D.bl false, D.bl false, D.bl false, D.bl false, D.bl false, D.bl true, D.bl false, D.bl false, D.bl false, D.bl false, D.bl false, D.bl false, D.bl false, D.bl false, D.bl false, D.bl false, D.bl false, D.bl false]) := app_eq (by simp)
  have l6 := x6.at h (fun h => h)
  have b6 := lt_of_at r6
  have c6 := lt_of_at l6
  generalize m5 ++ [MO.lst [D.bl false, D.bl false, D.bl false]] ++ [MO.lst [D.bl false, D.bl false, D.bl false, D.bl false, D.bl false, D.bl false, D.bl false, D.bl false, D.bl true, D.bl false, D.bl false, D.bl false, D.bl false, D.bl false, D.bl false, D.bl false, D.bl false, D.bl false, D.bl false, D.bl false, D.bl false]] = m6 at *
  generalize m5.length + 1 = R6 at *
  simp! only [b_law_kinds_7]
  rw [xCountN (n := 1) r6 rfl (by decide +kernel) (by decide +kernel)]
  simp! only [r6]
  exact hP m6 x6
theorem w_just_NoWidth {L : Nat} {b : Bool} {P : D → Store → Prop} (h : μ[L]? = some (.exc "NoWidth")) (hP : ∀ m, Ex0 μ m → P (.bl b) m) : Ok (f_law_is_just ns [.ob L, .bl b] μ) P := by
  refine ok_run rfl ?_
  show Ok (b_law_is_just ns [some (.ob L), some (.bl b)] μ) _
  simp! only [b_law_is_just, h, t_NoWidth_NetError, t_NoWidth_V]
  cases b with
  | false => simp! only [b_law_is_just_1]; exact hP μ Ex.refl
  | true =>
    simp! only [b_law_is_just_1]
    refine w_kinds_NoWidth h fun m e => ?_
    simp! only [y1]
    exact hP m e
theorem w_kinds_NoSpare {L : Nat} {P : D → Store → Prop} (h : μ[L]? = some (.exc "NoSpare")) (hP : ∀ m, Ex0 μ m → P (.int 1) m) : Ok (f_law_kinds ns [.ob L] μ) P := by
  have hb := lt_of_at h
  refine ok_run rfl ?_
  show Ok (b_law_kinds ns [some (.ob L), none] μ) _
  simp! only [b_law_kinds, h, t_NoSpare_NoJoining, t_NoSpare_Bracketed, t_NoSpare_NoThing]
  have x0 : Ex0 μ (μ ++ [MO.lst [D.bl false, D.bl false, D.bl false]]) := ex_app _
  have r0 : (μ ++ [MO.lst [D.bl false, D.bl false, D.bl false]])[μ.length]? = some (.lst [D.bl false, D.bl false, D.bl false]) := app_eq rfl
  have l0 := x0.at h (fun h => h)
  have b0 := lt_of_at r0
  have c0 := lt_of_at l0
  generalize μ ++ [MO.lst [D.bl false, D.bl false, D.bl false]] = m0 at *
  generalize μ.length = R0 at *
  simp! only [b_law_kinds_1, l0, r0, t_NoSpare_NoRow, t_NoSpare_NoWindow, t_NoSpare_NoNet]
  have x1 : Ex0 μ (m0 ++ [MO.lst [D.bl false, D.bl false, D.bl false]] ++ [MO.lst [D.bl false, D.bl false, D.bl false, D.bl false, D.bl false, D.bl false]]) := (x0.app _).app _
  have r1 : (m0 ++ [MO.lst [D.bl false, D.bl false, D.bl false]] ++ [MO.lst [D.bl false, D.bl false, D.bl false, D.bl false, D.bl false, D.bl false]])[m0.length + 1]? = some (.lst [D.bl false, D.bl false, D.bl false, D.bl false, D.bl false, D.bl false]) := app_eq (by simp)
  have l1 := x1.at h (fun h => h)
  have b1 := lt_of_at r1
  have c1 := lt_of_at l1
  generalize m0 ++ [MO.lst [D.bl false, D.bl false, D.bl false]] ++ [MO.lst [D.bl false, D.bl false, D.bl false, D.bl false, D.bl false, D.bl false]] = m1 at *
  generalize m0.length + 1 = R1 at *
  simp! only [b_law_kinds_2, l1, r1, t_NoSpare_NotBeside, t_NoSpare_NoPaper, t_NoSpare_NoWidth]
  have x2 : Ex0 μ (m1 ++ [MO.lst [D.bl false, D.bl false, D.bl false]] ++ [MO.lst [D.bl false, D.bl false, D.bl false, D.bl false, D.bl false, D.bl false, D.bl false, D.bl false, D.bl false]]) := (x1.app _).app _
  have r2 : (m1 ++ [MO.lst [D.bl false, D.bl false, D.bl false]] ++ [MO.lst [D.bl false, D.bl false, D.bl false, D.bl false, D.bl false, D.bl false, D.bl false, D.bl false, D.bl false]])[m1.length + 1]? = some (.lst [D.bl false, D.bl false, D.bl false, D.bl false, D.bl false, D.bl false, D.bl false, D.bl false, D.bl false]) := app_eq (by simp)
  have l2 := x2.at h (fun h => h)
  have b2 := lt_of_at r2
  have c2 := lt_of_at l2
  generalize m1 ++ [MO.lst [D.bl false, D.bl false, D.bl false]] ++ [MO.lst [D.bl false, D.bl false, D.bl false, D.bl false, D.bl false, D.bl false, D.bl false, D.bl false, D.bl false]] = m2 at *
  generalize m1.length + 1 = R2 at *
  simp! only [b_law_kinds_3, l2, r2, t_NoSpare_NoSpare, t_NoSpare_NoSize, t_NoSpare_NoEnds]
  have x3 : Ex0 μ (m2 ++ [MO.lst [D.bl true, D.bl false, D.bl false]] ++ [MO.lst [D.bl false, D.bl false, D.bl false, D.bl false, D.bl false, D.bl false, D.bl false, D.bl false, D.bl false, D.bl true, D.bl false, D.bl false]]) := (x2.app _).app _
  have r3 : (m2 ++ [MO.lst [D.bl true, D.bl false, D.bl false]] ++ [MO.lst [D.bl false, D.bl false, D.bl false, D.bl false, D.bl false, D.bl false, D.bl false, D.bl false, D.bl false, D.bl true, D.bl false, D.bl false]])[m2.length + 1]? = some (.lst [D.bl false, D.bl false, D.bl false, D.bl false, D.bl false, D.bl false, D.bl false, D.bl false, D.bl false, D.bl true, D.bl false, D.bl false]) := app_eq (by simp)
  have l3 := x3.at h (fun h => h)
  have b3 := lt_of_at r3
  have c3 := lt_of_at l3
  generalize m2 ++ [MO.lst [D.bl true, D.bl false, D.bl false]] ++ [MO.lst [D.bl false, D.bl false, D.bl false, D.bl false, D.bl false, D.bl false, D.bl false, D.bl false, D.bl false, D.bl true, D.bl false, D.bl false]] = m3 at *
  generalize m2.length + 1 = R3 at *
  simp! only [b_law_kinds_4, l3, r3, t_NoSpare_NoDepth, t_NoSpare_TooShallow, t_NoSpare_TooMany]
  have x4 : Ex0 μ (m3 ++ [MO.lst [D.bl false, D.bl false, D.bl false]] ++ [MO.lst [D.bl false, D.bl false, D.bl false, D.bl false, D.bl false, D.bl false, D.bl false, D.bl false, D.bl false, D.bl true, D.bl false, D.bl false, D.bl false, D.bl false, D.bl false]]) := (x3.app _).app _
  have r4 : (m3 ++ [MO.lst [D.bl false, D.bl false, D.bl false]] ++ [MO.lst [D.bl false, D.bl false, D.bl false, D.bl false, D.bl false, D.bl false, D.bl false, D.bl false, D.bl false, D.bl true, D.bl false, D.bl false, D.bl false, D.bl false, D.bl false]])[m3.length + 1]? = some (.lst [D.bl false, D.bl false, D.bl false, D.bl false, D.bl false, D.bl false, D.bl false, D.bl false, D.bl false, D.bl true, D.bl false, D.bl false, D.bl false, D.bl false, D.bl false]) := app_eq (by simp)
  have l4 := x4.at h (fun h => h)
  have b4 := lt_of_at r4
  have c4 := lt_of_at l4
  generalize m3 ++ [MO.lst [D.bl false, D.bl false, D.bl false]] ++ [MO.lst [D.bl false, D.bl false, D.bl false, D.bl false, D.bl false, D.bl false, D.bl false, D.bl false, D.bl false, D.bl true, D.bl false, D.bl false, D.bl false, D.bl false, D.bl false]] = m4 at *
  generalize m3.length + 1 = R4 at *
  simp! only [b_law_kinds_5, l4, r4, t_NoSpare_NoPlace, t_NoSpare_NoHands, t_NoSpare_NoRounds]
  have x5 : Ex0 μ (m4 ++ [MO.lst [D.bl false, D.bl false, D.bl false]] ++ [MO.lst [D.bl false, D.bl false, D.bl false, D.bl false, D.bl false, D.bl false, D.bl false, D.bl false, D.bl false, D.bl true, D.bl false, D.bl false, D.bl false, D.bl false, D.bl false, D.bl false, D.bl false, D.bl false]]) := (x4.app _).app _
  have r5 : (m4 ++ [MO.lst [D.bl false, D.bl false, D.bl false]] ++ [MO.lst [D.bl false, D.bl false, D.bl false, D.bl false, D.bl false, D.bl false, D.bl false, D.bl false, D.bl false, D.bl true, D.bl false, D.bl false, D.bl false, D.bl false, D.bl false, D.bl false, D.bl false, D.bl false]])[m4.length + 1]? = some (.lst [D.bl false, D.bl false, D.bl false, D.bl false, D.bl false, D.bl false, D.bl false, D.bl false, D.bl false, D.bl true, D.bl false, D.bl false, D.bl false, D.bl false, D.bl false, D.bl false, D.bl false, D.bl false]) := app_eq (by simp)
  have l5 := x5.at h (fun h => h)
  have b5 := lt_of_at r5
  have c5 := lt_of_at l5
  generalize m4 ++ [MO.lst [D.bl false, D.bl false, D.bl false]] ++ [MO.lst [D.bl false, D.bl false, D.bl false, D.bl false, D.bl false, D.bl false, D.bl false, D.bl false, D.bl false, D.bl true, D.bl false, D.bl false, D.bl false, D.bl false, D.bl false, D.bl false, D.bl false, D.bl false]] = m5 at *
  generalize m4.length + 1 = R5 at *
  simp! only [b_law_kinds_6, l5, r5, t_NoSpare_NoText, t_NoSpare_NoName, t_NoSpare_NoThings]
  have x6 : Ex0 μ (m5 ++ [MO.lst [D.bl false, D.bl false, D.bl false]] ++ [MO.lst [D.bl false, D.bl false, D.bl false, D.bl false, D.bl false, D.bl false, D.bl false, D.bl false, D.bl false, D.bl true, D.bl false, D.bl false, D.bl false, D.bl false, D.bl false, D.bl false, D.bl false, D.bl false, D.bl false, D.bl false, D.bl false]]) := (x5.app _).app _
  have r6 : (m5 ++ [MO.lst [D.bl false, D.bl false, D.bl false]] ++ [MO.lst [D.bl false, D.bl false, D.bl false, D.bl false, D.bl false, D.bl false, D.bl false, D.bl false, D.bl false, D.bl true, D.bl false, D.bl false, D.bl false, D.bl false, D.bl false, D.bl false, D.bl false, D.bl false, D.bl false, D.bl false, D.bl false]])[m5.length + 1]? = some (.lst [D.bl false, D.bl false, D.bl false, D.bl false, D.bl false, D.bl false, D.bl false, D.bl false, D.bl false, D.bl true, D.bl false, D.bl false, D.bl false, D.bl false, D.bl false, D.bl false, D.bl false, D.bl false, D.bl false, D.bl false, D.bl false]) := app_eq (by simp)
  have l6 := x6.at h (fun h => h)
  have b6 := lt_of_at r6
  have c6 := lt_of_at l6
  generalize m5 ++ [MO.lst [D.bl false, D.bl false, D.bl false]] ++ [MO.lst [D.bl false, D.bl false, D.bl false, D.bl false, D.bl false, D.bl false, D.bl false, D.bl false, D.bl false, D.bl true, D.bl false, D.bl false, D.bl false, D.bl false, D.bl false, D.bl false, D.bl false, D.bl false, D.bl false, D.bl false, D.bl false]] = m6 at *
  generalize m5.length + 1 = R6 at *
  simp! only [b_law_kinds_7]
  rw [xCountN (n := 1) r6 rfl (by decide +kernel) (by decide +kernel)]
  simp! only [r6]
  exact hP m6 x6
theorem w_just_NoSpare {L : Nat} {b : Bool} {P : D → Store → Prop} (h : μ[L]? = some (.exc "NoSpare")) (hP : ∀ m, Ex0 μ m → P (.bl b) m) : Ok (f_law_is_just ns [.ob L, .bl b] μ) P := by
  refine ok_run rfl ?_
  show Ok (b_law_is_just ns [some (.ob L), some (.bl b)] μ) _
  simp! only [b_law_is_just, h, t_NoSpare_NetError, t_NoSpare_V]
  cases b with
  | false => simp! only [b_law_is_just_1]; exact hP μ Ex.refl
  | true =>
    simp! only [b_law_is_just_1]
    refine w_kinds_NoSpare h fun m e => ?_
    simp! only [y1]
    exact hP m e
theorem w_kinds_NoSize {L : Nat} {P : D → Store → Prop} (h : μ[L]? = some (.exc "NoSize")) (hP : ∀ m, Ex0 μ m → P (.int 1) m) : Ok (f_law_kinds ns [.ob L] μ) P := by
  have hb := lt_of_at h
  refine ok_run rfl ?_
  show Ok (b_law_kinds ns [some (.ob L), none] μ) _
  simp! only [b_law_kinds, h, t_NoSize_NoJoining, t_NoSize_Bracketed, t_NoSize_NoThing]
  have x0 : Ex0 μ (μ ++ [MO.lst [D.bl false, D.bl false, D.bl false]]) := ex_app _
  have r0 : (μ ++ [MO.lst [D.bl false, D.bl false, D.bl false]])[μ.length]? = some (.lst [D.bl false, D.bl false, D.bl false]) := app_eq rfl
  have l0 := x0.at h (fun h => h)
  have b0 := lt_of_at r0
  have c0 := lt_of_at l0
  generalize μ ++ [MO.lst [D.bl false, D.bl false, D.bl false]] = m0 at *
  generalize μ.length = R0 at *
  simp! only [b_law_kinds_1, l0, r0, t_NoSize_NoRow, t_NoSize_NoWindow, t_NoSize_NoNet]
  have x1 : Ex0 μ (m0 ++ [MO.lst [D.bl false, D.bl false, D.bl false]] ++ [MO.lst [D.bl false, D.bl false, D.bl false, D.bl false, D.bl false, D.bl false]]) := (x0.app _).app _
  have r1 : (m0 ++ [MO.lst [D.bl false, D.bl false, D.bl false]] ++ [MO.lst [D.bl false, D.bl false, D.bl false, D.bl false, D.bl false, D.bl false]])[m0.length + 1]? = some (.lst [D.bl false, D.bl false, D.bl false, D.bl false, D.bl false, D.bl false]) := app_eq (by simp)
  have l1 := x1.at h (fun h => h)
  have b1 := lt_of_at r1
  have c1 := lt_of_at l1
  generalize m0 ++ [MO.lst [D.bl false, D.bl false, D.bl false]] ++ [MO.lst [D.bl false, D.bl false, D.bl false, D.bl false, D.bl false, D.bl false]] = m1 at *
  generalize m0.length + 1 = R1 at *
  simp! only [b_law_kinds_2, l1, r1, t_NoSize_NotBeside, t_NoSize_NoPaper, t_NoSize_NoWidth]
  have x2 : Ex0 μ (m1 ++ [MO.lst [D.bl false, D.bl false, D.bl false]] ++ [MO.lst [D.bl false, D.bl false, D.bl false, D.bl false, D.bl false, D.bl false, D.bl false, D.bl false, D.bl false]]) := (x1.app _).app _
  have r2 : (m1 ++ [MO.lst [D.bl false, D.bl false, D.bl false]] ++ [MO.lst [D.bl false, D.bl false, D.bl false, D.bl false, D.bl false, D.bl false, D.bl false, D.bl false, D.bl false]])[m1.length + 1]? = some (.lst [D.bl false, D.bl false, D.bl false, D.bl false, D.bl false, D.bl false, D.bl false, D.bl false, D.bl false]) := app_eq (by simp)
  have l2 := x2.at h (fun h => h)
  have b2 := lt_of_at r2
  have c2 := lt_of_at l2
  generalize m1 ++ [MO.lst [D.bl false, D.bl false, D.bl false]] ++ [MO.lst [D.bl false, D.bl false, D.bl false, D.bl false, D.bl false, D.bl false, D.bl false, D.bl false, D.bl false]] = m2 at *
  generalize m1.length + 1 = R2 at *
  simp! only [b_law_kinds_3, l2, r2, t_NoSize_NoSpare, t_NoSize_NoSize, t_NoSize_NoEnds]
  have x3 : Ex0 μ (m2 ++ [MO.lst [D.bl false, D.bl true, D.bl false]] ++ [MO.lst [D.bl false, D.bl false, D.bl false, D.bl false, D.bl false, D.bl false, D.bl false, D.bl false, D.bl false, D.bl false, D.bl true, D.bl false]]) := (x2.app _).app _
  have r3 : (m2 ++ [MO.lst [D.bl false, D.bl true, D.bl false]] ++ [MO.lst [D.bl false, D.bl false, D.bl false, D.bl false, D.bl false, D.bl false, D.bl false, D.bl false, D.bl false, D.bl false, D.bl true, D.bl false]])[m2.length + 1]? = some (.lst [D.bl false, D.bl false, D.bl false, D.bl false, D.bl false, D.bl false, D.bl false, D.bl false, D.bl false, D.bl false, D.bl true, D.bl false]) := app_eq (by simp)
  have l3 := x3.at h (fun h => h)
  have b3 := lt_of_at r3
  have c3 := lt_of_at l3
  generalize m2 ++ [MO.lst [D.bl false, D.bl true, D.bl false]] ++ [MO.lst [D.bl false, D.bl false, D.bl false, D.bl false, D.bl false, D.bl false, D.bl false, D.bl false, D.bl false, D.bl false, D.bl true, D.bl false]] = m3 at *
  generalize m2.length + 1 = R3 at *
  simp! only [b_law_kinds_4, l3, r3, t_NoSize_NoDepth, t_NoSize_TooShallow, t_NoSize_TooMany]
  have x4 : Ex0 μ (m3 ++ [MO.lst [D.bl false, D.bl false, D.bl false]] ++ [MO.lst [D.bl false, D.bl false, D.bl false, D.bl false, D.bl false, D.bl false, D.bl false, D.bl false, D.bl false, D.bl false, D.bl true, D.bl false, D.bl false, D.bl false, D.bl false]]) := (x3.app _).app _
  have r4 : (m3 ++ [MO.lst [D.bl false, D.bl false, D.bl false]] ++ [MO.lst [D.bl false, D.bl false, D.bl false, D.bl false, D.bl false, D.bl false, D.bl false, D.bl false, D.bl false, D.bl false, D.bl true, D.bl false, D.bl false, D.bl false, D.bl false]])[m3.length + 1]? = some (.lst [D.bl false, D.bl false, D.bl false, D.bl false, D.bl false, D.bl false, D.bl false, D.bl false, D.bl false, D.bl false, D.bl true, D.bl false, D.bl false, D.bl false, D.bl false]) := app_eq (by simp)
  have l4 := x4.at h (fun h => h)
  have b4 := lt_of_at r4
  have c4 := lt_of_at l4
  generalize m3 ++ [MO.lst [D.bl false, D.bl false, D.bl false]] ++ [MO.lst [D.bl false, D.bl false, D.bl false, D.bl false, D.bl false, D.bl false, D.bl false, D.bl false, D.bl false, D.bl false, D.bl true, D.bl false, D.bl false, D.bl false, D.bl false]] = m4 at *
  generalize m3.length + 1 = R4 at *
  simp! only [b_law_kinds_5, l4, r4, t_NoSize_NoPlace, t_NoSize_NoHands, t_NoSize_NoRounds]
  have x5 : Ex0 μ (m4 ++ [MO.lst [D.bl false, D.bl false, D.bl false]] ++ [MO.lst [D.bl false, D.bl false, D.bl false, D.bl false, D.bl false, D.bl false, D.bl false, D.bl false, D.bl false, D.bl false, D.bl true, D.bl false, D.bl false, D.bl false, D.bl false, D.bl false, D.bl false, D.bl false]]) := (x4.app _).app _
  have r5 : (m4 ++ [MO.lst [D.bl false, D.bl false, D.bl false]] ++ [MO.lst [D.bl false, D.bl false, D.bl false, D.bl false, D.bl false, D.bl false, D.bl false, D.bl false, D.bl false, D.bl false, D.bl true, D.bl false, D.bl false, D.bl false, D.bl false, D.bl false, D.bl false, D.bl false]])[m4.length + 1]? = some (.lst [D.bl false, D.bl false, D.bl false, D.bl false, D.bl false, D.bl false, D.bl false, D.bl false, D.bl false, D.bl false, D.bl true, D.bl false, D.bl false, D.bl false, D.bl false, D.bl false, D.bl false, D.bl false]) := app_eq (by simp)
  have l5 := x5.at h (fun h => h)
  have b5 := lt_of_at r5
  have c5 := lt_of_at l5
  generalize m4 ++ [MO.lst [D.bl false, D.bl false, D.bl false]] ++ [MO.lst [D.bl false, D.bl false, D.bl false, D.bl false, D.bl false, D.bl false, D.bl false, D.bl false, D.bl false, D.bl false, D.bl true, D.bl false, D.bl false, D.bl false, D.bl false, D.bl false, D.bl false, D.bl false]] = m5 at *
  generalize m4.length + 1 = R5 at *
  simp! only [b_law_kinds_6, l5, r5, t_NoSize_NoText, t_NoSize_NoName, t_NoSize_NoThings]
  have x6 : Ex0 μ (m5 ++ [MO.lst [D.bl false, D.bl false, D.bl false]] ++ [MO.lst [D.bl false, D.bl false, D.bl false, D.bl false, D.bl false, D.bl false, D.bl false, D.bl false, D.bl false, D.bl false, D.bl true, D.bl false, D.bl false, D.bl false, D.bl false, D.bl false, D.bl false, D.bl false, D.bl false, D.bl false, D.bl false]]) := (x5.app _).app _
  have r6 : (m5 ++ [MO.lst [D.bl false, D.bl false, D.bl false]] ++ [MO.lst [D.bl false, D.bl false, D.bl false, D.bl false, D.bl false, D.bl false, D.bl false, D.bl false, D.bl false, D.bl false, D.bl true, D.bl false, D.bl false, D.bl false, D.bl false, D.bl false, D.bl false, D.bl false, D.bl false, D.bl false, D.bl false]])[m5.length + 1]? = some (.lst [D.bl false, D.bl false, D.bl false, D.bl false, D.bl false, D.bl false, D.bl false, D.bl false, D.bl false, D.bl false, D.bl true, D.bl false, D.bl false, D.bl false, D.bl false, D.bl false, D.bl false, D.bl false, D.bl false, D.bl false, D.bl false]) := app_eq (by simp)
  have l6 := x6.at h (fun h => h)
  have b6 := lt_of_at r6
  have c6 := lt_of_at l6
  generalize m5 ++ [MO.lst [D.bl false, D.bl false, D.bl false]] ++ [MO.lst [D.bl false, D.bl false, D.bl false, D.bl false, D.bl false, D.bl false, D.bl false, D.bl false, D.bl false, D.bl false, D.bl true, D.bl false, D.bl false, D.bl false, D.bl false, D.bl false, D.bl false, D.bl false, D.bl false, D.bl false, D.bl false]] = m6 at *
  generalize m5.length + 1 = R6 at *
  simp! only [b_law_kinds_7]
  rw [xCountN (n := 1) r6 rfl (by decide +kernel) (by decide +kernel)]
  simp! only [r6]
  exact hP m6 x6
theorem w_just_NoSize {L : Nat} {b : Bool} {P : D → Store → Prop} (h : μ[L]? = some (.exc "NoSize")) (hP : ∀ m, Ex0 μ m → P (.bl b) m) : Ok (f_law_is_just ns [.ob L, .bl b] μ) P := by
  refine ok_run rfl ?_
  show Ok (b_law_is_just ns [some (.ob L), some (.bl b)] μ) _
  simp! only [b_law_is_just, h, t_NoSize_NetError, t_NoSize_V]
  cases b with
  | false => simp! only [b_law_is_just_1]; exact hP μ Ex.refl
  | true =>
    simp! only [b_law_is_just_1]
    refine w_kinds_NoSize h fun m e => ?_
    simp! only [y1]
    exact hP m e
end
end LW

end
section
set_option Elab.async false
set_option linter.all false
set_option maxRecDepth 100000
set_option maxHeartbeats 1000000
namespace LW
open PySem PySem.Spec PyProof.Rows L2 Ev Xc
section
local macro_rules | `(tactic| simp! only [$s,*]) => `(tactic| try simp (disch := (first | assumption | omega | (simp only [List.length_cons, List.length_nil, List.length_append, List.length_map, List.length_set, List.length_replicate, List.length_take, List.length_drop, List.length_reverse, List.length_range] <;> omega) | fail)) only [↓wOk, ↓wBad, ↓wExc, ↓wC, ↓wV, ↓wBin, ↓wACons, ↓wANil, ↓wBi, ↓wCall, ↓wTup, ↓wLst, ↓wB1, ↓wNot, ↓wOr, ↓wAnd, ↓wTru, ↓wEAnd, ↓wENot, ↓wChain, ↓wIf, ↓wAsg, ↓wGN, ↓wRet, ↓wNx, ↓wDrop, ↓wAdd, ↓wSub, ↓wCmp, Ev.eq_int, ↓wEqI, ↓wNeI, y1, y2, y3, y4, y5, y6, y7, y8, y9, y10, y11, y12, y13, y14, y15, y16, y17, y18, y19, y20, y21, y22, y23, y24, y25, y26, y27, y28, y29, y30, y31, y32, y33, y34, y35, y36, y37, y38, y39, y40, y41, tru1, tru2, tru3, tru5, tru6, isD1, isD2, beq1, beq2, beq3, beq4, ty1, ty2, ty3, ty4, ty5, ty6, ty7, it00, it01, it02, it03, it04, it05, it10, it11, it12, it13, it14, it15, it20, it21, it22, it23, it24, it25, it30, it31, it32, it33, it34, it35, it40, it41, it42, it43, it44, it45, it50, it51, it52, it53, it54, it55, it60, it61, it62, it63, it64, it65, im0, im1, im2, im3, im4, im5, ↓xSeq, ↓xIx, seq_tup, seq_obj, lst_obj, ↓xLenT, ↓xLenO, ↓xListT, ↓xListO, ↓xTupleT, ↓xTupleO, ↓xIntI, ↓xIntB, ↓xAbs, ↓xMax2, ↓xMin2, ↓xMod, ↓xDiv, ↓xMulL, ↓xMulR, cut_to, cut_from, cut_all, cut_ft, cut_m1, rep_flat, ↓xRepT, ↓xRepL, ↓xAddT, ↓xAddO, ↓xIs, ↓xEq, ↓xNe, ↓xBIs, ↓xMt, isL_obj, ↓xApp, ↓xRev, ↓xSl, ↓xON, ↓xOS, ↓xSlT, ↓xSlO, ↓xRevL, ↓xRevT, ↓xNeg, ↓xMkT, ↓xMkL, ↓xGT, ↓xGC, ↓xGNil, ↓xGIx, ↓xSetD, ↓xEIf, ↓xEOr, ↓xD0, ↓xNever, ↓xRetN, ↓xBrk, ↓xCnt, ↓xAug, at_nn, ixN_nn, app_lt, app_eq, set_eq, set_ne, set_app, ↓xFor, ↓xR1, ↓xR2, ↓xTupF, ↓xEn, rngC, rngC2, ↓xForL, ↓xNox, ↓xNoxF, ↓xTry, ↓xIsX, ↓xLc, ↓xIK, ↓xIL, ↓xZp, ↓xYes, seq_net, ↓xGTn, ↓xIn, ↓xAllN, ↓xTupN, ↓xOrV, ↓xLrng, rngL, ↓xR3, ↓xForG, ↓xIRv, ↓xTryR, ↓xGDix, ↓xRr, ↓xEnL, ↓xEnL0, ↓xDc, ↓xTupG, ↓xU, ↓xZp3, ↓xLrev, ↓xLrng2, rngL2, ↓xAugM, mulC, ↓xShl1, ↓xR3p, ↓xDivW, Int.reduceToNat, Nat.reduceAdd, Nat.reduceLT, Nat.reduceLeDiff, Int.reduceAdd, Int.reduceNeg, Nat.reduceEqDiff, reduceCtorEq, reduceIte, Int.reduceLT, Int.reduceLE, Int.reduceEq, Int.reduceSub, Int.reduceMul, beq_self_eq_true, $s,*])
variable {ns : List Int} {μ μ' μ'' : Store} {ρ : Ro}
theorem w_word_NoWidth {k : Int} {a b : D} {P : D → Store → Prop} (h : f_law_made ns [.int k, a, b] μ = .ex (.mk "NoWidth" []) μ) (hP : ∀ m, Ex0 μ m → P (.str "width") m) : Ok (f_law_word ns [.int k, a, b] μ) P := by
  have hc : decide (("NoWidth" : Str) ∈ caught) = true := by decide +kernel
  refine ok_run rfl ?_
  show Ok (b_law_word ns [some (.int k), some a, some b, none] μ) _
  simp! only [b_law_word, h, hc]
  have x0 : Ex0 μ (μ ++ [MO.exc "NoWidth"]) := ex_app _
  have r0 : (μ ++ [MO.exc "NoWidth"])[μ.length]? = some (.exc "NoWidth") := app_eq rfl
  generalize μ ++ [MO.exc "NoWidth"] = m0 at *
  generalize μ.length = L at *
  simp! only [r0, t_NoWidth_NoWidth]
  refine w_just_NoWidth r0 fun m1 e1 => ?_
  have r1 := e1.at r0 (fun h => h)
  simp! only [y1]
  exact hP m1 (x0.trans e1)
theorem w_word_NoSpare {k : Int} {a b : D} {P : D → Store → Prop} (h : f_law_made ns [.int k, a, b] μ = .ex (.mk "NoSpare" []) μ) (hP : ∀ m, Ex0 μ m → P (.str "spare") m) : Ok (f_law_word ns [.int k, a, b] μ) P := by
  have hc : decide (("NoSpare" : Str) ∈ caught) = true := by decide +kernel
  refine ok_run rfl ?_
  show Ok (b_law_word ns [some (.int k), some a, some b, none] μ) _
  simp! only [b_law_word, h, hc]
  have x0 : Ex0 μ (μ ++ [MO.exc "NoSpare"]) := ex_app _
  have r0 : (μ ++ [MO.exc "NoSpare"])[μ.length]? = some (.exc "NoSpare") := app_eq rfl
  generalize μ ++ [MO.exc "NoSpare"] = m0 at *
  generalize μ.length = L at *
  simp! only [r0, t_NoSpare_NoWidth]
  refine w_just_NoSpare r0 fun m1 e1 => ?_
  have r1 := e1.at r0 (fun h => h)
  simp! only [r1, t_NoSpare_NoSpare]
  refine w_just_NoSpare r1 fun m2 e2 => ?_
  have r2 := e2.at r1 (fun h => h)
  simp! only [y1]
  exact hP m2 ((x0.trans e1).trans e2)
theorem w_word_NoSize {k : Int} {a b : D} {P : D → Store → Prop} (h : f_law_made ns [.int k, a, b] μ = .ex (.mk "NoSize" []) μ) (hP : ∀ m, Ex0 μ m → P (.str "size") m) : Ok (f_law_word ns [.int k, a, b] μ) P := by
  have hc : decide (("NoSize" : Str) ∈ caught) = true := by decide +kernel
  refine ok_run rfl ?_
  show Ok (b_law_word ns [some (.int k), some a, some b, none] μ) _
  simp! only [b_law_word, h, hc]
  have x0 : Ex0 μ (μ ++ [MO.exc "NoSize"]) := ex_app _
  have r0 : (μ ++ [MO.exc "NoSize"])[μ.length]? = some (.exc "NoSize") := app_eq rfl
  generalize μ ++ [MO.exc "NoSize"] = m0 at *
  generalize μ.length = L at *
  simp! only [r0, t_NoSize_NoWidth]
  refine w_just_NoSize r0 fun m1 e1 => ?_
  have r1 := e1.at r0 (fun h => h)
  simp! only [r1, t_NoSize_NoSpare]
  refine w_just_NoSize r1 fun m2 e2 => ?_
  have r2 := e2.at r1 (fun h => h)
  simp! only [r2, t_NoSize_NoSize]
  refine w_just_NoSize r2 fun m3 e3 => ?_
  simp! only [y1]
  exact hP m3 (((x0.trans e1).trans e2).trans e3)
theorem at_chk {f : Nat → Bool} (h : upTo 64 (fun k => frc (k + 1) f) = true) {w : Nat} (w1 : 1 ≤ w) (w2 : w ≤ 64) : f w = true := by
  have := upTo_at h (i := w - 1) (by omega)
  rw [frc_eq, show w - 1 + 1 = w by omega] at this
  exact this
def rul (k w s : Nat) : Pa := match k with
  | 0 => .st w
  | 1 => byO 66 w
  | 2 => byH 8 w
  | 3 => byP 8 w
  | 4 => byT w
  | 5 => spr 8 w s
  | _ => byB w s
def rOk (k s : Nat) : Prop := (k < 5 → s = 0) ∧ (k = 5 → s ≤ 6) ∧ (k = 6 → 1 ≤ s ∧ s ≤ 64)
theorem rul_dep {k w s : Nat} (hk : k < 7) (h1 : 1 ≤ w) (h2 : w ≤ 64) (hs : rOk k s) : dep (rul k w s) ≤ 70 := by
  match k, hk, hs with
  | 0, _, _ => exact (chk_at (at_chk c0 h1 h2)).1.de
  | 1, _, _ => exact (chk_at (at_chk c1 h1 h2)).1.de
  | 2, _, _ => exact (chk_at (at_chk c2 h1 h2)).1.de
  | 3, _, _ => exact (chk_at (at_chk c3 h1 h2)).1.de
  | 4, _, _ => exact (chk_at (at_chk c4 h1 h2)).1.de
  | 5, _, hs =>
    have hc := upTo_at (at_chk c5 h1 h2) (i := s) (by have := hs.2.1 rfl; omega)
    rw [frc_eq] at hc
    exact (chk_at hc).1.de
  | 6, _, hs =>
    obtain ⟨z1, z2⟩ := hs.2.2 rfl
    have := (byB_ok h1 h2 z1 z2).1.de
    show dep (byB w s) ≤ 70
    omega
theorem e_rmade {k w s : Nat} (hk : k < 7) (h1 : 1 ≤ w) (h2 : w ≤ 64) (hs : rOk k s) : f_law_made ns [.int (k : Nat), .int (w : Nat), .int (s : Nat)] μ = .ok (paD (rul k w s)) μ := by
  rw [made_k hk]
  match k, hk, hs with
  | 0, _, _ => exact e_bysteps2 h1 h2
  | 1, _, _ => exact e_byone 66 w h1 h2 (by omega) (by decide)
  | 2, _, _ => exact e_byhalves 8 w h1 h2 (by omega) (by decide)
  | 3, _, _ => exact e_bypairs 8 w h1 h2 (by omega) (by decide)
  | 4, _, _ => exact e_bytwos h1 h2
  | 5, _, hs => exact e_spared 8 w s h1 h2 (by omega) (by decide) (hs.2.1 rfl)
  | 6, _, hs => exact e_byblocks h1 h2 (hs.2.2 rfl).1 (hs.2.2 rfl).2
theorem w_rrule {k w s : Nat} {P : D → Store → Prop} (hk : k < 7) (h1 : 1 ≤ w) (h2 : w ≤ 64) (hs : rOk k s) (hP : ∀ m, Ex0 μ m → P (paD (rul k w s)) m) : Ok (f_law_rule 66 ns [.int (k : Nat), .int (w : Nat), .int (s : Nat)] μ) P := by
  match k, hk, hs with
  | 0, _, hs => obtain rfl := hs.1 (by decide); exact w_r0 (hP μ Ex.refl)
  | 1, _, hs => obtain rfl := hs.1 (by decide); exact w_r1 66 w μ P h1 h2 (by omega) (by decide) hP
  | 2, _, hs => obtain rfl := hs.1 (by decide); exact w_r2 8 58 w μ P h1 h2 (by omega) (by decide) hP
  | 3, _, hs => obtain rfl := hs.1 (by decide); exact w_r3 8 58 w μ P h1 h2 (by omega) (by decide) hP
  | 4, _, hs => obtain rfl := hs.1 (by decide); exact w_r4 (n := 65) h1 h2 hP
  | 5, _, hs => exact w_r5 8 58 w s μ P h1 h2 (by omega) (by decide) (hs.2.1 rfl) hP
  | 6, _, hs => exact w_r6 (k := 57) h1 h2 (hs.2.2 rfl).1 (hs.2.2 rfl).2 hP
theorem w_right {k w s : Nat} {P : D → Store → Prop} (hk : k < 7) (h1 : 1 ≤ w) (h2 : w ≤ 64) (hs : rOk k s) (hP : ∀ m, Ex0 μ m → P (.bl true) m) : Ok (f_law_right ns [.int (k : Nat), .int (w : Nat), .int (s : Nat)] μ) P := by
  refine ok_run rfl ?_
  show Ok (b_law_right ns [some (.int (k : Nat)), some (.int (w : Nat)), some (.int (s : Nat))] μ) _
  simp! only [b_law_right, e_rmade hk h1 h2 hs]
  refine w_rrule hk h1 h2 hs fun m e => ?_
  simp! only [e_same 140 _ (ts_pa 70 _ (rul_dep hk h1 h2 hs))]
  exact hP m e
end
end LW

end
section
set_option Elab.async false
set_option linter.all false
set_option maxRecDepth 100000
set_option maxHeartbeats 1000000
namespace LW
open PySem PySem.Spec PyProof.Rows L2 Ev Xc
section
local macro_rules | `(tactic| simp! only [$s,*]) => `(tactic| try simp (disch := (first | assumption | omega | (simp only [List.length_cons, List.length_nil, List.length_append, List.length_map, List.length_set, List.length_replicate, List.length_take, List.length_drop, List.length_reverse, List.length_range] <;> omega) | fail)) only [↓wOk, ↓wBad, ↓wExc, ↓wC, ↓wV, ↓wBin, ↓wACons, ↓wANil, ↓wBi, ↓wCall, ↓wTup, ↓wLst, ↓wB1, ↓wNot, ↓wOr, ↓wAnd, ↓wTru, ↓wEAnd, ↓wENot, ↓wChain, ↓wIf, ↓wAsg, ↓wGN, ↓wRet, ↓wNx, ↓wDrop, ↓wAdd, ↓wSub, ↓wCmp, Ev.eq_int, ↓wEqI, ↓wNeI, y1, y2, y3, y4, y5, y6, y7, y8, y9, y10, y11, y12, y13, y14, y15, y16, y17, y18, y19, y20, y21, y22, y23, y24, y25, y26, y27, y28, y29, y30, y31, y32, y33, y34, y35, y36, y37, y38, y39, y40, y41, tru1, tru2, tru3, tru5, tru6, isD1, isD2, beq1, beq2, beq3, beq4, ty1, ty2, ty3, ty4, ty5, ty6, ty7, it00, it01, it02, it03, it04, it05, it10, it11, it12, it13, it14, it15, it20, it21, it22, it23, it24, it25, it30, it31, it32, it33, it34, it35, it40, it41, it42, it43, it44, it45, it50, it51, it52, it53, it54, it55, it60, it61, it62, it63, it64, it65, im0, im1, im2, im3, im4, im5, ↓xSeq, ↓xIx, seq_tup, seq_obj, lst_obj, ↓xLenT, ↓xLenO, ↓xListT, ↓xListO, ↓xTupleT, ↓xTupleO, ↓xIntI, ↓xIntB, ↓xAbs, ↓xMax2, ↓xMin2, ↓xMod, ↓xDiv, ↓xMulL, ↓xMulR, cut_to, cut_from, cut_all, cut_ft, cut_m1, rep_flat, ↓xRepT, ↓xRepL, ↓xAddT, ↓xAddO, ↓xIs, ↓xEq, ↓xNe, ↓xBIs, ↓xMt, isL_obj, ↓xApp, ↓xRev, ↓xSl, ↓xON, ↓xOS, ↓xSlT, ↓xSlO, ↓xRevL, ↓xRevT, ↓xNeg, ↓xMkT, ↓xMkL, ↓xGT, ↓xGC, ↓xGNil, ↓xGIx, ↓xSetD, ↓xEIf, ↓xEOr, ↓xD0, ↓xNever, ↓xRetN, ↓xBrk, ↓xCnt, ↓xAug, at_nn, ixN_nn, app_lt, app_eq, set_eq, set_ne, set_app, ↓xFor, ↓xR1, ↓xR2, ↓xTupF, ↓xEn, rngC, rngC2, ↓xForL, ↓xNox, ↓xNoxF, ↓xTry, ↓xIsX, ↓xLc, ↓xIK, ↓xIL, ↓xZp, ↓xYes, seq_net, ↓xGTn, ↓xIn, ↓xAllN, ↓xTupN, ↓xOrV, ↓xLrng, rngL, ↓xR3, ↓xForG, ↓xIRv, ↓xTryR, ↓xGDix, ↓xRr, ↓xEnL, ↓xEnL0, ↓xDc, ↓xTupG, ↓xU, ↓xZp3, ↓xLrev, ↓xLrng2, rngL2, ↓xAugM, mulC, ↓xShl1, ↓xR3p, ↓xDivW, Int.reduceToNat, Nat.reduceAdd, Nat.reduceLT, Nat.reduceLeDiff, Int.reduceAdd, Int.reduceNeg, Nat.reduceEqDiff, reduceCtorEq, reduceIte, Int.reduceLT, Int.reduceLE, Int.reduceEq, Int.reduceSub, Int.reduceMul, beq_self_eq_true, $s,*])
variable {ns : List Int} {μ μ' μ'' : Store} {ρ : Ro}
theorem eqW {s : Str} (h : PyData.canLay0 (.str s) = true) : eqD ns μ (.str s) (.str s) = some true := by
  rw [eqD_of (Py.str h) (Py.str h) (by decide) (by decide) (by decide) (by decide)]; exact congrArg some (by simp [PyData.eqv])
theorem made_noW {k : Nat} {d x : D} (hk : k < 7) (h : Dt μ d) (hb : betw 1 64 d = false) : f_law_made ns [.int (k : Nat), d, x] μ = .ex (.mk "NoWidth" []) μ := by
  rw [made_k hk]
  match k, hk with
  | 0, _ => exact steps_no h hb
  | 1, _ => exact one_no h hb
  | 2, _ => exact halves_no h hb
  | 3, _ => exact pairs_no h hb
  | 4, _ => exact twos_no h hb
  | 5, _ => exact spared_no h hb
  | 6, _ => exact blocks_no h hb
theorem made_noS {w : Nat} {d : D} (h1 : 1 ≤ w) (h2 : w ≤ 64) (h : Dt μ d) (hb : betw 0 6 d = false) : f_law_made ns [.int 5, .int (w : Nat), d] μ = .ex (.mk "NoSpare" []) μ := by
  rw [show (5 : Int) = ((5 : Nat) : Int) from rfl, made_k (by decide)]
  exact spared_no2 h1 h2 h hb
theorem made_noZ {w : Nat} {d : D} (h1 : 1 ≤ w) (h2 : w ≤ 64) (h : Dt μ d) (hb : betw 1 64 d = false) : f_law_made ns [.int 6, .int (w : Nat), d] μ = .ex (.mk "NoSize" []) μ := by
  rw [show (6 : Int) = ((6 : Nat) : Int) from rfl, made_k (by decide)]
  exact blocks_no2 h1 h2 h hb
theorem w_now {far : Int} {P : D → Store → Prop} (f0 : 0 ≤ far) (hP : ∀ r m xs, Ex0 μ m → m[r]? = some (.lst xs) → (∀ m', Ex0 m m' → ∀ x ∈ xs, Dt m' x) → (∀ x ∈ xs, betw 1 64 x = false) → P (.ob r) m) : Ok (f_law_no_widths ns [.int far] μ) P := by
  refine ok_run rfl ?_
  show Ok (b_law_no_widths ns [some (.int far)] μ) _
  simp! only [b_law_no_widths]
  refine hP (μ.length + 1 + 1) _ [D.int 0, D.int 65, D.int (-1), D.int (65 + far), D.int (-far - 1), D.bl true, D.bl false, D.non, D.str "3", D.ob μ.length, D.tup [D.int 3], D.ob (μ.length + 1)] (((ex_app _).app _).app _) (app_eq (by simp)) (fun m' e x hx => ?_) fun x hx => ?_
  · simp only [List.mem_cons, List.not_mem_nil, or_false] at hx
    rcases hx with rfl | rfl | rfl | rfl | rfl | rfl | rfl | rfl | rfl | rfl | rfl | rfl
    · exact .int _
    · exact .int _
    · exact .int _
    · exact .int _
    · exact .int _
    · exact .bl _
    · exact .bl _
    · exact .non
    · exact .str _
    · exact .obl (e.at (k := μ.length) (o := .lst [D.int 3]) ((app_lt (by simp)).trans ((app_lt (by simp)).trans (app_eq rfl))) fun h => h)
    · exact .tup fun y hy => by simp at hy; subst hy; exact .int _
    · exact .obd (e.at (k := μ.length + 1) (o := .dic []) ((app_lt (by simp)).trans (app_eq (by simp))) fun h => h)
  · simp only [List.mem_cons, List.not_mem_nil, or_false] at hx
    rcases hx with rfl | rfl | rfl | rfl | rfl | rfl | rfl | rfl | rfl | rfl | rfl | rfl <;> simp [betw] <;> omega
theorem w_refused {k w : Nat} {far : Int} {P : D → Store → Prop} (hk : k < 7) (h1 : 1 ≤ w) (h2 : w ≤ 64) (f0 : 0 ≤ far) (hP : ∀ m, Ex0 μ m → P (.bl true) m) : Ok (f_law_refused ns [.int (k : Nat), .int (w : Nat), .int far] μ) P := by
  have eW : ∀ m : Store, eqD ns m (.str "width") (.str "width") = some true := fun m => eqW (by decide +kernel)
  have eS : ∀ m : Store, eqD ns m (.str "spare") (.str "spare") = some true := fun m => eqW (by decide +kernel)
  have eZ : ∀ m : Store, eqD ns m (.str "size") (.str "size") = some true := fun m => eqW (by decide +kernel)
  refine ok_run rfl ?_
  show Ok (b_law_refused ns [some (.int (k : Nat)), some (.int (w : Nat)), some (.int far), none] μ) _
  simp! only [b_law_refused]
  refine w_now f0 fun r m xs e0 hr hd hb => ?_
  simp! only [hr]
  refine ok_loopL (fun i ρ m1 => (∃ a3, ρ = [some (.int (k : Nat)), some (.int (w : Nat)), some (.int far), a3]) ∧ Ex0 m m1) ⟨⟨_, rfl⟩, Ex.refl⟩ (fun i ρ m1 h => h.2.at hr fun h => h) ?_ ?_
  · rintro i d ρ m1 hi ⟨⟨a3, rfl⟩, me⟩
    have hm := List.mem_of_getElem? hi
    simp! only [b_law_refused_0b]
    refine w_word_NoWidth (made_noW hk (hd m1 me d hm) (hb d hm)) fun m2 e2 => ?_
    simp! only [eW]
    refine w_word_NoWidth (made_noW hk (hd m2 (me.trans e2) d hm) (hb d hm)) fun m3 e3 => ?_
    simp! only [eW]
    exact ⟨⟨_, rfl⟩, (me.trans e2).trans e3⟩
  · rintro ρ m1 ⟨⟨a3, rfl⟩, me⟩
    have E1 := e0.trans me
    have fin2 : ∀ (m2 : Store) (a3 : Option D), Ex0 μ m2 → Ok (b_law_refused_2 ns [some (.int (k : Nat)), some (.int (w : Nat)), some (.int far), a3] m2) fun f μ1 => (match f with | .rt d => P d μ1 | .nx _ => P .non μ1 | _ => False) := by
      intro m2 a3 E2
      simp! only [b_law_refused_2]
      refine ⟨fun h6 => ?_, fun _ => ?_⟩
      · simp! only [b_law_refused_2b]
        refine w_now f0 fun r2 m3 xs2 e3 hr2 hd2 hb2 => ?_
        simp! only [hr2]
        refine ok_loopL (fun i ρ m4 => (∃ a3, ρ = [some (.int (k : Nat)), some (.int (w : Nat)), some (.int far), a3]) ∧ Ex0 m3 m4) ⟨⟨_, rfl⟩, Ex.refl⟩ (fun i ρ m1 h => h.2.at hr2 fun h => h) ?_ ?_
        · rintro i d ρ m4 hi ⟨⟨a3, rfl⟩, me⟩
          have hm := List.mem_of_getElem? hi
          simp! only [b_law_refused_2b_0b]
          refine w_word_NoSize (made_noZ h1 h2 (hd2 m4 me d hm) (hb2 d hm)) fun m5 e5 => ?_
          simp! only [eZ]
          exact ⟨⟨_, rfl⟩, me.trans e5⟩
        · rintro ρ m4 ⟨⟨a3, rfl⟩, me⟩
          simp! only [b_law_refused_3]
          exact hP m4 ((E2.trans e3).trans me)
      · simp! only [b_law_refused_3]
        exact hP m2 E2
    simp! only [b_law_refused_1]
    refine ⟨fun h5 => ?_, fun _ => fin2 m1 _ E1⟩
    simp! only [b_law_refused_1b]
    generalize hs : [D.int (-1), D.int 7, D.int (7 + far), D.int (-far - 1), D.bl true, D.bl false, D.non, D.str "1", D.ob m1.length, D.tup [], D.ob (m1.length + 1)] = xs3
    have hd3 : ∀ m', Ex0 (m1 ++ [MO.lst [D.int 1]] ++ [MO.dic []] ++ [MO.lst xs3]) m' → ∀ x ∈ xs3, Dt m' x := by
      intro m' e x hx
      rw [← hs] at hx
      simp only [List.mem_cons, List.not_mem_nil, or_false] at hx
      rcases hx with rfl | rfl | rfl | rfl | rfl | rfl | rfl | rfl | rfl | rfl | rfl
      · exact .int _
      · exact .int _
      · exact .int _
      · exact .int _
      · exact .bl _
      · exact .bl _
      · exact .non
      · exact .str _
      · exact .obl (e.at (k := m1.length) (o := .lst [D.int 1]) ((app_lt (by simp)).trans ((app_lt (by simp)).trans (app_eq rfl))) fun h => h)
      · exact .tup fun y hy => by simp at hy
      · exact .obd (e.at (k := m1.length + 1) (o := .dic []) ((app_lt (by simp)).trans (app_eq (by simp))) fun h => h)
    have hb3 : ∀ x ∈ xs3, betw 0 6 x = false := by
      intro x hx
      rw [← hs] at hx
      simp only [List.mem_cons, List.not_mem_nil, or_false] at hx
      rcases hx with rfl | rfl | rfl | rfl | rfl | rfl | rfl | rfl | rfl | rfl | rfl <;> simp [betw] <;> omega
    have hl3 : xs3.length = 11 := by rw [← hs]; rfl
    have hr3 : (m1 ++ [MO.lst [D.int 1]] ++ [MO.dic []] ++ [MO.lst xs3])[m1.length + 1 + 1]? = some (.lst xs3) := app_eq (by simp)
    have E3 : Ex0 μ (m1 ++ [MO.lst [D.int 1]] ++ [MO.dic []] ++ [MO.lst xs3]) := ((E1.app _).app _).app _
    clear hs
    generalize m1 ++ [MO.lst [D.int 1]] ++ [MO.dic []] ++ [MO.lst xs3] = m2 at *
    generalize m1.length + 1 + 1 = r3 at *
    rw [show (11 : Nat) = xs3.length from hl3.symm]
    refine ok_loopL (fun i ρ m4 => (∃ a3, ρ = [some (.int (k : Nat)), some (.int (w : Nat)), some (.int far), a3]) ∧ Ex0 m2 m4) ⟨⟨_, rfl⟩, Ex.refl⟩ (fun i ρ m1 h => h.2.at hr3 fun h => h) ?_ ?_
    · rintro i d ρ m4 hi ⟨⟨a3, rfl⟩, me⟩
      have hm := List.mem_of_getElem? hi
      simp! only [b_law_refused_1b_0b]
      refine w_word_NoSpare (made_noS h1 h2 (hd3 m4 me d hm) (hb3 d hm)) fun m5 e5 => ?_
      simp! only [eS]
      exact ⟨⟨_, rfl⟩, me.trans e5⟩
    · rintro ρ m4 ⟨⟨a3, rfl⟩, me⟩
      simp! only [y1]
      exact fin2 m4 _ (E3.trans me)
end
end LW

end
section
set_option Elab.async false
set_option linter.all false
set_option maxRecDepth 100000
set_option maxHeartbeats 1000000
namespace LW
open PySem PySem.Spec PyProof.Rows L2 Ev Xc
section
local macro_rules | `(tactic| simp! only [$s,*]) => `(tactic| try simp (disch := (first | assumption | omega | (simp only [List.length_cons, List.length_nil, List.length_append, List.length_map, List.length_set, List.length_replicate, List.length_take, List.length_drop, List.length_reverse, List.length_range] <;> omega) | fail)) only [↓wOk, ↓wBad, ↓wExc, ↓wC, ↓wV, ↓wBin, ↓wACons, ↓wANil, ↓wBi, ↓wCall, ↓wTup, ↓wLst, ↓wB1, ↓wNot, ↓wOr, ↓wAnd, ↓wTru, ↓wEAnd, ↓wENot, ↓wChain, ↓wIf, ↓wAsg, ↓wGN, ↓wRet, ↓wNx, ↓wDrop, ↓wAdd, ↓wSub, ↓wCmp, Ev.eq_int, ↓wEqI, ↓wNeI, y1, y2, y3, y4, y5, y6, y7, y8, y9, y10, y11, y12, y13, y14, y15, y16, y17, y18, y19, y20, y21, y22, y23, y24, y25, y26, y27, y28, y29, y30, y31, y32, y33, y34, y35, y36, y37, y38, y39, y40, y41, tru1, tru2, tru3, tru5, tru6, isD1, isD2, beq1, beq2, beq3, beq4, ty1, ty2, ty3, ty4, ty5, ty6, ty7, it00, it01, it02, it03, it04, it05, it10, it11, it12, it13, it14, it15, it20, it21, it22, it23, it24, it25, it30, it31, it32, it33, it34, it35, it40, it41, it42, it43, it44, it45, it50, it51, it52, it53, it54, it55, it60, it61, it62, it63, it64, it65, im0, im1, im2, im3, im4, im5, ↓xSeq, ↓xIx, seq_tup, seq_obj, lst_obj, ↓xLenT, ↓xLenO, ↓xListT, ↓xListO, ↓xTupleT, ↓xTupleO, ↓xIntI, ↓xIntB, ↓xAbs, ↓xMax2, ↓xMin2, ↓xMod, ↓xDiv, ↓xMulL, ↓xMulR, cut_to, cut_from, cut_all, cut_ft, cut_m1, rep_flat, ↓xRepT, ↓xRepL, ↓xAddT, ↓xAddO, ↓xIs, ↓xEq, ↓xNe, ↓xBIs, ↓xMt, isL_obj, ↓xApp, ↓xRev, ↓xSl, ↓xON, ↓xOS, ↓xSlT, ↓xSlO, ↓xRevL, ↓xRevT, ↓xNeg, ↓xMkT, ↓xMkL, ↓xGT, ↓xGC, ↓xGNil, ↓xGIx, ↓xSetD, ↓xEIf, ↓xEOr, ↓xD0, ↓xNever, ↓xRetN, ↓xBrk, ↓xCnt, ↓xAug, at_nn, ixN_nn, app_lt, app_eq, set_eq, set_ne, set_app, ↓xFor, ↓xR1, ↓xR2, ↓xTupF, ↓xEn, rngC, rngC2, ↓xForL, ↓xNox, ↓xNoxF, ↓xTry, ↓xIsX, ↓xLc, ↓xIK, ↓xIL, ↓xZp, ↓xYes, seq_net, ↓xGTn, ↓xIn, ↓xAllN, ↓xTupN, ↓xOrV, ↓xLrng, rngL, ↓xR3, ↓xForG, ↓xIRv, ↓xTryR, ↓xGDix, ↓xRr, ↓xEnL, ↓xEnL0, ↓xDc, ↓xTupG, ↓xU, ↓xZp3, ↓xLrev, ↓xLrng2, rngL2, ↓xAugM, mulC, ↓xShl1, ↓xR3p, ↓xDivW, Int.reduceToNat, Nat.reduceAdd, Nat.reduceLT, Nat.reduceLeDiff, Int.reduceAdd, Int.reduceNeg, Nat.reduceEqDiff, reduceCtorEq, reduceIte, Int.reduceLT, Int.reduceLE, Int.reduceEq, Int.reduceSub, Int.reduceMul, beq_self_eq_true, $s,*])
variable {ns : List Int} {μ μ' μ'' : Store} {ρ : Ro}
theorem w_law (hn : ns.length ≤ 63) : Ok (f_law ns [.scr] []) fun d _ => d = .bl true := by
  refine ok_run rfl ?_
  show Ok (b_law ns [some .scr, none, none, none, none, none, none, none, none] []) _
  simp! only [b_law]
  refine w_deck hn fun m0 dk0 l0 => ?_
  simp! only [y1]
  simp! only [b_law_1]
  have a0 : (m0 ++ [MO.lst [D.int 1, D.int 2, D.int 3, D.int 64]])[m0.length]? = some (.lst [D.int 1, D.int 2, D.int 3, D.int 64]) := app_eq rfl
  have k0 := dk0.app [MO.lst [D.int 1, D.int 2, D.int 3, D.int 64]]
  have l1 : (m0 ++ [MO.lst [D.int 1, D.int 2, D.int 3, D.int 64]]).length = 4 := by simp [l0]
  rw [l0] at *
  generalize m0 ++ [MO.lst [D.int 1, D.int 2, D.int 3, D.int 64]] = m1 at *
  refine ok_lcG ((List.range 4).map fun (k : Nat) => D.int (k : Nat)) (fun i ys m => ∃ ws : List Nat, ys = ws.map (fun (x : Nat) => D.int (x : Nat)) ∧ ws.length = i ∧ (∀ x ∈ ws, 1 ≤ x ∧ x ≤ 64) ∧ Dk (i : Nat) m ∧ m[4]? = some (.lst ys) ∧ m[3]? = some (.lst [D.int 1, D.int 2, D.int 3, D.int 64])) (by simp) (by first | decide | omega | simp) ⟨[], rfl, rfl, by simp, by simpa using k0.app _, app_eq (by omega), (app_lt (by omega)).trans a0⟩ ?_ ?_ ?_ ?_
  · rintro i ys m ⟨ws, rfl, wl, _, _, ms, _⟩
    exact ⟨ms, by simp; omega⟩
  · rintro i ys m ⟨ws, rfl, wl, _, _, ms, _⟩
    rfl
  · rintro i d ys m hd ⟨ws, rfl, wl, hw, dk, ms, m3⟩
    have hi : i < 4 := by have := (List.getElem?_eq_some_iff.mp hd).1; simpa using this
    refine ⟨_, rfl, ?_⟩
    simp only [wipeR]
    simp! only [y1]
    refine w_take dk (by decide) (by decide) (by omega) fun x m2 x0 x1 k1 e1 => ?_
    obtain ⟨x, rfl⟩ : ∃ n : Nat, x = n := ⟨x.toNat, by omega⟩
    simp! only [y1]
    have ms2 := e1.at ms (by show ¬ 4 < 3; omega)
    have m32 := e1.at m3 (by show ¬ 3 < 3; omega)
    refine ⟨ms2, ws ++ [x + 1], ?_, by simp; omega, ?_, ?_, by first | exact rfl | exact set_eq rfl (lt_of_at ms2), by first | exact m32 | exact (set_ne (by decide)).trans m32⟩
    · rw [List.map_append]
      show _ ++ [D.int (1 + (x : Nat))] = _ ++ [D.int ((x + 1 : Nat) : Int)]
      congr 3; omega
    · intro y hy
      rcases List.mem_append.mp hy with h | h
      · exact hw y h
      · simp at h; subst h; omega
    · exact (k1.set (by omega)).mono (by omega)
  · rintro ys m ⟨ws, rfl, wl, hw, dk, ms, m3⟩
    rw [List.length_map, List.length_range] at wl dk
    have wml : (ws.map fun (x : Nat) => D.int (x : Nat)).length = 4 := by rw [List.length_map, wl]
    simp! only [ms, m3, wml]
    have ew : (D.int 1 :: D.int 2 :: D.int 3 :: D.int 64 :: List.map (fun (x : Nat) => D.int (x : Nat)) ws) = ([1, 2, 3, 64] ++ ws).map fun (x : Nat) => D.int (x : Nat) := rfl
    rw [ew]
    have hall : ∀ x ∈ [1, 2, 3, 64] ++ ws, 1 ≤ x ∧ x ≤ 64 := by
      intro x hx
      rcases List.mem_append.mp hx with h | h
      · simp only [List.mem_cons, List.not_mem_nil, or_false] at h
        omega
      · exact hw x h
    have hl8 : ([1, 2, 3, 64] ++ ws).length = 8 := by simp [wl]
    have a8 : (m ++ [MO.lst (([1, 2, 3, 64] ++ ws).map fun (x : Nat) => D.int (x : Nat))])[m.length]? = some (.lst (([1, 2, 3, 64] ++ ws).map fun (x : Nat) => D.int (x : Nat))) := app_eq rfl
    have k8 := dk.app [MO.lst (([1, 2, 3, 64] ++ ws).map fun (x : Nat) => D.int (x : Nat))]
    have h83 : 3 ≤ m.length := dk.pos
    generalize m ++ [MO.lst (([1, 2, 3, 64] ++ ws).map fun (x : Nat) => D.int (x : Nat))] = m8 at *
    generalize m.length = W at *
    generalize [1, 2, 3, 64] ++ ws = vs at *
    have hpw : ∀ m : Store, opPow (.int 10) (.int 15) m = .ok (.int 1000000000000000) m := fun m => by unfold opPow; simp only; rw [if_pos (by decide)]; rfl
    simp! only [b_law_2, hpw]
    refine w_take k8 (by decide) (by decide) (by omega) fun far m9 f0 f1 k9 e9 => ?_
    simp! only [y1]
    have a9 := e9.at a8 (by show ¬ W < 3; omega)
    have vml : (vs.map fun (x : Nat) => D.int (x : Nat)).length = 8 := by rw [List.length_map, hl8]
    simp! only [b_law_3, a9]
    rw [show vs.length = (vs.map fun (x : Nat) => D.int (x : Nat)).length from (List.length_map ..).symm]
    refine ok_loopL (fun i ρ m => (∃ a4 a5 a6 a7, ρ = [some .scr, some (.ob 2), some (.ob W), some (.int far), a4, a5, a6, a7, none]) ∧ m[W]? = some (.lst (vs.map fun (x : Nat) => D.int (x : Nat))) ∧ Dk (5 + 2 * i : Nat) m) ⟨⟨_, _, _, _, rfl⟩, a9, k9.mono (by omega)⟩ (fun i ρ m h => h.2.1) ?_ ?_
    · rintro i d ρ m hd ⟨⟨a4, a5, a6, a7, rfl⟩, mW, dm⟩
      have hi8 := (List.getElem?_eq_some_iff.mp hd).1
      rw [List.getElem?_map] at hd
      cases hv : vs[i]? with
      | none => rw [hv] at hd; cases hd
      | some v =>
        rw [hv] at hd; cases hd
        obtain ⟨v1, v2⟩ := hall v (List.mem_of_getElem? hv)
        simp! only [b_law_3b]
        refine ok_loop (fun j ρ m' => (∃ a5, ρ = [some .scr, some (.ob 2), some (.ob W), some (.int far), some (.int (v : Nat)), a5, a6, a7, none]) ∧ Ex0 m m') ⟨⟨_, rfl⟩, Ex.refl⟩ ?_ ?_
        · rintro j d ρ m' hd ⟨⟨a5, rfl⟩, me⟩
          have hj : j < 5 := by have := (List.getElem?_eq_some_iff.mp hd).1; simpa using this
          rw [List.getElem?_map, List.getElem?_range hj] at hd
          cases hd
          simp! only [b_law_3b_0b]
          refine w_right (k := j) (w := v) (s := 0) (by omega) v1 v2 ⟨fun _ => rfl, fun _ => by omega, fun h => by omega⟩ fun m2 e2 => ?_
          simp! only [y1]
          exact ⟨⟨_, rfl⟩, me.trans e2⟩
        · rintro ρ m' ⟨⟨a5, rfl⟩, me⟩
          simp! only [b_law_3b_1]
          refine ok_loop (fun j ρ m'' => (∃ a6, ρ = [some .scr, some (.ob 2), some (.ob W), some (.int far), some (.int (v : Nat)), a5, a6, a7, none]) ∧ Ex0 m m'') ⟨⟨_, rfl⟩, me⟩ ?_ ?_
          · rintro j d ρ m2 hd ⟨⟨a6, rfl⟩, me2⟩
            have hj : j < 7 := by have := (List.getElem?_eq_some_iff.mp hd).1; simpa using this
            rw [List.getElem?_map, List.getElem?_range hj] at hd
            cases hd
            simp! only [b_law_3b_1b]
            refine w_right (k := 5) (w := v) (s := j) (by omega) v1 v2 ⟨fun h => by omega, fun _ => by omega, fun h => by omega⟩ fun m3 e3 => ?_
            simp! only [y1]
            exact ⟨⟨_, rfl⟩, me2.trans e3⟩
          · rintro ρ m2 ⟨⟨a6, rfl⟩, me2⟩
            have dm2 := dm.ext me2 fun _ _ h => h
            have mW2 := me2.at mW fun h => h
            simp! only [b_law_3b_2]
            refine w_take dm2 (by decide) (by decide) (by omega) fun x m3 x0 x1 k3 e3 => ?_
            obtain ⟨x, rfl⟩ : ∃ n : Nat, x = n := ⟨x.toNat, by omega⟩
            simp! only [y1]
            refine w_take k3 (by decide) (by decide) (by omega) fun y m4 y0 y1 k4 e4 => ?_
            obtain ⟨y, rfl⟩ : ∃ n : Nat, y = n := ⟨y.toNat, by omega⟩
            simp! only [y1]
            rw [show (1 : Int) + (x : Nat) = (x + 1 : Nat) by omega, show (1 : Int) + (y : Nat) = (y + 1 : Nat) by omega]
            have mW4 := (e3.trans e4).at mW2 (by show ¬ W < 3; omega)
            have es : [D.int 1, D.int 2, D.int 3, D.int (x + 1 : Nat), D.int (y + 1 : Nat), D.int 64] = [1, 2, 3, x + 1, y + 1, 64].map fun (x : Nat) => D.int (x : Nat) := rfl
            rw [es]
            have hz : ∀ z ∈ [1, 2, 3, x + 1, y + 1, 64], 1 ≤ z ∧ z ≤ 64 := by
              intro z hz
              simp only [List.mem_cons, List.not_mem_nil, or_false] at hz
              omega
            have hzl : [1, 2, 3, x + 1, y + 1, 64].length = 6 := rfl
            generalize [1, 2, 3, x + 1, y + 1, 64] = zs at *
            have a5' : (m4 ++ [MO.lst (zs.map fun (x : Nat) => D.int (x : Nat))])[m4.length]? = some (.lst (zs.map fun (x : Nat) => D.int (x : Nat))) := app_eq rfl
            have k5 := k4.app [MO.lst (zs.map fun (x : Nat) => D.int (x : Nat))]
            have mW5 : (m4 ++ [MO.lst (zs.map fun (x : Nat) => D.int (x : Nat))])[W]? = _ := (app_lt (lt_of_at mW4)).trans mW4
            generalize m4 ++ [MO.lst (zs.map fun (x : Nat) => D.int (x : Nat))] = m5 at *
            generalize m4.length = Z at *
            rw [show (6 : Nat) = (zs.map fun (x : Nat) => D.int (x : Nat)).length by rw [List.length_map, hzl]]
            refine ok_loopL (fun j ρ m'' => (∃ a7, ρ = [some .scr, some (.ob 2), some (.ob W), some (.int far), some (.int (v : Nat)), a5, a6, a7, none]) ∧ Ex0 m5 m'') ⟨⟨_, rfl⟩, Ex.refl⟩ (fun j ρ m'' h => h.2.at a5' fun h => h) ?_ ?_
            · rintro j d ρ m6 hd ⟨⟨a7, rfl⟩, me6⟩
              rw [List.getElem?_map] at hd
              cases hz' : zs[j]? with
              | none => rw [hz'] at hd; cases hd
              | some z =>
                rw [hz'] at hd; cases hd
                obtain ⟨z1, z2⟩ := hz z (List.mem_of_getElem? hz')
                simp! only [b_law_3b_2b]
                refine w_right (k := 6) (w := v) (s := z) (by omega) v1 v2 ⟨fun h => by omega, fun h => by omega, fun _ => ⟨z1, z2⟩⟩ fun m7 e7 => ?_
                simp! only [y1]
                exact ⟨⟨_, rfl⟩, me6.trans e7⟩
            · rintro ρ m6 ⟨⟨a7, rfl⟩, me6⟩
              simp! only [y1]
              exact ⟨⟨_, _, _, _, rfl⟩, me6.at mW5 fun h => h, (k5.ext me6 fun _ _ h => h).mono (by omega)⟩
    · rintro ρ m ⟨⟨a4, a5, a6, a7, rfl⟩, mW, dm⟩
      simp! only [b_law_4]
      refine ok_loop (fun j ρ m' => (∃ a5, ρ = [some .scr, some (.ob 2), some (.ob W), some (.int far), a4, a5, a6, a7, none]) ∧ Ex0 m m') ⟨⟨_, rfl⟩, Ex.refl⟩ ?_ ?_
      · rintro j d ρ m' hd ⟨⟨a5, rfl⟩, me⟩
        have hj : j < 7 := by have := (List.getElem?_eq_some_iff.mp hd).1; simpa using this
        rw [List.getElem?_map, List.getElem?_range hj] at hd
        cases hd
        have mW' := me.at mW fun h => h
        obtain ⟨v, hv⟩ : ∃ v, vs[4 + j % 4]? = some v := ⟨_, List.getElem?_eq_getElem (show 4 + j % 4 < vs.length by omega)⟩
        obtain ⟨v1, v2⟩ := hall v (List.mem_of_getElem? hv)
        have hv2 : (vs.map fun (x : Nat) => D.int (x : Nat))[((4 : Int) + ((j : Nat) : Int) % 4).toNat]? = some (.int (v : Nat)) := by
          rw [show ((4 : Int) + ((j : Nat) : Int) % 4).toNat = 4 + j % 4 by omega, List.getElem?_map, hv]; rfl
        have hlv : (vs.map fun (x : Nat) => D.int (x : Nat)).length = 8 := vml
        have hix : ixN 8 ((4 : Int) + ((j : Nat) : Int) % 4) = some ((4 : Int) + ((j : Nat) : Int) % 4).toNat := by unfold ixN; rw [if_pos (by omega), if_pos (by omega)]
        have hat : atI (vs.map fun (x : Nat) => D.int (x : Nat)) ((4 : Int) + ((j : Nat) : Int) % 4) = some (.int (v : Nat)) := by unfold atI; rw [hlv, hix]; exact hv2
        have hv3 : vs[((4 : Int) + ((j : Nat) : Int) % 4).toNat]? = some v := by rw [show ((4 : Int) + ((j : Nat) : Int) % 4).toNat = 4 + j % 4 by omega, hv]
        simp! only [b_law_4b, mW', hv3]
        refine w_refused (k := j) (w := v) (by omega) v1 v2 f0 fun m3 e3 => ?_
        simp! only [y1]
        exact ⟨⟨_, rfl⟩, me.trans e3⟩
      · rintro ρ m' ⟨⟨a5, rfl⟩, me⟩
        have mW' := me.at mW fun h => h
        obtain ⟨v, hv⟩ : ∃ v, vs[5]? = some v := ⟨_, List.getElem?_eq_getElem (show 5 < vs.length by omega)⟩
        obtain ⟨v1, v2⟩ := hall v (List.mem_of_getElem? hv)
        have hat : atI (vs.map fun (x : Nat) => D.int (x : Nat)) 5 = some (.int (v : Nat)) := by
          unfold atI ixN; rw [vml, if_pos (by decide), if_pos (by decide)]
          show (vs.map fun (x : Nat) => D.int (x : Nat))[5]? = _
          rw [List.getElem?_map, hv]; rfl
        simp! only [b_law_5, mW', hv]
        refine w_right (k := 5) (w := v) (s := 2) (by omega) v1 v2 ⟨fun h => by omega, fun _ => by omega, fun h => by omega⟩ fun m3 e3 => ?_
        simp! only [y1]
        refine w_right (k := 1) (w := 64) (s := 0) (by omega) (by omega) (by omega) ⟨fun _ => rfl, fun h => by omega, fun h => by omega⟩ fun m4 e4 => ?_
        simp! only [y1]
theorem law_true : ∀ ns : List Int, ns.length ≤ 63 → ∃ μ, LW.f_law ns [.scr] [] = .ok (.bl true) μ := by
  intro ns hn
  obtain ⟨d, m, e, rfl⟩ := (w_law hn).ex
  exact ⟨m, e⟩
end
end LW

end
section

open PySem PySem.W PyProof.Rows
set_option maxRecDepth 100000 in
set_option maxHeartbeats 0 in
theorem PySem.Challenge.cw_sumnets_k35_rules_told_holds : PySem.Challenge.rw_sumnets_k35_rules_told.Holds := by
  w_on; o_law; k_head; (case hw => w_witness2)
  k_fill
  refine Ev.walk_ofG (l := PySem.Challenge.rw_sumnets_k35_rules_told) (n := 63) (k := 143) (x := "_law_script") (f := LW.f_law) [] rfl (by decide) rfl ⟨rfl, by decide, by decide⟩ (fun w h Y => PySem.W.kIn_of Y) (fun w => by kernel_rfl) (by decide +kernel) ?F LW.law_true
  case F =>
    intro w mg fa h KX G hmg
    refine' LW.all_mk KX G hmg ?a_is_whole ?l_is_whole ?d_is_whole ?k_is_whole ?a_is_between ?l_is_between ?d_is_between ?k_is_between ?a_look_at_width ?l_look_at_width ?d_look_at_width ?k_look_at_width ?a_half_of ?l_half_of ?d_half_of ?k_half_of ?a_pairs_of ?l_pairs_of ?d_pairs_of ?k_pairs_of ?a_by_steps ?l_by_steps ?d_by_steps ?k_by_steps ?a_by_one ?l_by_one ?d_by_one ?k_by_one ?a_by_halves ?l_by_halves ?d_by_halves ?k_by_halves ?a_by_pairs ?l_by_pairs ?d_by_pairs ?k_by_pairs ?a_by_twos ?l_by_twos ?d_by_twos ?k_by_twos ?a_spared ?l_spared ?d_spared ?k_spared ?a_by_blocks ?l_by_blocks ?d_by_blocks ?k_by_blocks ?a_law_cell ?l_law_cell ?d_law_cell ?k_law_cell ?a_law_mixed ?l_law_mixed ?d_law_mixed ?k_law_mixed ?a_law_deck ?l_law_deck ?d_law_deck ?k_law_deck ?a_law_take ?l_law_take ?d_law_take ?k_law_take ?a_law_kinds ?l_law_kinds ?d_law_kinds ?k_law_kinds ?a_law_is_just ?l_law_is_just ?d_law_is_just ?k_law_is_just ?a_law_whole ?l_law_whole ?d_law_whole ?k_law_whole ?a_law_same ?l_law_same ?d_law_same ?k_law_same ?a_law_pairs ?l_law_pairs ?d_law_pairs ?k_law_pairs ?a_law_rule ?l_law_rule ?d_law_rule ?k_law_rule ?a_law_made ?l_law_made ?d_law_made ?k_law_made ?a_law_word ?l_law_word ?d_law_word ?k_law_word ?a_law_no_widths ?l_law_no_widths ?d_law_no_widths ?k_law_no_widths ?a_law_refused ?l_law_refused ?d_law_refused ?k_law_refused ?a_law_right ?l_law_right ?d_law_right ?k_law_right ?a_law ?l_law ?d_law ?k_law ?z_ValueError ?z_abs ?z_bool ?z_int ?z_isinstance ?z_len ?z_list ?z_min ?z_range ?z_reversed ?z_str ?z_tuple ?z_zip ?z_MOST_SIZE ?z_MOST_SPARE ?z_MOST_WIDE ?z_ONE ?l_ONE ?z_TWO ?l_TWO ?a_Bracketed ?a_NetError ?a_NoDepth ?a_NoEnds ?a_NoHands ?a_NoJoining ?a_NoName ?a_NoNet ?a_NoPaper ?a_NoPlace ?a_NoRounds ?a_NoRow ?a_NoSize ?a_NoSpare ?a_NoText ?a_NoThing ?a_NoThings ?a_NoWidth ?a_NoWindow ?a_NotBeside ?a_TooMany ?a_TooShallow ?x_NoSize ?x_NoSpare ?x_NoWidth ?i1_NoWidth ?i2_NoWidth ?i3_NoWidth ?i4_NoWidth ?i5_NoWidth ?i6_NoWidth ?i7_NoWidth ?i8_NoWidth ?e_NoWidth_NetError ?r_NoWidth_Bracketed ?r_NoWidth_NetError ?r_NoWidth_NoDepth ?r_NoWidth_NoEnds ?r_NoWidth_NoHands ?r_NoWidth_NoJoining ?r_NoWidth_NoName ?r_NoWidth_NoNet ?r_NoWidth_NoPaper ?r_NoWidth_NoPlace ?r_NoWidth_NoRounds ?r_NoWidth_NoRow ?r_NoWidth_NoSize ?r_NoWidth_NoSpare ?r_NoWidth_NoText ?r_NoWidth_NoThing ?r_NoWidth_NoThings ?r_NoWidth_NoWidth ?r_NoWidth_NoWindow ?r_NoWidth_NotBeside ?r_NoWidth_TooMany ?r_NoWidth_TooShallow ?r_NoWidth_ValueError ?i1_NoSpare ?i2_NoSpare ?i3_NoSpare ?i4_NoSpare ?i5_NoSpare ?i6_NoSpare ?i7_NoSpare ?i8_NoSpare ?e_NoSpare_NetError ?r_NoSpare_Bracketed ?r_NoSpare_NetError ?r_NoSpare_NoDepth ?r_NoSpare_NoEnds ?r_NoSpare_NoHands ?r_NoSpare_NoJoining ?r_NoSpare_NoName ?r_NoSpare_NoNet ?r_NoSpare_NoPaper ?r_NoSpare_NoPlace ?r_NoSpare_NoRounds ?r_NoSpare_NoRow ?r_NoSpare_NoSize ?r_NoSpare_NoSpare ?r_NoSpare_NoText ?r_NoSpare_NoThing ?r_NoSpare_NoThings ?r_NoSpare_NoWidth ?r_NoSpare_NoWindow ?r_NoSpare_NotBeside ?r_NoSpare_TooMany ?r_NoSpare_TooShallow ?r_NoSpare_ValueError ?i1_NoSize ?i2_NoSize ?i3_NoSize ?i4_NoSize ?i5_NoSize ?i6_NoSize ?i7_NoSize ?i8_NoSize ?e_NoSize_NetError ?r_NoSize_Bracketed ?r_NoSize_NetError ?r_NoSize_NoDepth ?r_NoSize_NoEnds ?r_NoSize_NoHands ?r_NoSize_NoJoining ?r_NoSize_NoName ?r_NoSize_NoNet ?r_NoSize_NoPaper ?r_NoSize_NoPlace ?r_NoSize_NoRounds ?r_NoSize_NoRow ?r_NoSize_NoSize ?r_NoSize_NoSpare ?r_NoSize_NoText ?r_NoSize_NoThing ?r_NoSize_NoThings ?r_NoSize_NoWidth ?r_NoSize_NoWindow ?r_NoSize_NotBeside ?r_NoSize_TooMany ?r_NoSize_TooShallow ?r_NoSize_ValueError
    (case a_is_whole => k_is); (case l_is_whole => k_is); (case d_is_whole => k_is); (case k_is_whole => k_is); (case a_is_between => k_is); (case l_is_between => k_is); (case d_is_between => k_is); (case k_is_between => k_is); (case a_look_at_width => k_is); (case l_look_at_width => k_is); (case d_look_at_width => k_is); (case k_look_at_width => k_is); (case a_half_of => k_is); (case l_half_of => k_is); (case d_half_of => k_is); (case k_half_of => k_is); (case a_pairs_of => k_is); (case l_pairs_of => k_is); (case d_pairs_of => k_is); (case k_pairs_of => k_is); (case a_by_steps => k_is); (case l_by_steps => k_is); (case d_by_steps => k_is); (case k_by_steps => k_is); (case a_by_one => k_is); (case l_by_one => k_is); (case d_by_one => k_is); (case k_by_one => k_is); (case a_by_halves => k_is); (case l_by_halves => k_is); (case d_by_halves => k_is); (case k_by_halves => k_is); (case a_by_pairs => k_is); (case l_by_pairs => k_is); (case d_by_pairs => k_is); (case k_by_pairs => k_is); (case a_by_twos => k_is); (case l_by_twos => k_is); (case d_by_twos => k_is); (case k_by_twos => k_is); (case a_spared => k_is); (case l_spared => k_is); (case d_spared => k_is); (case k_spared => k_is); (case a_by_blocks => k_is); (case l_by_blocks => k_is); (case d_by_blocks => k_is); (case k_by_blocks => k_is); (case a_law_cell => k_is); (case l_law_cell => k_is); (case d_law_cell => k_is); (case k_law_cell => k_is); (case a_law_mixed => k_is); (case l_law_mixed => k_is); (case d_law_mixed => k_is); (case k_law_mixed => k_is); (case a_law_deck => k_is); (case l_law_deck => k_is); (case d_law_deck => k_is); (case k_law_deck => k_is); (case a_law_take => k_is); (case l_law_take => k_is); (case d_law_take => k_is); (case k_law_take => k_is); (case a_law_kinds => k_is); (case l_law_kinds => k_is); (case d_law_kinds => k_is); (case k_law_kinds => k_is); (case a_law_is_just => k_is); (case l_law_is_just => k_is); (case d_law_is_just => k_is); (case k_law_is_just => k_is); (case a_law_whole => k_is); (case l_law_whole => k_is); (case d_law_whole => k_is); (case k_law_whole => k_is); (case a_law_same => k_is); (case l_law_same => k_is); (case d_law_same => k_is); (case k_law_same => k_is); (case a_law_pairs => k_is); (case l_law_pairs => k_is); (case d_law_pairs => k_is); (case k_law_pairs => k_is); (case a_law_rule => k_is); (case l_law_rule => k_is); (case d_law_rule => k_is); (case k_law_rule => k_is); (case a_law_made => k_is); (case l_law_made => k_is); (case d_law_made => k_is); (case k_law_made => k_is); (case a_law_word => k_is); (case l_law_word => k_is); (case d_law_word => k_is); (case k_law_word => k_is); (case a_law_no_widths => k_is); (case l_law_no_widths => k_is); (case d_law_no_widths => k_is); (case k_law_no_widths => k_is); (case a_law_refused => k_is); (case l_law_refused => k_is); (case d_law_refused => k_is); (case k_law_refused => k_is); (case a_law_right => k_is); (case l_law_right => k_is); (case d_law_right => k_is); (case k_law_right => k_is); (case a_law => k_is); (case l_law => k_is); (case d_law => k_is); (case k_law => k_is); (case z_ValueError => k_is); (case z_abs => k_is); (case z_bool => k_is); (case z_int => k_is); (case z_isinstance => k_is); (case z_len => k_is); (case z_list => k_is); (case z_min => k_is); (case z_range => k_is); (case z_reversed => k_is); (case z_str => k_is); (case z_tuple => k_is); (case z_zip => k_is); (case z_MOST_SIZE => k_is); (case z_MOST_SPARE => k_is); (case z_MOST_WIDE => k_is); (case z_ONE => k_is); (case l_ONE => k_is); (case z_TWO => k_is); (case l_TWO => k_is); (case a_Bracketed => first | k_is | kernel_rfl); (case a_NetError => first | k_is | kernel_rfl); (case a_NoDepth => first | k_is | kernel_rfl); (case a_NoEnds => first | k_is | kernel_rfl); (case a_NoHands => first | k_is | kernel_rfl); (case a_NoJoining => first | k_is | kernel_rfl); (case a_NoName => first | k_is | kernel_rfl); (case a_NoNet => first | k_is | kernel_rfl); (case a_NoPaper => first | k_is | kernel_rfl); (case a_NoPlace => first | k_is | kernel_rfl); (case a_NoRounds => first | k_is | kernel_rfl); (case a_NoRow => first | k_is | kernel_rfl); (case a_NoSize => first | k_is | kernel_rfl); (case a_NoSpare => first | k_is | kernel_rfl); (case a_NoText => first | k_is | kernel_rfl); (case a_NoThing => first | k_is | kernel_rfl); (case a_NoThings => first | k_is | kernel_rfl); (case a_NoWidth => first | k_is | kernel_rfl); (case a_NoWindow => first | k_is | kernel_rfl); (case a_NotBeside => first | k_is | kernel_rfl); (case a_TooMany => first | k_is | kernel_rfl); (case a_TooShallow => first | k_is | kernel_rfl); (case x_NoSize => first | k_is | kernel_rfl); (case x_NoSpare => first | k_is | kernel_rfl); (case x_NoWidth => first | k_is | kernel_rfl); (case i1_NoWidth => first | k_is | kernel_rfl); (case i2_NoWidth => first | k_is | kernel_rfl); (case i3_NoWidth => first | k_is | kernel_rfl); (case i4_NoWidth => first | k_is | kernel_rfl); (case i5_NoWidth => first | k_is | kernel_rfl); (case i6_NoWidth => first | k_is | kernel_rfl); (case i7_NoWidth => first | k_is | kernel_rfl); (case i8_NoWidth => first | k_is | kernel_rfl); (case e_NoWidth_NetError => first | k_is | kernel_rfl); (case r_NoWidth_Bracketed => first | k_is | kernel_rfl); (case r_NoWidth_NetError => first | k_is | kernel_rfl); (case r_NoWidth_NoDepth => first | k_is | kernel_rfl); (case r_NoWidth_NoEnds => first | k_is | kernel_rfl); (case r_NoWidth_NoHands => first | k_is | kernel_rfl); (case r_NoWidth_NoJoining => first | k_is | kernel_rfl); (case r_NoWidth_NoName => first | k_is | kernel_rfl); (case r_NoWidth_NoNet => first | k_is | kernel_rfl); (case r_NoWidth_NoPaper => first | k_is | kernel_rfl); (case r_NoWidth_NoPlace => first | k_is | kernel_rfl); (case r_NoWidth_NoRounds => first | k_is | kernel_rfl); (case r_NoWidth_NoRow => first | k_is | kernel_rfl); (case r_NoWidth_NoSize => first | k_is | kernel_rfl); (case r_NoWidth_NoSpare => first | k_is | kernel_rfl); (case r_NoWidth_NoText => first | k_is | kernel_rfl); (case r_NoWidth_NoThing => first | k_is | kernel_rfl); (case r_NoWidth_NoThings => first | k_is | kernel_rfl); (case r_NoWidth_NoWidth => first | k_is | kernel_rfl); (case r_NoWidth_NoWindow => first | k_is | kernel_rfl); (case r_NoWidth_NotBeside => first | k_is | kernel_rfl); (case r_NoWidth_TooMany => first | k_is | kernel_rfl); (case r_NoWidth_TooShallow => first | k_is | kernel_rfl); (case r_NoWidth_ValueError => first | k_is | kernel_rfl); (case i1_NoSpare => first | k_is | kernel_rfl); (case i2_NoSpare => first | k_is | kernel_rfl); (case i3_NoSpare => first | k_is | kernel_rfl); (case i4_NoSpare => first | k_is | kernel_rfl); (case i5_NoSpare => first | k_is | kernel_rfl); (case i6_NoSpare => first | k_is | kernel_rfl); (case i7_NoSpare => first | k_is | kernel_rfl); (case i8_NoSpare => first | k_is | kernel_rfl); (case e_NoSpare_NetError => first | k_is | kernel_rfl); (case r_NoSpare_Bracketed => first | k_is | kernel_rfl); (case r_NoSpare_NetError => first | k_is | kernel_rfl); (case r_NoSpare_NoDepth => first | k_is | kernel_rfl); (case r_NoSpare_NoEnds => first | k_is | kernel_rfl); (case r_NoSpare_NoHands => first | k_is | kernel_rfl); (case r_NoSpare_NoJoining => first | k_is | kernel_rfl); (case r_NoSpare_NoName => first | k_is | kernel_rfl); (case r_NoSpare_NoNet => first | k_is | kernel_rfl); (case r_NoSpare_NoPaper => first | k_is | kernel_rfl); (case r_NoSpare_NoPlace => first | k_is | kernel_rfl); (case r_NoSpare_NoRounds => first | k_is | kernel_rfl); (case r_NoSpare_NoRow => first | k_is | kernel_rfl); (case r_NoSpare_NoSize => first | k_is | kernel_rfl); (case r_NoSpare_NoSpare => first | k_is | kernel_rfl); (case r_NoSpare_NoText => first | k_is | kernel_rfl); (case r_NoSpare_NoThing => first | k_is | kernel_rfl); (case r_NoSpare_NoThings => first | k_is | kernel_rfl); (case r_NoSpare_NoWidth => first | k_is | kernel_rfl); (case r_NoSpare_NoWindow => first | k_is | kernel_rfl); (case r_NoSpare_NotBeside => first | k_is | kernel_rfl); (case r_NoSpare_TooMany => first | k_is | kernel_rfl); (case r_NoSpare_TooShallow => first | k_is | kernel_rfl); (case r_NoSpare_ValueError => first | k_is | kernel_rfl); (case i1_NoSize => first | k_is | kernel_rfl); (case i2_NoSize => first | k_is | kernel_rfl); (case i3_NoSize => first | k_is | kernel_rfl); (case i4_NoSize => first | k_is | kernel_rfl); (case i5_NoSize => first | k_is | kernel_rfl); (case i6_NoSize => first | k_is | kernel_rfl); (case i7_NoSize => first | k_is | kernel_rfl); (case i8_NoSize => first | k_is | kernel_rfl); (case e_NoSize_NetError => first | k_is | kernel_rfl); (case r_NoSize_Bracketed => first | k_is | kernel_rfl); (case r_NoSize_NetError => first | k_is | kernel_rfl); (case r_NoSize_NoDepth => first | k_is | kernel_rfl); (case r_NoSize_NoEnds => first | k_is | kernel_rfl); (case r_NoSize_NoHands => first | k_is | kernel_rfl); (case r_NoSize_NoJoining => first | k_is | kernel_rfl); (case r_NoSize_NoName => first | k_is | kernel_rfl); (case r_NoSize_NoNet => first | k_is | kernel_rfl); (case r_NoSize_NoPaper => first | k_is | kernel_rfl); (case r_NoSize_NoPlace => first | k_is | kernel_rfl); (case r_NoSize_NoRounds => first | k_is | kernel_rfl); (case r_NoSize_NoRow => first | k_is | kernel_rfl); (case r_NoSize_NoSize => first | k_is | kernel_rfl); (case r_NoSize_NoSpare => first | k_is | kernel_rfl); (case r_NoSize_NoText => first | k_is | kernel_rfl); (case r_NoSize_NoThing => first | k_is | kernel_rfl); (case r_NoSize_NoThings => first | k_is | kernel_rfl); (case r_NoSize_NoWidth => first | k_is | kernel_rfl); (case r_NoSize_NoWindow => first | k_is | kernel_rfl); (case r_NoSize_NotBeside => first | k_is | kernel_rfl); (case r_NoSize_TooMany => first | k_is | kernel_rfl); (case r_NoSize_TooShallow => first | k_is | kernel_rfl); (case r_NoSize_ValueError => first | k_is | kernel_rfl)
#print axioms PySem.Challenge.cw_sumnets_k35_rules_told_holds

end

