import PyProof.Rows.All
import Wide.All
import OpenK.AllK
import Wide.FinOn
import Lean
import PyProof.EqAt
import PyProof.EqKinds
import PyProof.TupleCall
import PyProof.NeKinds
import PyProof.EnumStmt
import PyProof.WalkInts
import PyProof.ZipIter
import PyProof.Rows.ZipGen
import PyProof.Rows.SumAny
import PyProof.ReprBulk
import PyProof.FitsInt
import PyProof.CallStr
import PyProof.StrBlockI
import PyProof.StrCalls2
import PyProof.FactsAll.str_0
import PyProof.FactsAll.str_5
import PyProof.FactsAll.str_8
import KE.KTryMore
import PyProof.NsDelKeeps
import PyProof.ExcArgsOwn
import PyProof.ExcBaseAll.ValueError
import PySem.Challenge.RW_nearsums_k32_no_kinds_of_lengths
set_option Elab.async false
set_option linter.all false
set_option maxRecDepth 100000
/-! THE HAND LAYER, for ints, bools, texts, own classes, LISTS and tuples (index, slices, in, append, pop ..), calls, loops. Paste it whole ahead of your own text; what your proof does not reach may be deleted. -/
namespace L2
open PySem PySem.Spec PyProof.Rows

/-- a key: an int or a str -/
abbrev Key := Sum Int Str
def keyIs : Key → Value → Bool
  | .inl k, v => Value.isInt k v
  | .inr x, v => Value.isStrOf x v
def keyH (w : World) : Key → Int
  | .inl k => hashInt k
  | .inr x => hashStr w x
theorem keyIs_shape : ∀ {k : Key} {v : Value}, keyIs k v = true → (∃ i t, k = Sum.inl i ∧ v = Value.int i t) ∨ (∃ x t, k = Sum.inr x ∧ v = Value.str x t)
  | .inl i, v, h => by
    obtain ⟨t, e⟩ := Value.isInt_shape (k := i) (v := v) h
    exact .inl ⟨i, t, rfl, e⟩
  | .inr x, v, h => by
    obtain ⟨t, e⟩ := Value.isStrOf_shape (x := x) (v := v) h
    exact .inr ⟨x, t, rfl, e⟩
theorem keyIs_int (i : Int) (t : Tok) : keyIs (.inl i) (.int i t) = true := by simp [keyIs, Value.isInt]
theorem keyIs_str (x : Str) (t : Tok) : keyIs (.inr x) (.str x t) = true := by simp [keyIs, Value.isStrOf]
theorem key_ll (a b : Int) : decide ((Sum.inl a : Key) = Sum.inl b) = (a == b) := by
  by_cases e : a = b
  · subst e; simp
  · have h : ¬ (Sum.inl a : Key) = Sum.inl b := fun q => e (Sum.inl.inj q)
    rw [decide_eq_false h]
    exact (beq_eq_false_iff_ne.mpr e).symm
theorem key_rr (a b : Str) : decide ((Sum.inr a : Key) = Sum.inr b) = decide (a = b) := by
  by_cases e : a = b
  · subst e; simp
  · have h : ¬ (Sum.inr a : Key) = Sum.inr b := fun q => e (Sum.inr.inj q)
    rw [decide_eq_false h, decide_eq_false e]
theorem key_lr (a : Int) (b : Str) : decide ((Sum.inl a : Key) = Sum.inr b) = false := decide_eq_false (fun q => nomatch q)
theorem key_rl (a : Str) (b : Int) : decide ((Sum.inr a : Key) = Sum.inl b) = false := decide_eq_false (fun q => nomatch q)

def mixKind (prog : Program) (w : World) : PySem.KeyKind prog w Key where
  is := keyIs
  hash := keyH w
  inj := fun v a b ha hb => by
    rcases keyIs_shape ha with ⟨i, t, rfl, rfl⟩ | ⟨x, t, rfl, rfl⟩
    · rcases keyIs_shape hb with ⟨j, u, rfl, e⟩ | ⟨y, u, rfl, e⟩
      · injection e with e1 _; rw [e1]
      · exact nomatch e
    · rcases keyIs_shape hb with ⟨j, u, rfl, e⟩ | ⟨y, u, rfl, e⟩
      · exact nomatch e
      · injection e with e1 _; rw [e1]
  byValue := fun k v h => by
    rcases keyIs_shape h with ⟨i, t, rfl, rfl⟩ | ⟨x, t, rfl, rfl⟩ <;> rfl
  pyHash := fun hv h => by
    rcases keyIs_shape hv with ⟨i, t, rfl, rfl⟩ | ⟨x, t, rfl, rfl⟩
    · exact wpAny_pyHash_int h
    · exact wpAny_pyHash_str h
  eqBool := fun hu hv h => by
    rcases keyIs_shape hu with ⟨i, t, rfl, rfl⟩ | ⟨x, t, rfl, rfl⟩
    · rcases keyIs_shape hv with ⟨j, u, rfl, rfl⟩ | ⟨y, u, rfl, rfl⟩
      · rw [key_ll] at h; exact wpAny_eqBool_int h
      · rw [key_lr] at h; exact SeqAt.EqAt.int_str i t y u _ _ _ _ h
    · rcases keyIs_shape hv with ⟨j, u, rfl, rfl⟩ | ⟨y, u, rfl, rfl⟩
      · rw [key_rl] at h; exact SeqAt.EqAt.str_int x t j u _ _ _ _ h
      · rw [key_rr] at h; exact wpAny_eqBool_str h
  «strs» := fun k x t v h => by
    rcases keyIs_shape h with ⟨i, u, rfl, e⟩ | ⟨y, u, rfl, e⟩
    · exact nomatch e
    · injection e with e1 _
      subst e1
      cases v <;> rfl

theorem mixKind_is (prog : Program) (w : World) (k : Key) (v : Value) : (mixKind prog w).is k v = keyIs k v := rfl
theorem mixKind_int (prog : Program) (w : World) (i : Int) (t : Tok) : (mixKind prog w).is (.inl i) (.int i t) = true := keyIs_int i t
theorem mixKind_str (prog : Program) (w : World) (x : Str) (t : Tok) : (mixKind prog w).is (.inr x) (.str x t) = true := keyIs_str x t
end L2

namespace L2
open PySem PySem.Spec PyProof.Rows

/-- a value, without the heap -/
inductive V where
  | non | bl (b : Bool) | int (i : Int) | str (x : Str) | byt (b : Array UInt8) | flt (b : UInt64) | ref (a : Addr) | ty (n : String)
  deriving DecidableEq

def RelV : V → Value → Prop
  | .non, u => u = Value.none
  | .bl b, u => u = Value.bool b
  | .int i, u => ∃ t, u = Value.int i t
  | .str x, u => ∃ t, u = Value.str x t
  | .byt b, u => ∃ t, u = Value.bytes b t
  | .flt b, u => ∃ t, u = Value.float b t
  | .ref a, u => u = Value.ref a
  | .ty n, u => u = Value.type n

abbrev Vals : List V → List Value → Prop := Paired RelV
theorem Vals.length {xs : List V} {us : List Value} (r : Vals xs us) : xs.length = us.length := Paired.length r
theorem Vals.get : ∀ {xs : List V} {us : List Value} {i : Nat} {x : V}, Vals xs us → xs[i]? = some x → ∃ u, us[i]? = some u ∧ RelV x u
  | _, _, _, _, .nil, e => by simp at e
  | _, _, 0, _, .cons r _, e => by simp at e; subst e; exact ⟨_, rfl, r⟩
  | _, _, i + 1, x, .cons _ t, e => by
    obtain ⟨u, h1, h2⟩ := Vals.get (i := i) (x := x) t (by simpa using e)
    exact ⟨u, by simpa using h1, h2⟩
theorem Vals.set {x : V} {u : Value} (r : RelV x u) : ∀ {xs : List V} {us : List Value} (i : Nat), Vals xs us → Vals (xs.set i x) (us.set i u)
  | _, _, _, .nil => .nil
  | _, _, 0, .cons _ t => .cons r t
  | _, _, i + 1, .cons q t => .cons q (Vals.set r i t)
theorem Vals.append : ∀ {xs ys : List V} {us ws : List Value}, Vals xs us → Vals ys ws → Vals (xs ++ ys) (us ++ ws)
  | _, _, _, _, .nil, s => s
  | _, _, _, _, .cons r t, s => .cons r (Vals.append t s)
theorem Vals.take : ∀ {xs : List V} {us : List Value} (n : Nat), Vals xs us → Vals (xs.take n) (us.take n)
  | _, _, 0, _ => .nil
  | _, _, _ + 1, .nil => .nil
  | _, _, n + 1, .cons r t => .cons r (Vals.take n t)
theorem Vals.drop : ∀ {xs : List V} {us : List Value} (n : Nat), Vals xs us → Vals (xs.drop n) (us.drop n)
  | _, _, 0, r => r
  | _, _, _ + 1, .nil => .nil
  | _, _, n + 1, .cons _ t => Vals.drop n t
theorem Vals.none_of : ∀ {xs : List V} {us : List Value} {i : Nat}, Vals xs us → xs[i]? = none → us[i]? = none := fun {xs us i} r e => by
  have h1 := r.length
  have h2 : xs.length ≤ i := List.getElem?_eq_none_iff.mp e
  exact List.getElem?_eq_none_iff.mpr (by omega)

def RelO : Option V → Option Value → Prop
  | some v, some u => RelV v u
  | none, none => True
  | _, _ => False
def KV {κ : Type} : List (κ × V) → List (κ × Value) → Prop := Paired fun (p : κ × V) (q : κ × Value) => p.1 = q.1 ∧ RelV p.2 q.2

/-- a key of a dict (00_mix): an int or a text -/
def kV : Key → V
  | .inl i => .int i
  | .inr x => .str x

/-- what stands at a tracked address -/
inductive HO where
  /-- a list -/
  | lst (xs : List V)
  /-- a tuple (never changes) -/
  | tup (xs : List V)
  /-- a dict whose keys are ints and texts; one whose keys are tuples of ints and texts (the empty one is both) -/
  | dK (kvs : List (Key × V)) | dT (kvs : List (List Key × V))
  /-- a set of ints: its members, its size -/
  | set (S : Int → Bool) (n : Nat)
  /-- an instance of the class at C, its dict at dx, its attributes -/
  | ins (C dx : Addr) (fs : List (Str × V))
  /-- the dict of the instance at x -/
  | own (x : Addr)
  /-- the dict of an exception -/
  | xd (fs : List (Str × V))
  /-- a bound method, f of x -/
  | met (f x : Addr)
  /-- a range object lo, lo + 1, .. below hi -/
  | rng (lo hi : Int)
  /-- a thing that is known to the object (the script; a dict while a loop walks it): read, never written while it is so -/
  | frz (o : Obj) (u : HO)
  /-- a code object's table -/
  | tbl (ps : Array Value)
  /-- any other thing, by what is true of its one object (a def of one's own: SetO a S n := HO.ext fun h => ..) -/
  | ext (φ : Heap → Prop)

abbrev Hp := Addr → Option HO
def upd (H : Hp) (a : Addr) (o : HO) : Hp := fun b => if b = a then some o else H b
theorem upd_same {H : Hp} {a : Addr} {o : HO} : upd H a o a = some o := by unfold upd; rw [if_pos rfl]
theorem upd_ne {H : Hp} {a b : Addr} {o : HO} (h : b ≠ a) : upd H a o b = H b := by unfold upd; rw [if_neg h]
theorem upd_upd {H : Hp} {a : Addr} {o u : HO} : upd (upd H a o) a u = upd H a u := by
  funext b; unfold upd; split <;> rfl
/-- two objects of different content stand apart -/
theorem ne_of {H : Hp} {a b : Addr} {o u : HO} (h : H a = some o) (h' : H b = some u) (d : o ≠ u) : a ≠ b := by
  intro e; subst e; rw [h] at h'; exact d (Option.some.inj h')
theorem ne_of_none {H : Hp} {a b : Addr} {o : HO} (h : H a = some o) (h' : H b = none) : a ≠ b := by
  intro e; subst e; rw [h] at h'; cases h'

section
variable (P : Program) (w : World)
def ObjOk (H : Hp) (h : Heap) (a : Addr) : HO → Prop
  | .lst xs => xs.length ≤ sizeLine ∧ ∃ (its : List Value) (n : Nat), Vals xs its ∧ h.get? a = some { cls := .type "list", data := .seq its.toArray n }
  | .tup xs => xs.length ≤ sizeLine ∧ ∃ its : List Value, Vals xs its ∧ IsTup h a its.toArray
  | .dK kvs => kvs.length ≤ sizeLine ∧ (a == sysModules) = false ∧ ∃ vs, KV kvs vs ∧ h.DictOf (mixKind P w) a vs
  | .dT kvs => kvs.length ≤ sizeLine ∧ (a == sysModules) = false ∧ ∃ xs : List (List Key × Addr × Value),
      Paired (fun (p : List Key × V) (q : List Key × Addr × Value) => p.1 = q.1 ∧ H q.2.1 = some (.tup (p.1.map kV)) ∧ RelV p.2 q.2.2) kvs xs ∧
      ∃ o es ep, h.get? a = some o ∧ o.ExactDict ∧ o.data = .dict es ep ∧ es.toList = xs.map (entryOfKey (tupleKind (mixKind P w))) ∧ (xs.map (·.1)).Nodup
  | .set S n => h.SetOf (intKind P w) a S n
  | .ins C dx fs => H dx = some (.own a) ∧ fs.length ≤ 1000 ∧ dx ≠ a ∧ h.get? a = some (PySem.W.instObj C dx) ∧
      ∃ mA, h.Ns1 dx mA ∧ (∀ f, RelO (fs.lookup f) (mA f)) ∧ PySem.Within mA (fs.map (·.1))
  | .own _ => ∃ o, h.get? a = some o
  | .xd fs => ∃ mA, h.Ns1 a mA ∧ ∀ f, RelO (fs.lookup f) (mA f)
  | .rng lo hi => ∃ t u v, h.get? a = some { cls := .type "range", data := .fields #[.int lo t, .int hi u, .int 1 v] }
  | .frz o u => h.get? a = some o ∧ ObjOk H h a u
  | .tbl ps => h.get? a = some { cls := .none, data := .fields ps }
  | .met f x => h.get? a = some (PySem.W.methodObj (.ref f) (.ref x))
  | .ext φ => φ h ∧ (∃ o, h.get? a = some o) ∧ ∀ h1 h2 : Heap, φ h1 → (∀ o, h1.get? a = some o → h2.get? a = some o) → φ h2
/-- the abstract heap is held -/
def HOk (H : Hp) (h : Heap) : Prop := ∀ a o, H a = some o → ObjOk P w H h a o
end

section
variable {P : Program} {w : World} {H H' : Hp} {h h' : Heap} {a : Addr} {o : HO}
theorem ObjOk.lt (x : ObjOk P w H h a o) : a < h.objs.size := by
  cases o with
  | lst xs => obtain ⟨_, _, _, _, e⟩ := x; exact Heap.lt_size e
  | tup xs => obtain ⟨_, _, _, p⟩ := x; exact p.lt
  | dK kvs => obtain ⟨_, _, _, _, o, _, _, e, _⟩ := x; exact Heap.lt_size e
  | dT kvs => obtain ⟨_, _, _, _, o, _, _, e, _⟩ := x; exact Heap.lt_size e
  | set S n => obtain ⟨o, _, _, _, e, _⟩ := x; exact Heap.lt_size e
  | ins C dx fs => obtain ⟨_, _, _, e, _⟩ := x; exact Heap.lt_size e
  | own y => obtain ⟨_, e⟩ := x; exact Heap.lt_size e
  | xd fs => obtain ⟨_, ⟨_, _, _, e, _⟩, _⟩ := x; exact Heap.lt_size e
  | rng lo hi => obtain ⟨_, _, _, e⟩ := x; exact Heap.lt_size e
  | frz ob u => obtain ⟨e, _⟩ := x; exact Heap.lt_size e
  | tbl ps => exact Heap.lt_size (show h.get? a = some _ from x)
  | met f y => exact Heap.lt_size (show h.get? a = some _ from x)
  | ext φ => obtain ⟨_, ⟨_, e⟩, _⟩ := x; exact Heap.lt_size e
theorem Paired.mapP {α β : Type} {F G : α → β → Prop} : ∀ {l₁ : List α} {l₂ : List β}, Paired F l₁ l₂ → (∀ a b, F a b → G a b) → Paired G l₁ l₂
  | _, _, .nil, _ => .nil
  | _, _, .cons r t, f => .cons (f _ _ r) (Paired.mapP t f)
theorem Paired.imp' {α β : Type} {F G : α → β → Prop} (f : ∀ a b, F a b → G a b) {l₁ : List α} {l₂ : List β} (r : Paired F l₁ l₂) : Paired G l₁ l₂ := Paired.mapP r f
/-- what an object's description leans on: its own object, its own dict, the tuples -/
theorem ObjOk.stay (x : ObjOk P w H h a o) (k : ∀ b u, (b = a ∨ H b = some (.own a)) → h.get? b = some u → h'.get? b = some u)
    (ho : ∀ b, H b = some (.own a) → H' b = some (.own a)) (ht : ∀ b xs, H b = some (.tup xs) → H' b = some (.tup xs)) : ObjOk P w H' h' a o := by
  induction o with
  | lst xs => obtain ⟨z, its, n, r, e⟩ := x; exact ⟨z, its, n, r, k _ _ (.inl rfl) e⟩
  | tup xs => obtain ⟨z, its, r, ob, e, c⟩ := x; exact ⟨z, its, r, ob, k _ _ (.inl rfl) e, c⟩
  | dK kvs => obtain ⟨z, y, vs, r, ob, es, ep, e, c⟩ := x; exact ⟨z, y, vs, r, ob, es, ep, k _ _ (.inl rfl) e, c⟩
  | dT kvs =>
    obtain ⟨z, y, xs, r, ob, es, ep, e, c⟩ := x
    exact ⟨z, y, xs, Paired.mapP r fun p q z => ⟨z.1, ht _ _ z.2.1, z.2.2⟩, ob, es, ep, k _ _ (.inl rfl) e, c⟩
  | set S n => obtain ⟨ob, es, ep, t, e, c⟩ := x; exact ⟨ob, es, ep, t, k _ _ (.inl rfl) e, c⟩
  | ins C dx fs =>
    obtain ⟨d, z, ne, e, mA, ⟨od, es, ep, e2, c⟩, r⟩ := x
    exact ⟨ho _ d, z, ne, k _ _ (.inl rfl) e, mA, ⟨od, es, ep, k _ _ (.inr d) e2, c⟩, r⟩
  | own y => obtain ⟨ob, e⟩ := x; exact ⟨ob, k _ _ (.inl rfl) e⟩
  | xd fs => obtain ⟨mA, ⟨od, es, ep, e, c⟩, r⟩ := x; exact ⟨mA, ⟨od, es, ep, k _ _ (.inl rfl) e, c⟩, r⟩
  | rng lo hi => obtain ⟨t, u, v, e⟩ := x; exact ⟨t, u, v, k _ _ (.inl rfl) e⟩
  | frz ob u ih => obtain ⟨e, q⟩ := x; exact ⟨k _ _ (.inl rfl) e, ih q⟩
  | tbl ps =>
    have e : h.get? a = some { cls := .none, data := .fields ps } := x
    show h'.get? a = some { cls := .none, data := .fields ps }
    exact k a _ (.inl rfl) e
  | met f y =>
    have e : h.get? a = some (PySem.W.methodObj (.ref f) (.ref y)) := x
    show h'.get? a = some (PySem.W.methodObj (.ref f) (.ref y))
    exact k a _ (.inl rfl) e
  | ext φ => obtain ⟨p, ⟨o, e⟩, st⟩ := x; exact ⟨st _ _ p fun o q => k _ _ (.inl rfl) q, ⟨o, k _ _ (.inl rfl) e⟩, st⟩
theorem HOk.lt (x : HOk P w H h) (e : H a = some o) : a < h.objs.size := (x a o e).lt
theorem HOk.fresh (x : HOk P w H h) (e : h.objs.size ≤ a) : H a = none := by
  cases q : H a with
  | none => rfl
  | some u => exact absurd (Nat.lt_of_lt_of_le (x.lt q) e) (Nat.lt_irrefl _)
/-- every object of the heap is kept -/
theorem HOk.kept (x : HOk P w H h) (k : ∀ b u, h.get? b = some u → h'.get? b = some u) : HOk P w H h' := fun a o e =>
  (x a o e).stay (fun b u _ q => k b u q) (fun _ q => q) fun _ _ q => q
/-- a new object is laid and tracked -/
theorem HOk.laid (x : HOk P w H h) (k : ∀ b u, h.get? b = some u → h'.get? b = some u) (hp : h.objs.size ≤ a) (new : ObjOk P w (upd H a o) h' a o) : HOk P w (upd H a o) h' := fun b u e => by
  have hn := x.fresh hp
  by_cases hb : b = a
  · subst hb; rw [upd_same] at e; cases e; exact new
  · rw [upd_ne hb] at e
    exact (x b u e).stay (fun c v _ q => k c v q) (fun c q => by rw [upd_ne (ne_of_none q hn)]; exact q) fun c xs q => by rw [upd_ne (ne_of_none q hn)]; exact q
end

/-- what may be read as u: it is u, or a known u -/
def Rd (H : Hp) (a : Addr) (u : HO) : Prop := H a = some u ∨ ∃ o, H a = some (.frz o u)
theorem Rd.of {H : Hp} {a : Addr} {u : HO} (h : H a = some u) : Rd H a u := .inl h
theorem Rd.ok {P : Program} {w : World} {H : Hp} {h : Heap} {a : Addr} {u : HO} (r : Rd H a u) (x : HOk P w H h) : ObjOk P w H h a u := by
  rcases r with r | ⟨o, r⟩
  · exact x a u r
  · obtain ⟨_, q⟩ := x a _ r
    exact q
/-- what may be written -/
def Mut : Option HO → Prop
  | some (.lst _) => True
  | some (.dK _) => True
  | some (.dT _) => True
  | some (.set _ _) => True
  | some (.ins _ _ _) => True
  | some (.ext _) => True
  | _ => False
section
variable {P : Program} {w : World} {H : Hp} {h h' : Heap} {x e : Addr} {o' : HO}
/-- the object at e is changed: x itself, or the dict of the instance x -/
theorem HOk.write (ok : HOk P w H h) (mu : Mut (H x)) (he : e = x ∨ H e = some (.own x)) (k : ∀ b u, b ≠ e → h.get? b = some u → h'.get? b = some u) (heo : ∃ u, h'.get? e = some u)
    (new : ObjOk P w (upd H x o') h' x o') : HOk P w (upd H x o') h' := fun b u q => by
  have nown : ∀ c y, H c = some (.own y) → c ≠ x := fun c y r z => by subst z; rw [r] at mu; exact mu
  have ntup : ∀ c xs, H c = some (.tup xs) → c ≠ x := fun c xs r z => by subst z; rw [r] at mu; exact mu
  by_cases hb : b = x
  · subst hb; rw [upd_same] at q; cases q; exact new
  · rw [upd_ne hb] at q
    by_cases hbe : b = e
    · have q' : H b = some (.own x) := by
        rcases he with z | z
        · exact absurd (hbe.trans z) hb
        · rw [hbe]; exact z
      rw [q] at q'; cases q'
      obtain ⟨v, hv⟩ := heo
      exact ⟨v, by rw [hbe]; exact hv⟩
    · refine (ok b u q).stay (fun c v hc r => k c v ?_ r) (fun c r => by rw [upd_ne (nown c b r)]; exact r) fun c xs r => by rw [upd_ne (ntup c xs r)]; exact r
      rcases hc with rfl | hc
      · exact hbe
      · rintro rfl
        rcases he with z | z
        · exact nown c b hc z
        · rw [hc] at z; cases z; exact hb rfl
end

/-! ### kept unless tracked; of the frames at fs (the callers') the slots may change (an exception that passes writes there); of the records at ex (iterators) nothing is said -/
structure Un (fs ex : List Addr) (H H' : Hp) (h h' : Heap) : Prop where
  keep : ∀ b o, h.get? b = some o → H b = none → b ∉ fs → b ∉ ex → h'.get? b = some o
  slot : ∀ b o, h.get? b = some o → H b = none → b ∈ fs → b ∉ ex → ∃ sl, h'.get? b = some { o with slots := sl }
  free : ∀ b o, h.get? b = some o → H b = none → b ∉ ex → H' b = none
  there : ∀ b o, h.get? b = some o → b ∉ ex → ∃ o', h'.get? b = some o'
  tups : ∀ b xs, H b = some (.tup xs) → H' b = some (.tup xs)
  frzs : ∀ b o u, H b = some (.frz o u) → H' b = some (.frz o u)
  tbls : ∀ b ps, H b = some (.tbl ps) → ∃ more, H' b = some (.tbl (ps ++ more))
section
variable {fs fs' ex ex' : List Addr} {H H1 H2 : Hp} {h h1 h2 h' : Heap} {a x e : Addr} {o : HO}
theorem Un.any (u : Un fs ex H H1 h h1) {b : Addr} {ob : Obj} (q : h.get? b = some ob) (n : H b = none) (hx : b ∉ ex) : ∃ sl, h1.get? b = some { ob with slots := sl } := by
  by_cases hb : b ∈ fs
  · exact u.slot b ob q n hb hx
  · exact ⟨ob.slots, u.keep b ob q n hb hx⟩
theorem Un.trans (a : Un fs ex H H1 h h1) (b : Un fs ex H1 H2 h1 h2) : Un fs ex H H2 h h2 where
  keep := fun c ob q n hc hx => b.keep c ob (a.keep c ob q n hc hx) (a.free c ob q n hx) hc hx
  slot := fun c ob q n hc hx => by
    obtain ⟨sl, e1⟩ := a.slot c ob q n hc hx
    obtain ⟨sl', e2⟩ := b.slot c _ e1 (a.free c ob q n hx) hc hx
    exact ⟨sl', e2⟩
  free := fun c ob q n hx => by
    obtain ⟨o', e1⟩ := a.there c ob q hx
    exact b.free c o' e1 (a.free c ob q n hx) hx
  there := fun c ob q hx => by
    obtain ⟨o', e1⟩ := a.there c ob q hx
    exact b.there c o' e1 hx
  tups := fun c xs q => b.tups c xs (a.tups c xs q)
  frzs := fun c ob xs q => b.frzs c ob xs (a.frzs c ob xs q)
  tbls := fun c ps q => by
    obtain ⟨m1, e1⟩ := a.tbls c ps q
    obtain ⟨m2, e2⟩ := b.tbls c _ e1
    exact ⟨m1 ++ m2, by rw [e2, Array.append_assoc]⟩
theorem Un.kept (k : ∀ b u, h.get? b = some u → h'.get? b = some u) : Un fs ex H H h h' :=
  ⟨fun b ob q _ _ _ => k b ob q, fun b ob q _ _ _ => ⟨ob.slots, k b ob q⟩, fun _ _ _ n _ => n, fun b ob q _ => ⟨ob, k b ob q⟩, fun _ _ q => q, fun _ _ _ q => q, fun _ ps q => ⟨#[], by rw [q]; simp⟩⟩
theorem Un.refl : Un fs ex H H h h := Un.kept fun _ _ q => q
theorem Un.laid (k : ∀ b u, h.get? b = some u → h'.get? b = some u) (hp : h.objs.size ≤ a) (hn : H a = none) : Un fs ex H (upd H a o) h h' where
  keep := fun b u q _ _ _ => k b u q
  slot := fun b u q _ _ _ => ⟨u.slots, k b u q⟩
  free := fun b u q n _ => by rw [upd_ne (Nat.ne_of_lt (Nat.lt_of_lt_of_le (Heap.lt_size q) hp))]; exact n
  there := fun b u q _ => ⟨u, k b u q⟩
  tups := fun b xs q => by rw [upd_ne (ne_of_none q hn)]; exact q
  frzs := fun b u xs q => by rw [upd_ne (ne_of_none q hn)]; exact q
  tbls := fun b ps q => ⟨#[], by rw [upd_ne (ne_of_none q hn), q]; simp⟩
theorem Un.write (mu : Mut (H x)) (he : e = x ∨ H e = some (.own x)) (k : ∀ b u, b ≠ e → h.get? b = some u → h'.get? b = some u) (heo : ∃ u, h'.get? e = some u) : Un fs ex H (upd H x o) h h' := by
  have hx : ∀ b, H b = none → b ≠ x := fun b n z => by subst z; rw [n] at mu; exact mu
  have hb : ∀ b, H b = none → b ≠ e := fun b n z => by
    subst z
    rcases he with r | r
    · exact hx b n r
    · rw [n] at r; cases r
  have hm : ∀ b u, H b = some u → ¬ Mut (some u) → b ≠ x := fun b u q nm z => by subst z; rw [q] at mu; exact nm mu
  refine ⟨fun b u q n _ _ => k b u (hb b n) q, fun b u q n _ _ => ⟨u.slots, k b u (hb b n) q⟩, fun b u q n _ => by rw [upd_ne (hx b n)]; exact n, fun b u q _ => ?_,
    fun b xs q => by rw [upd_ne (hm b _ q fun z => z)]; exact q, fun b u xs q => by rw [upd_ne (hm b _ q fun z => z)]; exact q, fun b ps q => ⟨#[], by rw [upd_ne (hm b _ q fun z => z), q]; simp⟩⟩
  by_cases hbe : b = e
  · subst hbe; exact heo
  · exact ⟨u, k b u hbe q⟩
theorem Un.mono (u : Un fs ex H H1 h h1) (hs : ∀ b ∈ fs, b ∈ fs') (hx : ∀ b ∈ ex, b ∈ ex') : Un fs' ex' H H1 h h1 :=
  ⟨fun b ob q n hb he => u.keep b ob q n (fun z => hb (hs b z)) fun z => he (hx b z), fun _ _ q n _ he => u.any q n fun z => he (hx _ z), fun b ob q n he => u.free b ob q n fun z => he (hx b z), fun b ob q he => u.there b ob q fun z => he (hx b z), u.tups, u.frzs, u.tbls⟩
end

/-! ### the heap without what is tracked -/
def trk (h : Heap) (H : Hp) : List Addr := (List.range h.objs.size).filter fun a => (H a).isSome
def hidT (h : Heap) (H : Hp) : Heap := PySem.W.hideAll h (trk h H)
theorem hidT_size (h : Heap) (H : Hp) : (hidT h H).objs.size = h.objs.size := PySem.W.hideAll_size _ _
theorem hidT_get {h : Heap} {H : Hp} {b : Addr} {o : Obj} (e : h.get? b = some o) (n : H b = none) : (hidT h H).get? b = some o :=
  PySem.W.hideAll_get _ e fun hm => by
    have q : (H b).isSome = true := (List.mem_filter.mp hm).2
    rw [n] at q; simp at q
theorem of_hidT {h : Heap} {H : Hp} {b : Addr} {o : Obj} (e : (hidT h H).get? b = some o) : h.get? b = some o ∧ H b = none := by
  have e' : h.get? b = some o := PySem.W.of_hideAll (trk h H) e
  refine ⟨e', ?_⟩
  cases q : H b with
  | none => rfl
  | some x =>
    have hm : b ∈ trk h H := List.mem_filter.mpr ⟨List.mem_range.mpr (Heap.lt_size e'), by simp [q]⟩
    have z : (hidT h H).get? b = none := PySem.W.hideAll_none (trk h H) hm
    rw [z] at e; cases e

/-! ### OpenK's ledger, filled with every new object but one -/
def allNews (g h : Heap) (L : Addr) : List (Addr × Obj) := (List.range h.objs.size).filterMap fun a => if a = L ∨ (g.get? a).isSome = true then none else (h.get? a).map fun o => (a, o)
theorem mem_allNews {g h : Heap} {L a : Addr} {o : Obj} (h1 : a ≠ L) (h2 : g.get? a = none) (h3 : h.get? a = some o) : (a, o) ∈ allNews g h L :=
  List.mem_filterMap.mpr ⟨a, List.mem_range.mpr (Heap.lt_size h3), by simp [h1, h2, h3]⟩
theorem of_mem_allNews {g h : Heap} {L : Addr} {p : Addr × Obj} (hp : p ∈ allNews g h L) : p.1 ≠ L ∧ g.get? p.1 = none ∧ h.get? p.1 = some p.2 := by
  obtain ⟨b, _, e⟩ := List.mem_filterMap.mp hp
  split at e
  · cases e
  · rename_i hn
    cases q : h.get? b with
    | none => rw [q] at e; simp at e
    | some u =>
      rw [q] at e
      simp only [Option.map_some, Option.some.injEq] at e
      subst e
      refine ⟨fun z => hn (.inl z), ?_, q⟩
      show g.get? b = none
      cases r : g.get? b with
      | none => rfl
      | some v => exact (hn (.inr (by simp [r]))).elim
def rest (g h : Heap) (L d : Addr) : List (Addr × Obj) := (allNews g h L).filter fun p => decide (p.1 ≠ d)
theorem rest_ne {g h : Heap} {L d : Addr} : ∀ p ∈ rest g h L d, p.1 ≠ d := fun p hp => of_decide_eq_true (List.mem_filter.mp hp).2
theorem mem_rest {g h : Heap} {L d a : Addr} {o : Obj} (h1 : a ≠ L) (h2 : g.get? a = none) (h3 : h.get? a = some o) (h4 : a ≠ d) : (a, o) ∈ rest g h L d :=
  List.mem_filter.mpr ⟨mem_allNews h1 h2 h3, decide_eq_true h4⟩
theorem news_all {g h : Heap} {L : Addr} : News g L h (allNews g h L) := fun p hp => let ⟨a, b, c⟩ := of_mem_allNews hp; ⟨c, a, b⟩
theorem news_at {g h : Heap} {L d : Addr} {o : Obj} (h1 : d ≠ L) (h2 : g.get? d = none) (h3 : h.get? d = some o) : News g L h ((d, o) :: rest g h L d) := fun p hp => by
  rcases List.mem_cons.mp hp with rfl | hp
  · exact ⟨h3, h1, h2⟩
  · exact news_all p (List.mem_filter.mp hp).1
/-- behind a rule that changed d alone: all else but the frame is kept -/
theorem kept_of_news {g h h' : Heap} {L d : Addr} {m : Str → Option Value} (k : ∀ b o, g.get? b = some o → h.get? b = some o) (F : Fr g L h' m) (N : News g L h' (rest g h L d)) :
    ∀ b o, b ≠ L → b ≠ d → h.get? b = some o → h'.get? b = some o := fun b o h1 h2 e => by
  cases q : g.get? b with
  | some u =>
    have := k b u q
    rw [e] at this; cases this
    exact F.keep b _ q
  | none => exact (N (b, o) (mem_rest h1 q e h2)).1
end L2

namespace L2
open PySem PySem.Spec PyProof.Rows

/-- the module's facts, over the base: the heap at the law's entry without what is tracked there -/
structure Mod (K : PySem.W.Frag) (mg : Str → Option Value) (base : Heap) : Prop where
  kin : K.In base
  glob : base.Ns mainGlobals mg
  blt : ∃ mb, base.Ns builtinsNs mb ∧ ∀ x : Str, x ≠ "__name__" → mb x = bootBuiltins x
  nolimit : base.NoLimit

/-- the context: a def's body (or a comprehension's block) running. base: fixed through the whole law; s₀, H₀: the entry; outer: the frames whose slots others may change (a def's callers); stack: all frames that run;
   ex: iterators that were made ahead of the entry and are walked here (a comprehension's); fn: the names whose cells were made at the entry (a def: all; a comprehension's block: its own); calm: not within an except suite; pn: pins that every state bears; xe: what is wanted of an exception that leaves the code -/
structure Cx where
  prog : Program
  w : World
  K : PySem.W.Frag
  mg : Str → Option Value
  base : Heap
  A : Around
  N : List Str
  s₀ : Shared
  H₀ : Hp
  env : Env
  outer : List Env
  stack : List Env
  ex : List Addr
  fn : Str → Bool
  calm : Bool
  pn : List (Addr × Obj)
  xe : Value → Shared → Prop
/-- the callers' frames -/
def frs (l : List Env) : List Addr := l.filterMap (·.frame)
abbrev Cx.fs (X : Cx) : List Addr := frs X.outer

def Vis (sc : Scope) (x : Str) : Prop := sc.names.lookup x = some .local ∨ sc.names.lookup x = some .cell ∨ sc.names.lookup x = some .free
def Loc (sc : Scope) (x : Str) : Prop := sc.names.lookup x = some .local ∨ sc.names.lookup x = some .cell
def Look (env : Env) (h : Heap) (m : Str → Option Value) (x : Str) (u : Value) : Prop :=
  (env.kindOf x = some .local ∧ m x = some u) ∨ ((env.kindOf x = some .cell ∨ env.kindOf x = some .free) ∧ ∃ c, env.cells.lookup x = some c ∧ h.IsCell c (some u))

structure Cx.Ok (X : Cx) : Prop where
  mod : Mod X.K X.mg X.base
  kind : X.env.scope.kind = .function
  glob : X.env.globals = mainGlobals
  blt : X.env.builtins = builtinsNs
  above : X.s₀.heap.objs.size ≤ X.env.locals
  inj : ∀ x y c, X.env.cells.lookup x = some c → X.env.cells.lookup y = some c → x = y
  has : ∀ x, (X.env.kindOf x = some .cell ∨ X.env.kindOf x = some .free) → ∃ c, X.env.cells.lookup x = some c
  cab : ∀ x c, X.fn x = true → X.env.cells.lookup x = some c → X.s₀.heap.objs.size ≤ c
  hd : X.calm = true → X.A.handled = none
  frames : X.A.frames = some X.stack
  stk : X.stack = X.outer ∨ (X.stack = X.env :: X.outer ∧ X.env.frame = some X.env.locals)
  exf : ∀ b ∈ X.ex, b ≠ X.env.locals ∧ ∀ x c, X.env.cells.lookup x = some c → c ≠ b
  bs : ∀ b o, X.base.get? b = some o → X.s₀.heap.get? b = some o ∧ X.H₀ b = none
  bsz : X.base.objs.size ≤ X.s₀.heap.objs.size
  noex : ∀ b o, X.base.get? b = some o → b ∉ X.ex
  exfs : ∀ b ∈ X.ex, b ∉ X.fs
  funs : X.s₀.heap.FunFrames X.base X.outer
  frf : ∀ b ∈ X.fs, X.H₀ b = none

structure Inv (X : Cx) (pins : List (Addr × Obj)) (σ : List (Option V)) (H : Hp) (s : Shared) : Prop where
  ok : X.Ok
  os : s.os = X.s₀.os
  bare : AllBare s.gens
  base : Un X.fs X.ex X.H₀ H X.s₀.heap s.heap
  loc : ∃ m, s.heap.Ns X.env.locals m ∧ ∀ (i : Nat) (x : Str) (v : V), X.N[i]? = some x → σ[i]? = some (some v) → Vis X.env.scope x → ∃ u, RelV v u ∧ Look X.env s.heap m x u
  cell : ∀ x c, X.env.cells.lookup x = some c → ∃ v, s.heap.IsCell c v
  free : H X.env.locals = none
  freeC : ∀ x c, X.env.cells.lookup x = some c → H c = none
  pin : ∀ p ∈ X.pn ++ pins, s.heap.get? p.1 = some p.2 ∧ H p.1 = none ∧ p.1 ≠ X.env.locals ∧ p.1 ∉ X.fs ∧ ∀ v, p.2.data ≠ .cell v
  hok : HOk X.prog X.w H s.heap
  len : σ.length = X.N.length

section
variable {X : Cx} {pins : List (Addr × Obj)} {σ : List (Option V)} {H H' : Hp} {s : Shared} {h' : Heap}

theorem Cx.Ok.nofr (ok : X.Ok) {b : Addr} {o : Obj} (e : X.base.get? b = some o) : b ∉ X.fs := fun hb => by
  have := (ok.funs.mem hb).1
  rw [e] at this; cases this
theorem Inv.bs (I : Inv X pins σ H s) : ∀ b o, X.base.get? b = some o → s.heap.get? b = some o ∧ H b = none := fun b o e =>
  ⟨I.base.keep b o (I.ok.bs b o e).1 (I.ok.bs b o e).2 (I.ok.nofr e) (I.ok.noex b o e), I.base.free b o (I.ok.bs b o e).1 (I.ok.bs b o e).2 (I.ok.noex b o e)⟩
theorem Inv.bk (I : Inv X pins σ H s) : ∀ b o, X.base.get? b = some o → s.heap.get? b = some o := fun b o e => (I.bs b o e).1
theorem Inv.mod (I : Inv X pins σ H s) : Mod X.K X.mg X.base := I.ok.mod
theorem Inv.kIn (I : Inv X pins σ H s) : X.K.In s.heap := I.ok.mod.kin.keeps I.bk
theorem Inv.nolimit (I : Inv X pins σ H s) : s.heap.NoLimit := I.ok.mod.nolimit.keeps I.bk
/-- the frame over the base: for OpenK's rules (K.In X.base is I.mod.kin) -/
theorem Inv.fr (I : Inv X pins σ H s) : ∃ m, Fr X.base X.env.locals s.heap m :=
  let ⟨m, hn, _⟩ := I.loc
  ⟨m, hn, I.bk, Nat.le_trans I.ok.bsz I.ok.above⟩
theorem Inv.lt (I : Inv X pins σ H s) : X.env.locals < s.heap.objs.size := let ⟨_, hn, _⟩ := I.loc; hn.lt
theorem Inv.sz (I : Inv X pins σ H s) : X.s₀.heap.objs.size ≤ s.heap.objs.size := Nat.le_trans I.ok.above (Nat.le_of_lt I.lt)
theorem Inv.nofs (I : Inv X pins σ H s) {a : Addr} (h : s.heap.objs.size ≤ a) : a ∉ X.fs := fun hb => by
  obtain ⟨_, o, ho, _⟩ := I.ok.funs.mem hb
  exact absurd (Nat.lt_of_lt_of_le (Heap.lt_size ho) (Nat.le_trans I.sz h)) (Nat.lt_irrefl _)
theorem Inv.cne (I : Inv X pins σ H s) : ∀ x c, X.env.cells.lookup x = some c → c ≠ X.env.locals := fun x c e z => by
  obtain ⟨v, o, ho, hd⟩ := I.cell x c e
  obtain ⟨m, ⟨o', es, ep, ho', hd', _⟩, _⟩ := I.loc
  rw [z, ho'] at ho; cases ho; rw [hd'] at hd; cases hd
theorem Inv.funs (I : Inv X pins σ H s) : s.heap.FunFrames X.base X.outer := by
  have all : ∀ (l : List Env), (∀ b ∈ frs l, b ∈ X.fs) → X.s₀.heap.FunFrames X.base l → s.heap.FunFrames X.base l := by
    intro l
    induction l with
    | nil => intro _ _; trivial
    | cons env r ih =>
      intro hs hl
      obtain ⟨hk, ⟨L, o, hf, hn, ho, hd⟩, hr⟩ := hl
      have hL : L ∈ X.fs := hs L (by unfold frs; rw [List.filterMap_cons, hf]; exact List.mem_cons_self)
      obtain ⟨sl, e⟩ := I.base.slot L o ho (I.ok.frf L hL) hL fun z => I.ok.exfs L z hL
      exact ⟨hk, ⟨L, _, hf, hn, e, hd⟩, ih (fun b hb => hs b (by unfold frs; rw [List.filterMap_cons, hf]; exact List.mem_cons_of_mem _ hb)) hr⟩
  exact all X.outer (fun _ hb => hb) I.ok.funs

/-- the frames that run, for a call -/
theorem Inv.stack (I : Inv X pins σ H s) : s.heap.FunFrames X.base X.stack := by
  rcases I.ok.stk with e | ⟨e, hf⟩
  · rw [e]; exact I.funs
  · rw [e]
    obtain ⟨m, hn, _⟩ := I.loc
    refine .cons (by rw [I.ok.kind]; decide) hf hn ?_ I.funs
    exact Heap.get?_none_of_le (Nat.le_trans I.ok.bsz I.ok.above)
theorem Inv.stkSub (I : Inv X pins σ H s) : ∀ b ∈ frs X.stack, b ∈ X.env.locals :: X.fs := fun b hb => by
  rcases I.ok.stk with e | ⟨e, hf⟩
  · rw [e] at hb; exact List.mem_cons_of_mem _ hb
  · rw [e] at hb
    unfold frs at hb
    rw [List.filterMap_cons, hf] at hb
    exact hb
theorem Inv.stkFree (I : Inv X pins σ H s) : ∀ b ∈ frs X.stack, H b = none := fun b hb => by
  rcases List.mem_cons.mp (I.stkSub b hb) with e | hb
  · rw [e]; exact I.free
  · obtain ⟨_, o, ho, _⟩ := I.ok.funs.mem hb
    exact I.base.free b o ho (I.ok.frf b hb) fun z => I.ok.exfs b z hb

/-- THE STEP: the untracked objects but the frame and the records at ch are kept (the callers' frames up to slots), the frame's map is kept, the new abstract heap is held -/
theorem Inv.step {g' : Array GenState} {t' : Nat} {d' : Drawn} {ch : List Addr} (I : Inv X pins σ H s)
    (hch : ∀ b ∈ ch, (b ∈ X.ex ∨ X.s₀.heap.objs.size ≤ b) ∧ b ≠ X.env.locals ∧ (∀ x c, X.env.cells.lookup x = some c → c ≠ b) ∧ ∀ p ∈ X.pn ++ pins, p.1 ≠ b)
    (keep : ∀ b o, b ≠ X.env.locals → b ∉ X.fs → b ∉ ch → s.heap.get? b = some o → H b = none → h'.get? b = some o)
    (slot : ∀ b o, b ≠ X.env.locals → b ∈ X.fs → b ∉ ch → s.heap.get? b = some o → H b = none → ∃ sl, h'.get? b = some { o with slots := sl }) (free : ∀ b o, b ∉ ch → s.heap.get? b = some o → H b = none → H' b = none)
    (there : ∀ b o, b ∉ ch → s.heap.get? b = some o → ∃ o', h'.get? b = some o')
    (tups : ∀ b xs, H b = some (.tup xs) → H' b = some (.tup xs)) (frzs : ∀ b o u, H b = some (.frz o u) → H' b = some (.frz o u)) (tbls : ∀ b ps, H b = some (.tbl ps) → ∃ more, H' b = some (.tbl (ps ++ more)))
    (ns : ∀ m, s.heap.Ns X.env.locals m → h'.Ns X.env.locals m) (hok : HOk X.prog X.w H' h') (hg : AllBare g') :
    Inv X pins σ H' { s with heap := h', gens := g', drawn := d', toks := t' } := by
  have neL : ∀ b o, X.s₀.heap.get? b = some o → b ≠ X.env.locals := fun b o e => Nat.ne_of_lt (Nat.lt_of_lt_of_le (Heap.lt_size e) I.ok.above)
  have neC : ∀ b o, X.s₀.heap.get? b = some o → b ∉ X.ex → b ∉ ch := fun b o e hx hb => by
    rcases (hch b hb).1 with z | z
    · exact hx z
    · exact absurd (Nat.lt_of_lt_of_le (Heap.lt_size e) z) (Nat.lt_irrefl _)
  have cellK : ∀ x c, X.env.cells.lookup x = some c → ∀ v, s.heap.IsCell c v → h'.IsCell c v := fun x c e v ⟨o, ho, hd⟩ => by
    have nch : c ∉ ch := fun z => (hch c z).2.2.1 x c e rfl
    by_cases hc : c ∈ X.fs
    · obtain ⟨sl, q⟩ := slot c o (I.cne x c e) hc nch ho (I.freeC x c e)
      exact ⟨_, q, hd⟩
    · exact ⟨o, keep c o (I.cne x c e) hc nch ho (I.freeC x c e), hd⟩
  refine ⟨I.ok, I.os, hg, ⟨fun b o e n hb hx => ?_, fun b o e n hb hx => ?_, fun b o e n hx => ?_, fun b o e hx => ?_, fun b xs e => tups b xs (I.base.tups b xs e), fun b o xs e => frzs b o xs (I.base.frzs b o xs e), fun b ps e => ?_⟩, ?_, fun x c e => ?_, ?_, fun x c e => ?_, fun p hp => ?_, hok, I.len⟩
  · exact keep b o (neL b o e) hb (neC b o e hx) (I.base.keep b o e n hb hx) (I.base.free b o e n hx)
  · obtain ⟨sl, e1⟩ := I.base.slot b o e n hb hx
    obtain ⟨sl', e2⟩ := slot b _ (neL b o e) hb (neC b o e hx) e1 (I.base.free b o e n hx)
    exact ⟨sl', e2⟩
  · obtain ⟨o', e1⟩ := I.base.there b o e hx
    exact free b o' (neC b o e hx) e1 (I.base.free b o e n hx)
  · obtain ⟨o', e1⟩ := I.base.there b o e hx
    exact there b o' (neC b o e hx) e1
  · obtain ⟨m1, e1⟩ := I.base.tbls b ps e
    obtain ⟨m2, e2⟩ := tbls b _ e1
    exact ⟨m1 ++ m2, by rw [e2, Array.append_assoc]⟩
  · obtain ⟨m, hn, hl⟩ := I.loc
    refine ⟨m, ns m hn, fun i x v e1 e2 e3 => ?_⟩
    obtain ⟨u, r, l⟩ := hl i x v e1 e2 e3
    refine ⟨u, r, ?_⟩
    rcases l with l | ⟨k, c, e, z⟩
    · exact .inl l
    · exact .inr ⟨k, c, e, cellK x c e _ z⟩
  · obtain ⟨v, z⟩ := I.cell x c e
    exact ⟨v, cellK x c e v z⟩
  · obtain ⟨m, ⟨o, _, _, ho, _⟩, _⟩ := I.loc
    exact free _ o (fun z => (hch _ z).2.1 rfl) ho I.free
  · obtain ⟨v, o, ho, hd⟩ := I.cell x c e
    exact free c o (fun z => (hch c z).2.2.1 x c e rfl) ho (I.freeC x c e)
  · obtain ⟨e, n, ne, nf, d⟩ := I.pin p hp
    have nch : p.1 ∉ ch := fun z => (hch p.1 z).2.2.2 p hp rfl
    exact ⟨keep p.1 p.2 ne nf nch e n, free p.1 p.2 nch e n, ne, nf, d⟩
/-- .. where the frame's own object is kept too -/
theorem Inv.un {t' : Nat} (I : Inv X pins σ H s) (u : Un X.fs [] H H' s.heap h') (hok : HOk X.prog X.w H' h') : Inv X pins σ H' { s with heap := h', toks := t' } := by
  obtain ⟨m, ⟨o, es, ep, ho, r⟩, _⟩ := id I.loc
  obtain ⟨sl, hL⟩ := u.any ho I.free (by simp)
  exact I.step (g' := s.gens) (d' := s.drawn) (ch := []) (fun _ z => nomatch z) (fun b o _ hb _ e n => u.keep b o e n hb (by simp)) (fun b o _ hb _ e n => u.slot b o e n hb (by simp)) (fun b o _ e n => u.free b o e n (by simp)) (fun b o _ e => u.there b o e (by simp)) u.tups u.frzs u.tbls (fun m' hm => by
    obtain ⟨o', es', ep', ho', r'⟩ := hm
    rw [ho] at ho'; cases ho'
    exact ⟨_, es', ep', hL, r'⟩) hok I.bare
/-- behind a call (or a comprehension's block): the slots of this frame may have changed too, the records at ch may have turned -/
theorem Inv.call {g' : Array GenState} {t' : Nat} {d' : Drawn} {ch : List Addr} (I : Inv X pins σ H s) (u : Un (frs X.stack) ch H H' s.heap h') (hok : HOk X.prog X.w H' h') (hg : AllBare g')
    (hch : ∀ b ∈ ch, (b ∈ X.ex ∨ X.s₀.heap.objs.size ≤ b) ∧ b ≠ X.env.locals ∧ (∀ x c, X.env.cells.lookup x = some c → c ≠ b) ∧ ∀ p ∈ X.pn ++ pins, p.1 ≠ b) :
    Inv X pins σ H' { s with heap := h', gens := g', drawn := d', toks := t' } := by
  obtain ⟨m, ⟨o, es, ep, ho, r⟩, _⟩ := id I.loc
  obtain ⟨sl, hL⟩ := u.any ho I.free fun z => (hch _ z).2.1 rfl
  exact I.step (ch := ch) hch (fun b o hL hb hc e n => u.keep b o e n (fun z => (List.mem_cons.mp (I.stkSub b z)).elim hL hb) hc) (fun b o _ _ hc e n => u.any e n hc) (fun b o hc e n => u.free b o e n hc) (fun b o hc e => u.there b o e hc) u.tups u.frzs u.tbls (fun m' hm => by
    obtain ⟨o', es', ep', ho', r'⟩ := hm
    rw [ho] at ho'; cases ho'
    exact ⟨_, es', ep', hL, r'⟩) hok hg
/-- an untracked record of ours (an iterator) has turned -/
theorem Inv.turned {t' : Nat} {it : Addr} (I : Inv X pins σ H s) (k : ∀ b o, b ≠ it → s.heap.get? b = some o → h'.get? b = some o) (hn : H it = none) (hL : it ≠ X.env.locals)
    (h1 : it ∈ X.ex ∨ X.s₀.heap.objs.size ≤ it) (h2 : ∀ x c, X.env.cells.lookup x = some c → c ≠ it) (h3 : ∀ p ∈ X.pn ++ pins, p.1 ≠ it) : Inv X pins σ H { s with heap := h', toks := t' } := by
  have nit : ∀ b u, H b = some u → b ≠ it := fun b u e z => by rw [z, hn] at e; cases e
  refine I.step (g' := s.gens) (d' := s.drawn) (ch := [it]) (fun b hb => ?_) (fun b o _ _ hc e _ => k b o (fun z => hc (by simp [z])) e) (fun b o _ _ hc e _ => ⟨o.slots, k b o (fun z => hc (by simp [z])) e⟩) (fun _ _ _ _ n => n)
    (fun b o hc e => ⟨o, k b o (fun z => hc (by simp [z])) e⟩) (fun _ _ e => e) (fun _ _ _ e => e) (fun b ps e => ⟨#[], by rw [e]; simp⟩) (fun m hm => ?_) (fun b u e => ?_) I.bare
  · have e : b = it := by simpa using hb
    subst e
    exact ⟨h1, hL, h2, h3⟩
  · obtain ⟨o, es, ep, ho, r⟩ := hm
    exact ⟨o, es, ep, k _ o (Ne.symm hL) ho, r⟩
  · refine (I.hok b u e).stay (fun c v hc q => k c v ?_ q) (fun _ q => q) fun _ _ q => q
    rcases hc with z | z
    · rw [z]; exact nit b u e
    · exact nit c _ z
theorem Inv.tok (I : Inv X pins σ H s) (t : Nat) : Inv X pins σ H { s with toks := t } := I.un (h' := s.heap) (t' := t) Un.refl I.hok
/-- all objects kept -/
theorem Inv.kept {t' : Nat} (I : Inv X pins σ H s) (k : ∀ b u, s.heap.get? b = some u → h'.get? b = some u) : Inv X pins σ H { s with heap := h', toks := t' } := I.un (Un.kept k) (I.hok.kept k)
/-- a new object laid and tracked -/
theorem Inv.laid {a : Addr} {o : HO} {t' : Nat} (I : Inv X pins σ H s) (k : ∀ b u, s.heap.get? b = some u → h'.get? b = some u) (hp : s.heap.objs.size ≤ a) (new : ObjOk X.prog X.w (upd H a o) h' a o) :
    Inv X pins σ (upd H a o) { s with heap := h', toks := t' } := I.un (Un.laid k hp (I.hok.fresh hp)) (I.hok.laid k hp new)
/-- an object written -/
theorem Inv.write {x e : Addr} {o : HO} {t' : Nat} (I : Inv X pins σ H s) (mu : Mut (H x)) (he : e = x ∨ H e = some (.own x)) (k : ∀ b u, b ≠ e → s.heap.get? b = some u → h'.get? b = some u) (heo : ∃ u, h'.get? e = some u)
    (new : ObjOk X.prog X.w (upd H x o) h' x o) : Inv X pins σ (upd H x o) { s with heap := h', toks := t' } := I.un (Un.write mu he k heo) (I.hok.write mu he k heo new)
/-- forgetting slots, pins -/
theorem Inv.weak {σ' : List (Option V)} (I : Inv X pins σ H s) (hl : σ'.length = σ.length) (w : ∀ (i : Nat) v, σ'[i]? = some (some v) → σ[i]? = some (some v)) : Inv X pins σ' H s :=
  ⟨I.ok, I.os, I.bare, I.base, let ⟨m, hn, hl'⟩ := I.loc; ⟨m, hn, fun i x v e1 e2 e3 => hl' i x v e1 (w i v e2) e3⟩, I.cell, I.free, I.freeC, I.pin, I.hok, hl.trans I.len⟩
theorem Inv.pins_of {pins' : List (Addr × Obj)} (I : Inv X pins σ H s) (h : ∀ p ∈ pins', s.heap.get? p.1 = some p.2 ∧ H p.1 = none ∧ p.1 ≠ X.env.locals ∧ p.1 ∉ X.fs ∧ ∀ v, p.2.data ≠ .cell v) : Inv X pins' σ H s :=
  ⟨I.ok, I.os, I.bare, I.base, I.loc, I.cell, I.free, I.freeC, fun p hp => (List.mem_append.mp hp).elim (fun z => I.pin p (List.mem_append_left _ z)) (h p), I.hok, I.len⟩

theorem nodup_ix {N : List Str} (hN : N.Nodup) {i j : Nat} {x : Str} (a : N[i]? = some x) (b : N[j]? = some x) : i = j := by
  obtain ⟨h1, e1⟩ := List.getElem?_eq_some_iff.mp a
  obtain ⟨h2, e2⟩ := List.getElem?_eq_some_iff.mp b
  exact (List.getElem_inj hN).mp (e1.trans e2.symm)

/-- a name is stored; what changed -/
theorem store_ok2 {M : Model} {A : Around} {E : Value → Shared → Prop} {i : Nat} {x : Str} {v : V} {u : Value} {Q : Unit → Shared → Prop} (I : Inv X pins σ H s) (hN : X.N.Nodup) (hi : X.N[i]? = some x) (hx : Loc X.env.scope x) (r : RelV v u)
    (h : ∀ s', Inv X pins (σ.set i (some v)) H s' → (∃ a, Heap.SameBut a s.heap s'.heap ∧ (a = X.env.locals ∨ X.env.cells.lookup x = some a)) → Q () s') (hf : X.fn x = true ∨ X.env.scope.names.lookup x = some .local := by first | exact .inl rfl | exact .inr rfl | assumption) : wpAny M A (storeName X.env x u) Q E s := by
  obtain ⟨m, hn, hl⟩ := id I.loc
  have hcls : (X.env.scope.kind == .class || (X.env.scope.kind == .module && X.env.locals != X.env.globals)) = false := by rw [I.ok.kind]; rfl
  have hiσ : i < σ.length := by rw [I.len]; exact (List.getElem?_eq_some_iff.mp hi).1
  have cne := I.cne
  have tracked : ∀ {a : Addr} {h' : Heap}, (∃ o, s.heap.get? a = some o ∧ H a = none) → Heap.SameBut a s.heap h' → HOk X.prog X.w H h' := fun {a h'} ha hs b ob e => by
    obtain ⟨_, _, hfree⟩ := ha
    refine (I.hok b ob e).stay (fun c w' hc q => (hs.2 c ?_).trans q) (fun _ q => q) fun _ _ q => q
    rintro rfl
    rcases hc with rfl | hc
    · rw [hfree] at e; cases e
    · rw [hfree] at hc; cases hc
  rcases hx with hk | hk
  · refine wpAny_storeName_local hk hn (fun h' hn' hs => ?_) hcls
    obtain ⟨oL, _, _, hoL, _⟩ := id hn
    refine h _ ⟨I.ok, I.os, I.bare, ⟨fun b o e n hb hx => ?_, fun b o e n hb hx => ?_, I.base.free, fun b o e hx => ?_, I.base.tups, I.base.frzs, I.base.tbls⟩, ⟨_, hn', fun j y v' e1 e2 e3 => ?_⟩, fun y c e => ?_, I.free, I.freeC, fun p hp => ?_, tracked ⟨oL, hoL, I.free⟩ hs, by simpa using I.len⟩ ⟨_, hs, .inl rfl⟩
    · exact (hs.2 b (Nat.ne_of_lt (Nat.lt_of_lt_of_le (Heap.lt_size e) I.ok.above))).trans (I.base.keep b o e n hb hx)
    · obtain ⟨sl, e1⟩ := I.base.slot b o e n hb hx
      exact ⟨sl, (hs.2 b (Nat.ne_of_lt (Nat.lt_of_lt_of_le (Heap.lt_size e) I.ok.above))).trans e1⟩
    · obtain ⟨o', e1⟩ := I.base.there b o e hx
      exact ⟨o', (hs.2 b (Nat.ne_of_lt (Nat.lt_of_lt_of_le (Heap.lt_size e) I.ok.above))).trans e1⟩
    · by_cases hj : j = i
      · subst hj
        rw [hi] at e1; cases e1
        rw [List.getElem?_set_self hiσ] at e2
        cases e2
        exact ⟨u, r, .inl ⟨hk, by simp⟩⟩
      · rw [List.getElem?_set_ne (Ne.symm hj)] at e2
        obtain ⟨u', r', q⟩ := hl j y v' e1 e2 e3
        refine ⟨u', r', ?_⟩
        rcases q with ⟨k, e⟩ | ⟨k, c, e, z⟩
        · refine .inl ⟨k, ?_⟩
          have : y ≠ x := fun e => hj (nodup_ix hN e1 (e ▸ hi))
          simp [this, e]
        · exact .inr ⟨k, c, e, z.sameBut hs (cne y c e)⟩
    · obtain ⟨w', z⟩ := I.cell y c e
      exact ⟨w', z.sameBut hs (cne y c e)⟩
    · obtain ⟨e, n, ne, nf, d⟩ := I.pin p hp
      exact ⟨(hs.2 p.1 ne).trans e, n, ne, nf, d⟩
  · have hfn : X.fn x = true := by
      rcases hf with z | z
      · exact z
      · rw [z] at hk; cases hk
    obtain ⟨c, hc⟩ := I.ok.has x (.inl hk)
    obtain ⟨w', z⟩ := I.cell x c hc
    refine wpAny_storeName_cell I.ok.kind hk hc z (fun h' hc' hs => ?_)
    obtain ⟨oc, hoc, hocd⟩ := id z
    refine h { s with heap := h' } ⟨I.ok, I.os, I.bare, ⟨fun b o e n hb hx => ?_, fun b o e n hb hx => ?_, I.base.free, fun b o e hx => ?_, I.base.tups, I.base.frzs, I.base.tbls⟩, ⟨m, hn.sameBut hs (Ne.symm (cne x c hc)), fun j y v' e1 e2 e3 => ?_⟩, fun y c' e => ?_, I.free, I.freeC, fun p hp => ?_, tracked ⟨oc, hoc, I.freeC x c hc⟩ hs, by simpa using I.len⟩ ⟨c, hs, .inr hc⟩
    · exact (hs.2 b (Nat.ne_of_lt (Nat.lt_of_lt_of_le (Heap.lt_size e) (I.ok.cab x c hfn hc)))).trans (I.base.keep b o e n hb hx)
    · obtain ⟨sl, e1⟩ := I.base.slot b o e n hb hx
      exact ⟨sl, (hs.2 b (Nat.ne_of_lt (Nat.lt_of_lt_of_le (Heap.lt_size e) (I.ok.cab x c hfn hc)))).trans e1⟩
    · obtain ⟨o', e1⟩ := I.base.there b o e hx
      exact ⟨o', (hs.2 b (Nat.ne_of_lt (Nat.lt_of_lt_of_le (Heap.lt_size e) (I.ok.cab x c hfn hc)))).trans e1⟩
    · by_cases hj : j = i
      · subst hj
        rw [hi] at e1; cases e1
        rw [List.getElem?_set_self hiσ] at e2
        cases e2
        exact ⟨u, r, .inr ⟨.inl hk, c, hc, hc'⟩⟩
      · rw [List.getElem?_set_ne (Ne.symm hj)] at e2
        obtain ⟨u', r', q⟩ := hl j y v' e1 e2 e3
        refine ⟨u', r', ?_⟩
        rcases q with q | ⟨k, c', e, z'⟩
        · exact .inl q
        · refine .inr ⟨k, c', e, z'.sameBut hs ?_⟩
          rintro rfl
          exact hj (nodup_ix hN e1 (I.ok.inj _ _ _ e hc ▸ hi))
    · by_cases hcc : c' = c
      · subst hcc; exact ⟨_, hc'⟩
      · obtain ⟨w2, z2⟩ := I.cell y c' e
        exact ⟨w2, z2.sameBut hs hcc⟩
    · obtain ⟨e, n, ne, nf, d⟩ := I.pin p hp
      refine ⟨(hs.2 p.1 ?_).trans e, n, ne, nf, d⟩
      intro q
      rw [q, hoc] at e
      have q' : oc = p.2 := Option.some.inj e
      exact d w' (by rw [← q']; exact hocd)
theorem store_ok {M : Model} {A : Around} {E : Value → Shared → Prop} {i : Nat} {x : Str} {v : V} {u : Value} {Q : Unit → Shared → Prop} (I : Inv X pins σ H s) (hN : X.N.Nodup) (hi : X.N[i]? = some x) (hx : Loc X.env.scope x) (r : RelV v u)
    (h : ∀ s', Inv X pins (σ.set i (some v)) H s' → Q () s') (hf : X.fn x = true ∨ X.env.scope.names.lookup x = some .local := by first | exact .inl rfl | exact .inr rfl | assumption) : wpAny M A (storeName X.env x u) Q E s :=
  store_ok2 I hN hi hx r (fun s' I' _ => h s' I') hf
/-- behind a call or a block, the state as it is -/
theorem Inv.call' {s' : Shared} {ch : List Addr} (I : Inv X pins σ H s) (ho : s'.os = s.os) (u : Un (frs X.stack) ch H H' s.heap s'.heap) (hok : HOk X.prog X.w H' s'.heap) (hg : AllBare s'.gens)
    (hch : ∀ b ∈ ch, (b ∈ X.ex ∨ X.s₀.heap.objs.size ≤ b) ∧ b ≠ X.env.locals ∧ (∀ x c, X.env.cells.lookup x = some c → c ≠ b) ∧ ∀ p ∈ X.pn ++ pins, p.1 ≠ b) : Inv X pins σ H' s' := by
  obtain ⟨h', g', d', t', o'⟩ := s'
  have e : o' = s.os := ho
  subst e
  exact I.call (g' := g') (t' := t') (d' := d') u hok hg hch
end

/-! ### the judgements -/
/-- an exception: its class, its own dict's address (where it has one), the abstract heap behind it -/
abbrev XK := Value → Option Addr → Hp → Prop
abbrev St := List (Option V)
abbrev VK := V → Hp → Prop
/-- an expression's reading; a test's; an argument list's -/
abbrev TE := St → Hp → VK → Prop
abbrev TT := St → Hp → (Bool → Hp → Prop) → Prop
abbrev TA := St → Hp → (List V → Hp → Prop) → Prop
/-- what is wanted behind a statement -/
structure Ends where
  nx : St → Hp → Prop
  rt : VK
  bk : St → Hp → Prop := fun _ _ => False
  ct : St → Hp → Prop := fun _ _ => False
abbrev TS := Ends → St → Hp → Prop

def EP (X : Cx) (pins : List (Addr × Obj)) (σ : St) (Q : VK) (u : Value) (s' : Shared) : Prop := ∃ v H', Inv X pins σ H' s' ∧ RelV v u ∧ Q v H'
def TP (X : Cx) (pins : List (Addr × Obj)) (σ : St) (Q : Bool → Hp → Prop) (b : Bool) (s' : Shared) : Prop := ∃ H', Inv X pins σ H' s' ∧ Q b H'
def AP (X : Cx) (pins : List (Addr × Obj)) (σ : St) (Q : List V → Hp → Prop) (us : List Value) (s' : Shared) : Prop := ∃ vs H', Inv X pins σ H' s' ∧ Vals vs us ∧ Q vs H'
def SP (X : Cx) (pins : List (Addr × Obj)) (D : Ends) (f : Flow) (s' : Shared) : Prop :=
  match f with
  | .next => ∃ σ' H', Inv X pins σ' H' s' ∧ D.nx σ' H'
  | .brk => ∃ σ' H', Inv X pins σ' H' s' ∧ D.bk σ' H'
  | .cont => ∃ σ' H', Inv X pins σ' H' s' ∧ D.ct σ' H'
  | .ret u => ∃ v σ' H', Inv X pins σ' H' s' ∧ RelV v u ∧ D.rt v H'

def PE (X : Cx) (e : Expr) (t : TE) : Prop :=
  ∀ (pins : List (Addr × Obj)) (s : Shared) (σ : St) (H : Hp) (Q : VK), Inv X pins σ H s → t σ H Q → wpAny (model X.prog X.w) X.A (eval e X.env) (EP X pins σ Q) X.xe s
def PT (X : Cx) (e : Expr) (t : TT) : Prop :=
  ∀ (pins : List (Addr × Obj)) (s : Shared) (σ : St) (H : Hp) (Q : Bool → Hp → Prop), Inv X pins σ H s → t σ H Q → wpAny (model X.prog X.w) X.A (isTrue e X.env (eval e X.env)) (TP X pins σ Q) X.xe s
/-- a test whatever its 'whole' is (and, or) -/
def PW (X : Cx) (e : Expr) (t : TT) : Prop :=
  ∀ (whole : Sem Value) (pins : List (Addr × Obj)) (s : Shared) (σ : St) (H : Hp) (Q : Bool → Hp → Prop), Inv X pins σ H s → t σ H Q → wpAny (model X.prog X.w) X.A (isTrue e X.env whole) (TP X pins σ Q) X.xe s
theorem PW.pt {X : Cx} {e : Expr} {t : TT} (h : PW X e t) : PT X e t := h _
/-- an argument list (no star), from the left -/
def PA (X : Cx) (es : List Expr) (t : TA) : Prop :=
  ∀ (pos : Pos) (pins : List (Addr × Obj)) (s : Shared) (σ : St) (H : Hp) (Q : List V → Hp → Prop), Inv X pins σ H s → t σ H Q → wpAny (model X.prog X.w) X.A (spliced (backTo pos (starEach es X.env))) (AP X pins σ Q) X.xe s
def PS (X : Cx) (st : Stmt) (t : TS) : Prop :=
  ∀ (pins : List (Addr × Obj)) (s : Shared) (σ : St) (H : Hp) (D : Ends), Inv X pins σ H s → t D σ H → wpAny (model X.prog X.w) X.A (exec st X.env) (SP X pins D) X.xe s
def PSs (X : Cx) (st : List Stmt) (t : TS) : Prop :=
  ∀ (pins : List (Addr × Obj)) (s : Shared) (σ : St) (H : Hp) (D : Ends), Inv X pins σ H s → t D σ H → wpAny (model X.prog X.w) X.A (execs st X.env) (SP X pins D) X.xe s
/-- weaken the end -/
theorem thn {α : Type} {t : Sem α} {Q Q' : α → Shared → Prop} {M : Model} {A : Around} {E : Value → Shared → Prop} {s : Shared} (h : wpAny M A t Q E s) (hQ : ∀ a s, Q a s → Q' a s) : wpAny M A t Q' E s := wpAny_mono h hQ fun _ _ x => x
end L2

namespace L2
open PySem PySem.Spec PyProof.Rows
section
variable {X : Cx}

/-- two expressions in a row -/
theorem bin {a b : Expr} {ta tb : TE} (ha : PE X a ta) (hb : PE X b tb) {pins : List (Addr × Obj)} {s : Shared} {σ : St} {H : Hp} {R : V → V → Hp → Prop} (I : Inv X pins σ H s) (h : ta σ H fun x H1 => tb σ H1 fun y H2 => R x y H2)
    {α : Type} {Q : α → Shared → Prop} {f : Value → Value → Sem α}
    (hf : ∀ v u s2 x y H2, Inv X pins σ H2 s2 → RelV x v → RelV y u → R x y H2 → wpAny (model X.prog X.w) X.A (f v u) Q X.xe s2) :
    wpAny (model X.prog X.w) X.A (eval a X.env) (fun v s₁ => wpAny (model X.prog X.w) X.A (eval b X.env) (fun u s₂ => wpAny (model X.prog X.w) X.A (f v u) Q X.xe s₂) X.xe s₁) X.xe s := by
  refine thn (ha pins s σ H _ I h) fun v s1 ⟨x, H1, I1, r1, q1⟩ => ?_
  refine thn (hb pins s1 σ H1 _ I1 q1) fun u s2 ⟨y, H2, I2, r2, q2⟩ => ?_
  exact hf v u s2 x y H2 I2 r1 r2 q2

/-! ### names and constants -/
def tVar (i : Nat) : TE := fun σ H Q => ∃ v, σ[i]? = some (some v) ∧ Q v H
def tC (v : V) : TE := fun _ H Q => Q v H
theorem pe_var {i : Nat} {x : Str} {pos : Pos} (hN : X.N[i]? = some x) (hv : Vis X.env.scope x) (hd : (x == ("__debug__" : Str)) = false := by decide) (hcd : (x == ("__classdict__" : Str)) = false := by decide) : PE X (.Name x pos) (tVar i) := by
  intro pins s σ H Q I h
  obtain ⟨v, e, h⟩ := h
  obtain ⟨m, hn, hl⟩ := I.loc
  obtain ⟨u, r, l⟩ := hl i x v hN e hv
  have fin : EP X pins σ Q u s := ⟨v, H, I, r, h⟩
  rcases l with ⟨hk, hm⟩ | ⟨hk, c, hc, hcell⟩
  · exact wpAny_Name (wpAny_loadName_local I.ok.kind hk hn hm fin) hd
  · rcases hk with hk | hk
    · exact wpAny_Name (wpAny_loadName_cell I.ok.kind hk hc hcell fin) hd
    · exact wpAny_Name (wpAny_loadName_free I.ok.kind hk hc hcell fin hcd) hd
theorem pe_int {i j pos} : PE X (.Constant (.int i) j pos) (tC (.int i)) := fun _ _ _ H _ I h => wpAny_Constant_int ⟨.int i, H, I.tok _, ⟨_, rfl⟩, h⟩
theorem pe_bl {b j pos} : PE X (.Constant (.bool b) j pos) (tC (.bl b)) := fun _ _ _ H _ I h => Constant_bool ⟨.bl b, H, I, rfl, h⟩
theorem pe_non {j pos} : PE X (.Constant .none j pos) (tC .non) := fun _ _ _ H _ I h => Constant_none ⟨.non, H, I, rfl, h⟩
theorem pe_str {x j pos} : PE X (.Constant (.str x) j pos) (tC (.str x)) := fun _ _ _ H _ I h => Calls.Constant_str ⟨.str x, H, I.tok _, ⟨_, rfl⟩, h⟩

/-- a global name of the def -/
def Gl (X : Cx) (x : Str) : Prop := X.env.kindOf x = some .globalImplicit
theorem ld_glob {E : Value → Shared → Prop} {pins : List (Addr × Obj)} {s : Shared} {σ : St} {H : Hp} {x : Str} {u : Value} {pos : Pos} {Q : Value → Shared → Prop} (I : Inv X pins σ H s) (hg : Gl X x) (hm : X.mg x = some u) (h : Q u s)
    (hd : (x == ("__debug__" : Str)) = false := by decide) : wpAny (model X.prog X.w) X.A (eval (.Name x pos) X.env) Q E s :=
  Calls.Name_function_global I.ok.kind hg (Calls.loadGlobal_global (by rw [I.ok.glob]; exact I.mod.glob.keeps I.bk) hm h) hd
theorem ld_blt {E : Value → Shared → Prop} {pins : List (Addr × Obj)} {s : Shared} {σ : St} {H : Hp} {x : Str} {u : Value} {pos : Pos} {Q : Value → Shared → Prop} (I : Inv X pins σ H s) (hg : Gl X x) (hm : X.mg x = none) (hv : bootBuiltins x = some u) (h : Q u s)
    (hn : x ≠ "__name__" := by decide) (hd : (x == ("__debug__" : Str)) = false := by decide) : wpAny (model X.prog X.w) X.A (eval (.Name x pos) X.env) Q E s := by
  obtain ⟨mb, h1, h2⟩ := I.mod.blt
  exact Calls.Name_function_global I.ok.kind hg (Calls.loadGlobal_builtin (by rw [I.ok.glob]; exact I.mod.glob.keeps I.bk) hm (by rw [I.ok.blt]; exact h1.keeps I.bk) ((h2 x hn).trans hv) h) hd
/-- a module's constant, a class, a function, as a value -/
theorem pe_glob {x : Str} {v : V} {u : Value} {pos : Pos} (hg : Gl X x) (hm : X.mg x = some u) (r : RelV v u) (hd : (x == ("__debug__" : Str)) = false := by decide) : PE X (.Name x pos) (tC v) :=
  fun _ _ _ H _ I h => ld_glob I hg hm ⟨v, H, I, r, h⟩ hd
theorem pe_bltn {x : Str} {v : V} {u : Value} {pos : Pos} (hg : Gl X x) (hm : X.mg x = none) (hv : bootBuiltins x = some u) (r : RelV v u) (hn : x ≠ "__name__" := by decide) (hd : (x == ("__debug__" : Str)) = false := by decide) : PE X (.Name x pos) (tC v) :=
  fun _ _ _ H _ I h => ld_blt I hg hm hv ⟨v, H, I, r, h⟩ hn hd

/-! ### arithmetic -/
/-- two ints -/
def t2I (ta tb : TE) (k : Int → Int → Hp → Prop) : St → Hp → Prop := fun σ H => ta σ H fun x H1 => tb σ H1 fun y H2 => ∃ i j, x = .int i ∧ y = .int j ∧ k i j H2
def tAdd (ta tb : TE) : TE := fun σ H Q => t2I ta tb (fun i j H2 => Q (.int (i + j)) H2) σ H
def tSub (ta tb : TE) : TE := fun σ H Q => t2I ta tb (fun i j H2 => Q (.int (i - j)) H2) σ H
/-- the left factor below 2^64 -/
def tMul (ta tb : TE) : TE := fun σ H Q => t2I ta tb (fun i j H2 => (-(2 ^ 64) < i ∧ i < 2 ^ 64) ∧ Q (.int (i * j)) H2) σ H
variable {a b : Expr} {ta tb : TE} {pos : Pos}
theorem pe_add (ha : PE X a ta) (hb : PE X b tb) : PE X (.BinOp a .Add b pos) (tAdd ta tb) := by
  intro pins s σ H Q I h
  refine wpAny_BinOp (bin ha hb I h fun v u s2 x y H2 I2 rx ry q => ?_)
  obtain ⟨i, j, rfl, rfl, q⟩ := q
  obtain ⟨t, rfl⟩ := rx
  obtain ⟨t', rfl⟩ := ry
  exact add_int ⟨.int _, H2, I2.tok _, ⟨_, rfl⟩, q⟩
theorem pe_sub (ha : PE X a ta) (hb : PE X b tb) : PE X (.BinOp a .Sub b pos) (tSub ta tb) := by
  intro pins s σ H Q I h
  refine wpAny_BinOp (bin ha hb I h fun v u s2 x y H2 I2 rx ry q => ?_)
  obtain ⟨i, j, rfl, rfl, q⟩ := q
  obtain ⟨t, rfl⟩ := rx
  obtain ⟨t', rfl⟩ := ry
  exact sub_int ⟨.int _, H2, I2.tok _, ⟨_, rfl⟩, q⟩
theorem pe_mul (ha : PE X a ta) (hb : PE X b tb) : PE X (.BinOp a .Mult b pos) (tMul ta tb) := by
  intro pins s σ H Q I h
  refine wpAny_BinOp (bin ha hb I h fun v u s2 x y H2 I2 rx ry q => ?_)
  obtain ⟨i, j, rfl, rfl, ⟨q1, q2⟩, q⟩ := q
  obtain ⟨t, rfl⟩ := rx
  obtain ⟨t', rfl⟩ := ry
  exact mul_int ⟨.int _, H2, I2.tok _, ⟨_, rfl⟩, q⟩ (.of_left (intBits_le_64 q1 q2))

/-! ### comparisons -/
def PC (X : Cx) (op : CmpOp) (a b : Expr) (t : TE) : Prop :=
  ∀ (pins : List (Addr × Obj)) (s : Shared) (σ : St) (H : Hp) (Q : VK), Inv X pins σ H s → t σ H Q →
    wpAny (model X.prog X.w) X.A (eval a X.env) (fun v s₁ => wpAny (model X.prog X.w) X.A (eval b X.env) (fun u s₂ => wpAny (model X.prog X.w) X.A (compareOp op v u) (EP X pins σ Q) X.xe s₂) X.xe s₁) X.xe s
theorem nobehind (b : Expr) {op : CmpOp} (h : op ≠ .In) (h2 : op ≠ .NotIn) : behindInMarks op b = false := by
  have e1 : (op == CmpOp.In) = false := by cases op <;> first | rfl | exact absurd rfl h
  have e2 : (op == CmpOp.NotIn) = false := by cases op <;> first | rfl | exact absurd rfl h2
  cases b <;> simp [behindInMarks, e1, e2]
def tCmp (p : Int → Int → Bool) (ta tb : TE) : TE := fun σ H Q => t2I ta tb (fun i j H2 => Q (.bl (p i j)) H2) σ H
abbrev tLt : TE → TE → TE := tCmp fun i j => decide (i < j)
abbrev tLe : TE → TE → TE := tCmp fun i j => decide (i ≤ j)
abbrev tGt : TE → TE → TE := tCmp fun i j => decide (j < i)
abbrev tGe : TE → TE → TE := tCmp fun i j => decide (j ≤ i)
abbrev tEqI : TE → TE → TE := tCmp fun i j => decide (i = j)
abbrev tNeI : TE → TE → TE := tCmp fun i j => !decide (i = j)
/-- a comparison of two ints, by its rule -/
theorem pc_int {op : CmpOp} {p : Int → Int → Bool} (ha : PE X a ta) (hb : PE X b tb)
    (rule : ∀ (i j : Int) (t u : Tok) (Q : Value → Shared → Prop) (s : Shared), Q (.bool (p i j)) s → wpAny (model X.prog X.w) X.A (compareOp op (.int i t) (.int j u)) Q X.xe s) : PC X op a b (tCmp p ta tb) := by
  intro pins s σ H Q I h
  refine bin ha hb I h fun v u s2 x y H2 I2 rx ry q => ?_
  obtain ⟨i, j, rfl, rfl, q⟩ := q
  obtain ⟨t, rfl⟩ := rx
  obtain ⟨t', rfl⟩ := ry
  exact rule i j t t' _ s2 ⟨.bl _, H2, I2, rfl, q⟩
theorem pc_lt (ha : PE X a ta) (hb : PE X b tb) : PC X .Lt a b (tLt ta tb) := pc_int ha hb fun _ _ _ _ _ _ h => lt_int h
theorem pc_le (ha : PE X a ta) (hb : PE X b tb) : PC X .LtE a b (tLe ta tb) := pc_int ha hb fun _ _ _ _ _ _ h => le_int h
theorem pc_gt (ha : PE X a ta) (hb : PE X b tb) : PC X .Gt a b (tGt ta tb) := pc_int ha hb fun _ _ _ _ _ _ h => gt_int h
theorem pc_ge (ha : PE X a ta) (hb : PE X b tb) : PC X .GtE a b (tGe ta tb) := pc_int ha hb fun _ _ _ _ _ _ h => ge_int h
theorem pc_eqI (ha : PE X a ta) (hb : PE X b tb) : PC X .Eq a b (tEqI ta tb) := pc_int ha hb fun _ _ _ _ _ _ h => eq_int (by rw [Bool.beq_eq_decide_eq]; exact h)
theorem pc_neI (ha : PE X a ta) (hb : PE X b tb) : PC X .NotEq a b (tNeI ta tb) := pc_int ha hb fun _ _ _ _ _ _ h => ne_int (by rw [bne, Bool.beq_eq_decide_eq]; exact h)
/-- is None -/
def tIsN (ta : TE) : TE := fun σ H Q => ta σ H fun x H1 => Q (.bl (decide (x = .non))) H1
def tNotN (ta : TE) : TE := fun σ H Q => ta σ H fun x H1 => Q (.bl (!decide (x = .non))) H1
theorem RelV.none_iff {x : V} {v : Value} (r : RelV x v) : (v == Value.none) = decide (x = .non) := by
  cases x with
  | non => cases r; rfl
  | bl _ => cases r; rfl
  | int _ => obtain ⟨t, rfl⟩ := r; rfl
  | str _ => obtain ⟨t, rfl⟩ := r; rfl
  | byt _ => obtain ⟨t, rfl⟩ := r; rfl
  | flt _ => obtain ⟨t, rfl⟩ := r; rfl
  | ref _ => cases r; rfl
  | ty _ => cases r; rfl
theorem pc_isN {j pos'} (ha : PE X a ta) : PC X .Is a (.Constant .none j pos') (tIsN ta) := by
  intro pins s σ H Q I h
  refine thn (ha pins s σ H _ I h) fun v s1 ⟨x, H1, I1, r1, q1⟩ => ?_
  exact Constant_none (is_none_gen ⟨.bl _, H1, I1, by rw [r1.none_iff]; rfl, q1⟩)
theorem pc_notN {j pos'} (ha : PE X a ta) : PC X .IsNot a (.Constant .none j pos') (tNotN ta) := by
  intro pins s σ H Q I h
  refine thn (ha pins s σ H _ I h) fun v s1 ⟨x, H1, I1, r1, q1⟩ => ?_
  exact Constant_none (isnot_none_gen ⟨.bl _, H1, I1, by rw [r1.none_iff]; rfl, q1⟩)
/-- a comparison as a value, as a test -/
def tB (t : TE) : TT := fun σ H Q => t σ H fun x H1 => ∃ c, x = .bl c ∧ Q c H1
theorem pe_cmp {op : CmpOp} {t : TE} (h : PC X op a b t) (h1 : behindInMarks op b = false := by first | exact nobehind _ (by decide) (by decide) | rfl) : PE X (.Compare a [op] [b] pos) t := fun pins s σ H Q I hw => wpAny_Compare1 (h pins s σ H Q I hw) h1
theorem pt_cmp {op : CmpOp} {t : TE} (h : PC X op a b t) (h1 : behindInMarks op b = false := by first | exact nobehind _ (by decide) (by decide) | rfl) : PT X (.Compare a [op] [b] pos) (tB t) := by
  intro pins s σ H Q I hw
  refine wpAny_isTrue_Compare1 (thn (h pins s σ H _ I hw) fun v s1 h1 => thn h1 fun u s2 h2 => thn h2 fun c s3 ⟨x, H1, I1, r1, q1⟩ => ?_) h1
  obtain ⟨d, rfl, q⟩ := q1
  cases r1
  exact wpAny_truthy_bool ⟨H1, I1, q⟩
/-- an expression whose value is a bool, as a test -/
theorem pt_val {e : Expr} {t : TE} (h : PE X e t) (he : ∀ whole, isTrue e X.env whole = (do let v ← whole; standAt e.pos; holding [v] (truthy v)) := by intro _; rfl) : PT X e (tB t) := by
  intro pins s σ H Q I hw
  refine isTrue_plain (thn (h pins s σ H _ I hw) fun v s1 ⟨x, H1, I1, r1, q1⟩ => ?_) (he _)
  obtain ⟨d, rfl, q⟩ := q1
  cases r1
  exact wpAny_truthy_bool ⟨H1, I1, q⟩

/-! ### and, or, not -/
variable {tA tB' : TT} {rest : List Expr}
def tAnd (t u : TT) : TT := fun σ H Q => t σ H fun c H1 => if c = true then u σ H1 Q else Q false H1
def tOr (t u : TT) : TT := fun σ H Q => t σ H fun c H1 => if c = true then Q true H1 else u σ H1 Q
def tNot (t : TT) : TT := fun σ H Q => t σ H fun c H1 => Q (!c) H1
theorem pw_and1 (ha : PT X a tA) : PW X (.BoolOp .And [a] pos) tA := by
  intro wh pins s σ H Q I h
  refine isTrue_and (thn (ha pins s σ H Q I h) fun c s1 e => ?_)
  cases c with
  | true => exact isTrue_and_nil e
  | false => exact e
theorem pw_or1 (ha : PT X a tA) : PW X (.BoolOp .Or [a] pos) tA := by
  intro wh pins s σ H Q I h
  refine isTrue_or (thn (ha pins s σ H Q I h) fun c s1 e => ?_)
  cases c with
  | false => exact isTrue_or_nil e
  | true => exact e
theorem pw_and (ha : PT X a tA) (hb : PW X (.BoolOp .And (b :: rest) pos) tB') : PW X (.BoolOp .And (a :: b :: rest) pos) (tAnd tA tB') := by
  intro wh pins s σ H Q I h
  refine isTrue_and (thn (ha pins s σ H _ I h) fun c s1 ⟨H1, I1, q1⟩ => ?_)
  cases c with
  | true => exact hb wh pins s1 σ H1 Q I1 q1
  | false => exact ⟨H1, I1, q1⟩
theorem pw_or (ha : PT X a tA) (hb : PW X (.BoolOp .Or (b :: rest) pos) tB') : PW X (.BoolOp .Or (a :: b :: rest) pos) (tOr tA tB') := by
  intro wh pins s σ H Q I h
  refine isTrue_or (thn (ha pins s σ H _ I h) fun c s1 ⟨H1, I1, q1⟩ => ?_)
  cases c with
  | true => exact ⟨H1, I1, q1⟩
  | false => exact hb wh pins s1 σ H1 Q I1 q1
theorem pt_not (ha : PT X a tA) : PT X (.UnaryOp .Not a pos) (tNot tA) := by
  intro pins s σ H Q I h
  exact isTrue_not (ha pins s σ H (fun c H1 => Q (!c) H1) I h)
/-- .. as values (bools) -/
def tAndV (ta tb : TE) : TE := fun σ H Q => ta σ H fun x H1 => ∃ c, x = .bl c ∧ if c = true then tb σ H1 Q else Q (.bl false) H1
def tOrV (ta tb : TE) : TE := fun σ H Q => ta σ H fun x H1 => ∃ c, x = .bl c ∧ if c = true then Q (.bl true) H1 else tb σ H1 Q
def tNotV (ta : TE) : TE := fun σ H Q => ta σ H fun x H1 => ∃ c, x = .bl c ∧ Q (.bl (!c)) H1
theorem pe_one {op} {t : TE} (h : PE X a t) : PE X (.BoolOp op [a] pos) t := fun pins s σ H Q I hw => BoolOp_one (h pins s σ H Q I hw)
theorem pe_and (ha : PE X a ta) (hb : PE X (.BoolOp .And (b :: rest) pos) tb) : PE X (.BoolOp .And (a :: b :: rest) pos) (tAndV ta tb) := by
  intro pins s σ H Q I h
  refine BoolOp_and (thn (ha pins s σ H _ I h) fun v s1 ⟨x, H1, I1, r1, q1⟩ => ?_)
  obtain ⟨c, rfl, q1⟩ := q1
  cases r1
  refine wpAny_truthy_bool ?_
  cases c with
  | true => exact hb pins s1 σ H1 Q I1 q1
  | false => exact ⟨.bl false, H1, I1, rfl, q1⟩
theorem pe_or (ha : PE X a ta) (hb : PE X (.BoolOp .Or (b :: rest) pos) tb) : PE X (.BoolOp .Or (a :: b :: rest) pos) (tOrV ta tb) := by
  intro pins s σ H Q I h
  refine BoolOp_or (thn (ha pins s σ H _ I h) fun v s1 ⟨x, H1, I1, r1, q1⟩ => ?_)
  obtain ⟨c, rfl, q1⟩ := q1
  cases r1
  refine wpAny_truthy_bool ?_
  cases c with
  | false => exact hb pins s1 σ H1 Q I1 q1
  | true => exact ⟨.bl true, H1, I1, rfl, q1⟩
theorem pe_not (ha : PE X a ta) : PE X (.UnaryOp .Not a pos) (tNotV ta) := by
  intro pins s σ H Q I h
  refine UnaryOp_ (thn (ha pins s σ H _ I h) fun v s1 ⟨x, H1, I1, r1, q1⟩ => ?_)
  obtain ⟨c, rfl, q1⟩ := q1
  cases r1
  exact not_of (wpAny_truthy_bool ⟨.bl (!c), H1, I1, rfl, q1⟩)
/-- a if t else b -/
def tIf (t : TT) (ta tb : TE) : TE := fun σ H Q => t σ H fun c H1 => if c = true then ta σ H1 Q else tb σ H1 Q
theorem pe_ifExp {c : Expr} (hc : PT X c tA) (ha : PE X a ta) (hb : PE X b tb) : PE X (.IfExp c a b pos) (tIf tA ta tb) := by
  intro pins s σ H Q I h
  refine wpAny_IfExp (thn (hc pins s σ H _ I h) fun d s1 ⟨H1, I1, q1⟩ => ?_)
  cases d with
  | true => exact ha pins s1 σ H1 Q I1 q1
  | false => exact hb pins s1 σ H1 Q I1 q1
end
end L2

namespace L2
open PySem PySem.Spec PyProof.Rows

/-! ### a list, a tuple that is read: tracked, frozen, or an object of the module -/
def SqL (K : PySem.W.Frag) (H : Hp) (a : Addr) (xs : List V) : Prop :=
  Rd H a (.lst xs) ∨
    ∃ (o : Obj) (its : Array Value) (n : Nat), K.lookup a = some o ∧ o.cls = .type "list" ∧ o.dict = none ∧ o.data = .seq its n ∧ its.size ≤ sizeLine ∧ Vals xs its.toList
def SqT (K : PySem.W.Frag) (H : Hp) (a : Addr) (xs : List V) : Prop :=
  Rd H a (.tup xs) ∨
    ∃ (o : Obj) (its : Array Value) (n : Nat), K.lookup a = some o ∧ o.cls = .type "tuple" ∧ o.data = .seq its n ∧ its.size ≤ sizeLine ∧ Vals xs its.toList
def absV : Value → Option V
  | .none => some .non
  | .bool b => some (.bl b)
  | .int i _ => some (.int i)
  | .str x _ => some (.str x)
  | .bytes b _ => some (.byt b)
  | .float b _ => some (.flt b)
  | .ref a => some (.ref a)
  | .type n => some (.ty n)
  | _ => none
theorem RelV.abs {x : V} {u : Value} (r : RelV x u) : absV u = some x := by
  cases x with
  | non => cases r; rfl
  | bl _ => cases r; rfl
  | int _ => obtain ⟨t, rfl⟩ := r; rfl
  | str _ => obtain ⟨t, rfl⟩ := r; rfl
  | byt _ => obtain ⟨t, rfl⟩ := r; rfl
  | flt _ => obtain ⟨t, rfl⟩ := r; rfl
  | ref _ => cases r; rfl
  | ty _ => cases r; rfl
theorem RelV.inj {x y : V} {u : Value} (r : RelV x u) (q : RelV y u) : x = y := Option.some.inj (r.abs.symm.trans q.abs)
theorem Vals.inj : ∀ {xs ys : List V} {us : List Value}, Vals xs us → Vals ys us → xs = ys
  | _, _, _, .nil, .nil => rfl
  | _, _, _, .cons r t, .cons r' t' => by rw [r.inj r', Vals.inj t t']
section
variable {X : Cx} {pins : List (Addr × Obj)} {σ : St} {H : Hp} {s : Shared} {a : Addr} {xs ys : List V}
theorem SqL.of {K : PySem.W.Frag} (h : H a = some (.lst xs)) : SqL K H a xs := .inl (.inl h)
theorem SqT.of {K : PySem.W.Frag} (h : H a = some (.tup xs)) : SqT K H a xs := .inl (.inl h)
theorem Inv.list (I : Inv X pins σ H s) (h : SqL X.K H a xs) : ∃ its : List Value, Vals xs its ∧ PlainL s.heap a its.toArray ∧ xs.length ≤ sizeLine := by
  rcases h with h | ⟨o, its, n, hk, hc, hd, hs, hz, r⟩
  · obtain ⟨z, its, n, r, e⟩ := h.ok I.hok
    exact ⟨its, r, ⟨_, n, e, rfl, rfl, rfl⟩, z⟩
  · refine ⟨its.toList, r, ⟨o, n, I.kIn a o hk, hc, hd, by simpa using hs⟩, ?_⟩
    have e := r.length
    simp only [Array.length_toList] at e
    omega
theorem Inv.tuple (I : Inv X pins σ H s) (h : SqT X.K H a xs) : ∃ its : List Value, Vals xs its ∧ IsTup s.heap a its.toArray ∧ xs.length ≤ sizeLine := by
  rcases h with h | ⟨o, its, n, hk, hc, hs, hz, r⟩
  · obtain ⟨z, its, r, p⟩ := h.ok I.hok
    exact ⟨its, r, p, z⟩
  · refine ⟨its.toList, r, ⟨o, I.kIn a o hk, hc, n, by simpa using hs⟩, ?_⟩
    have e := r.length
    simp only [Array.length_toList] at e
    omega
theorem Inv.list_inj (I : Inv X pins σ H s) (h : SqL X.K H a xs) (h' : SqL X.K H a ys) : xs = ys := by
  obtain ⟨its, r, ⟨o, n, e, _, _, d⟩, _⟩ := I.list h
  obtain ⟨its', r', ⟨o', n', e', _, _, d'⟩, _⟩ := I.list h'
  rw [e] at e'; cases e'
  rw [d] at d'
  injection d' with d1 _
  have : its = its' := by simpa using congrArg Array.toList d1
  subst this
  exact r.inj r'
theorem Inv.tuple_inj (I : Inv X pins σ H s) (h : SqT X.K H a xs) (h' : SqT X.K H a ys) : xs = ys := by
  obtain ⟨its, r, ⟨o, e, _, n, d⟩, _⟩ := I.tuple h
  obtain ⟨its', r', ⟨o', e', _, n', d'⟩, _⟩ := I.tuple h'
  rw [e] at e'; cases e'
  rw [d] at d'
  injection d' with d1 _
  have : its = its' := by simpa using congrArg Array.toList d1
  subst this
  exact r.inj r'
end

/-! ### another wish about exceptions -/
abbrev Cx.wish (X : Cx) (E : Value → Shared → Prop) : Cx := { X with xe := E }
/-- no exception leaves -/
abbrev Cx.nox (X : Cx) : Cx := X.wish fun _ _ => False
theorem Cx.Ok.wish {X : Cx} (ok : X.Ok) (E : Value → Shared → Prop) : (X.wish E).Ok :=
  ⟨ok.mod, ok.kind, ok.glob, ok.blt, ok.above, ok.inj, ok.has, ok.cab, ok.hd, ok.frames, ok.stk, ok.exf, ok.bs, ok.bsz, ok.noex, ok.exfs, ok.funs, ok.frf⟩
theorem Cx.Ok.unwish {X : Cx} {E : Value → Shared → Prop} (ok : (X.wish E).Ok) : X.Ok :=
  ⟨ok.mod, ok.kind, ok.glob, ok.blt, ok.above, ok.inj, ok.has, ok.cab, ok.hd, ok.frames, ok.stk, ok.exf, ok.bs, ok.bsz, ok.noex, ok.exfs, ok.funs, ok.frf⟩
section
variable {X : Cx} {pins : List (Addr × Obj)} {σ : St} {H : Hp} {s : Shared} {E : Value → Shared → Prop}
theorem Inv.wish (I : Inv X pins σ H s) (E : Value → Shared → Prop) : Inv (X.wish E) pins σ H s := ⟨I.ok.wish E, I.os, I.bare, I.base, I.loc, I.cell, I.free, I.freeC, I.pin, I.hok, I.len⟩
theorem Inv.unwish (I : Inv (X.wish E) pins σ H s) : Inv X pins σ H s := ⟨I.ok.unwish, I.os, I.bare, I.base, I.loc, I.cell, I.free, I.freeC, I.pin, I.hok, I.len⟩
theorem SP.unwish {D : Ends} {f : Flow} {s' : Shared} (h : SP (X.wish E) pins D f s') : SP X pins D f s' := by
  cases f with
  | next => obtain ⟨σ', H', I, q⟩ := h; exact ⟨σ', H', I.unwish, q⟩
  | brk => obtain ⟨σ', H', I, q⟩ := h; exact ⟨σ', H', I.unwish, q⟩
  | cont => obtain ⟨σ', H', I, q⟩ := h; exact ⟨σ', H', I.unwish, q⟩
  | ret u => obtain ⟨v, σ', H', I, r, q⟩ := h; exact ⟨v, σ', H', I.unwish, r, q⟩
theorem PE.nox {e : Expr} {t : TE} (h : PE X.nox e t) : PE X e t := fun pins s σ H Q I hw =>
  wpAny_mono (h pins s σ H Q (I.wish _) hw) (fun _ _ ⟨v, H', I', r, q⟩ => ⟨v, H', I'.unwish, r, q⟩) fun _ _ z => False.elim z
theorem PT.nox {e : Expr} {t : TT} (h : PT X.nox e t) : PT X e t := fun pins s σ H Q I hw =>
  wpAny_mono (h pins s σ H Q (I.wish _) hw) (fun _ _ ⟨H', I', q⟩ => ⟨H', I'.unwish, q⟩) fun _ _ z => False.elim z
theorem PSs.nox {st : List Stmt} {t : TS} (h : PSs X.nox st t) : PSs X st t := fun pins s σ H D I hw =>
  wpAny_mono (h pins s σ H D (I.wish _) hw) (fun _ _ q => q.unwish) fun _ _ z => False.elim z
end

/-! ### blocks and small statements -/
section
variable {X : Cx} {st : Stmt} {rest : List Stmt} {t u : TS} {e : Expr} {te : TE} {pos : Pos}
def tNext : TS := fun D σ H => D.nx σ H
def tSeq (t u : TS) : TS := fun D σ H => t { D with nx := u D } σ H
theorem pss_nil : PSs X [] tNext := fun _ _ σ H _ I h => wpAny_execs_nil ⟨σ, H, I, h⟩
theorem pss_cons (h1 : PS X st t) (h2 : PSs X rest u) : PSs X (st :: rest) (tSeq t u) := by
  intro pins s σ H D I h
  refine wpAny_execs_cons (thn (h1 pins s σ H { D with nx := u D } I h) fun f s1 q => ?_)
  cases f with
  | next =>
    obtain ⟨σ', H', I', q⟩ := q
    exact h2 pins s1 σ' H' D I' q
  | ret v => exact q
  | brk => exact q
  | cont => exact q
theorem pss_one (h1 : PS X st t) : PSs X [st] t := by
  intro pins s σ H D I h
  refine wpAny_execs_cons (thn (h1 pins s σ H D I h) fun f s1 q => ?_)
  cases f with
  | next => exact wpAny_execs_nil q
  | ret v => exact q
  | brk => exact q
  | cont => exact q
def tBreak : TS := fun D σ H => D.bk σ H
def tCont : TS := fun D σ H => D.ct σ H
theorem ps_pass : PS X (.Pass pos) tNext := fun _ _ σ H _ I h => wpAny_Pass ⟨σ, H, I, h⟩
theorem ps_break : PS X (.Break pos) tBreak := fun _ _ σ H _ I h => wpAny_Break ⟨σ, H, I, h⟩
theorem ps_continue : PS X (.Continue pos) tCont := fun _ _ σ H _ I h => wpAny_Continue ⟨σ, H, I, h⟩
/-- in a def's body nothing is shown -/
theorem Inv.quiet {pins : List (Addr × Obj)} {σ : St} {H : Hp} {s : Shared} (I : Inv X pins σ H s) : interactive X.env = false := by simp [interactive, I.ok.kind]
/-- a docstring -/
theorem ps_doc {x j pos pos'} : PS X (.Expr (.Constant (.str x) j pos) pos') tNext := fun _ s σ H _ I h => wpAny_Expr (Calls.Constant_str (show SP X _ _ .next { s with toks := s.toks + 1 } from ⟨σ, H, I.tok _, h⟩)) I.quiet
/-- an expression whose value is dropped -/
def tDrop (te : TE) : TS := fun D σ H => te σ H fun _ H1 => D.nx σ H1
theorem ps_expr (he : PE X e te) (hs : swapsWith e none pos.line X.env = pure false := by rfl) : PS X (.Expr e pos) (tDrop te) := by
  intro pins s σ H D I h
  exact wpAny_Expr_any (thn (he pins s σ H _ I h) fun v s1 ⟨x, H1, I1, r1, q1⟩ => ⟨σ, H1, I1, q1⟩) I.quiet hs
def tRet (te : TE) : TS := fun D σ H => te σ H D.rt
theorem ps_ret (he : PE X e te) : PS X (.Return (some e) pos) (tRet te) := by
  intro pins s σ H D I h
  exact wpAny_Return_some (thn (he pins s σ H _ I h) fun v s1 ⟨x, H1, I1, r1, q1⟩ => ⟨x, σ, H1, I1, r1, q1⟩)
def tRetN : TS := fun D _ H => D.rt .non H
theorem ps_retN : PS X (.Return none pos) tRetN := fun _ _ σ H _ I h => wpAny_Return_none ⟨.non, σ, H, I, rfl, h⟩
def tIfS (c : TT) (t u : TS) : TS := fun D σ H => c σ H fun b H1 => if b = true then t D σ H1 else u D σ H1
theorem ps_if {c : Expr} {a b : List Stmt} {tc : TT} (hc : PT X c tc) (ha : PSs X a t) (hb : PSs X b u) : PS X (.If c a b pos) (tIfS tc t u) := by
  intro pins s σ H D I h
  refine wpAny_If (thn (hc pins s σ H _ I h) fun d s1 ⟨H1, I1, q1⟩ => ?_)
  cases d with
  | true => exact ha pins s1 σ H1 D I1 q1
  | false => exact hb pins s1 σ H1 D I1 q1
/-- code that the proof never comes to -/
def tNever : TS := fun _ _ _ => False
theorem ps_never : PS X st tNever := fun _ _ _ _ _ _ h => h.elim
theorem pss_never {sts : List Stmt} : PSs X sts tNever := fun _ _ _ _ _ _ h => h.elim
end

/-! ### targets -/
abbrev TG := V → St → Hp → (St → Hp → Prop) → Prop
abbrev TGs := List V → St → Hp → (St → Hp → Prop) → Prop
def PG (X : Cx) (target : Expr) (t : TG) : Prop :=
  ∀ (pins : List (Addr × Obj)) (s : Shared) (σ : St) (H : Hp) (v : V) (u : Value) (Q : St → Hp → Prop), Inv X pins σ H s → RelV v u → t v σ H Q →
    wpAny (model X.prog X.w) X.A (assign target X.env u) (fun _ s' => ∃ σ' H', Inv X pins σ' H' s' ∧ Q σ' H') X.xe s
/-- several targets, one after another -/
def PGs (X : Cx) (ts : List Expr) (t : TGs) : Prop :=
  ∀ (pins : List (Addr × Obj)) (s : Shared) (σ : St) (H : Hp) (vs : List V) (us : List Value) (Q : St → Hp → Prop), Inv X pins σ H s → Vals vs us → t vs σ H Q →
    wpAny (model X.prog X.w) X.A (assignInOrder ((assignEach ts X.env).map (·.2)) us) (fun _ s' => ∃ σ' H', Inv X pins σ' H' s' ∧ Q σ' H') X.xe s
/-- o[i] = v, by values -/
abbrev TSet := V → V → V → Hp → (Hp → Prop) → Prop
def PSet (X : Cx) (t : TSet) : Prop :=
  ∀ (pins : List (Addr × Obj)) (s : Shared) (σ : St) (H : Hp) (o i v : V) (ov iv u : Value) (Q : Hp → Prop), Inv X pins σ H s → RelV o ov → RelV i iv → RelV v u → t o i v H Q →
    wpAny (model X.prog X.w) X.A (setItem ov iv u) (fun _ s' => ∃ H', Inv X pins σ H' s' ∧ Q H') X.xe s
/-- a op= b, by values -/
abbrev TIp := V → V → Hp → VK → Prop
def PIp (X : Cx) (op : Operator) (t : TIp) : Prop :=
  ∀ (pins : List (Addr × Obj)) (s : Shared) (σ : St) (H : Hp) (x y : V) (v u : Value) (Q : VK), Inv X pins σ H s → RelV x v → RelV y u → t x y H Q →
    wpAny (model X.prog X.w) X.A (inplaceOp op v u) (EP X pins σ Q) X.xe s
section
variable {X : Cx} {pos : Pos}
def gName (i : Nat) : TG := fun v σ H Q => Q (σ.set i (some v)) H
theorem pg_name {i : Nat} {x : Str} (hN : X.N.Nodup) (hi : X.N[i]? = some x) (hx : Loc X.env.scope x) (hf : X.fn x = true ∨ X.env.scope.names.lookup x = some .local := by first | exact .inl rfl | exact .inr rfl | assumption) : PG X (.Name x pos) (gName i) := by
  intro pins s σ H v u Q I r h
  exact wpAny_assign_Name (store_ok I hN hi hx r (fun s' I' => ⟨_, H, I', h⟩) hf)
def gNil : TGs := fun vs σ H Q => vs = [] ∧ Q σ H
def gCons (t : TG) (u : TGs) : TGs := fun vs σ H Q => ∃ v r, vs = v :: r ∧ t v σ H fun σ' H' => u r σ' H' Q
theorem pgs_nil : PGs X [] gNil := by
  intro pins s σ H vs us Q I r h
  obtain ⟨e, h⟩ := h
  subst e
  cases r
  exact assignInOrder_nil ⟨σ, H, I, h⟩
theorem pgs_cons {e : Expr} {es : List Expr} {t : TG} {u : TGs} (h1 : PG X e t) (h2 : PGs X es u)
    (hs : (assignEach (e :: es) X.env).map (·.2) = assign e X.env :: (assignEach es X.env).map (·.2) := by rfl) : PGs X (e :: es) (gCons t u) := by
  intro pins s σ H vs us Q I r h
  obtain ⟨v, vr, e1, h⟩ := h
  subst e1
  cases r with
  | cons r rr =>
    rw [hs]
    refine assignInOrder_cons (thn (h1 pins s σ H _ _ _ I r h) fun _ s1 ⟨σ1, H1, I1, q1⟩ => ?_)
    exact h2 pins s1 σ1 H1 _ _ Q I1 rr q1
/-- (a, b, ..) = a tuple of that length -/
def gTup (K : PySem.W.Frag) (n : Nat) (t : TGs) : TG := fun v σ H Q => ∃ a xs, v = .ref a ∧ SqT K H a xs ∧ xs.length = n ∧ t xs σ H Q
theorem pg_tup {es : List Expr} {k : Nat} {t : TGs} {n : Nat} (hc : X.calm = true) (h : PGs X es t)
    (hn : (assignEach es X.env).length = n := by rfl) (hst : (assignEach es X.env).findIdx? (·.1) = none := by rfl) : PG X (.Tuple es k pos) (gTup X.K n t) := by
  intro pins s σ H v u Q I r hw
  obtain ⟨a, xs, e1, hq, hl, hw⟩ := hw
  subst e1
  cases r
  obtain ⟨its, rv, ht, hz⟩ := I.tuple hq
  refine assign_Tuple_tuple (I.ok.hd hc) ht (by simp [hn, ← hl, rv.length]) hst fun h' hx => ?_
  have I1 : Inv X pins σ H { s with heap := h' } := I.kept (t' := s.toks) fun b o e => hx b o (Nat.ne_of_lt (Heap.lt_size e)) e
  exact h pins _ σ H xs _ Q I1 (by simpa using rv) hw
/-- o[i] = .. -/
def gSub (to ti : TE) (t : TSet) : TG := fun v σ H Q => to σ H fun o H1 => ti σ H1 fun i H2 => t o i v H2 fun H3 => Q σ H3
theorem pg_sub {o i : Expr} {to ti : TE} {t : TSet} (ho : PE X o to) (hi : PE X i ti) (hs : PSet X t)
    (ha : ∀ v, assign (.Subscript o i pos) X.env v = (do
      let ov ← holding [v] (eval o X.env)
      let iv ← holding [v, ov] (eval i X.env)
      standAt pos
      holding [v, ov, iv] (setItem ov iv v)
      release [v, ov, iv] []) := by intro _; rfl) : PG X (.Subscript o i pos) (gSub to ti t) := by
  intro pins s σ H v u Q I r h
  rw [ha]
  refine wpAny_bind (wpAny_holding (thn (ho pins s σ H _ I h) fun ov s1 ⟨x, H1, I1, r1, q1⟩ => ?_))
  refine wpAny_bind (wpAny_holding (thn (hi pins s1 σ H1 _ I1 q1) fun iv s2 ⟨y, H2, I2, r2, q2⟩ => ?_))
  refine wpAny_bind (wpAny_standAt (wpAny_bind (wpAny_holding (thn (hs pins s2 σ H2 x y v ov iv u _ I2 r1 r2 r q2) fun _ s3 ⟨H3, I3, q3⟩ => ?_))))
  exact wpAny_release ⟨σ, H3, I3, q3⟩
/-- target = value -/
def tAsg (te : TE) (g : TG) : TS := fun D σ H => te σ H fun x H1 => g x σ H1 D.nx
theorem ps_asg {tg e : Expr} {te : TE} {g : TG} (he : PE X e te) (hg : PG X tg g) (hs : swapsWithSole [tg] e pos.line X.env = pure false := by rfl) (hw : swappedStores [tg] e X.env = pure none := by rfl)
    (h1 : (assignEach [tg] X.env).map (·.2) = [assign tg X.env] := by rfl) : PS X (.Assign [tg] e pos) (tAsg te g) := by
  intro pins s σ H D I h
  refine wpAny_Assign_stores (thn (he pins s σ H _ I h) fun v s1 ⟨x, H1, I1, r1, q1⟩ => ?_) hs hw
  rw [h1]
  exact thn (hg pins s1 σ H1 x v _ I1 r1 q1) fun _ s2 q => q
/-- name = value -/
theorem ps_set {i : Nat} {x : Str} {e : Expr} {te : TE} {pos' : Pos} (hN : X.N.Nodup) (hi : X.N[i]? = some x) (hx : Loc X.env.scope x) (he : PE X e te) (hs : swapsWith e (some (.Name x pos')) pos.line X.env = pure false := by rfl) (hf : X.fn x = true ∨ X.env.scope.names.lookup x = some .local := by first | exact .inl rfl | exact .inr rfl | assumption) :
    PS X (.Assign [.Name x pos'] e pos) (tAsg te (gName i)) := by
  intro pins s σ H D I h
  refine wpAny_Assign_Name (thn (he pins s σ H _ I h) fun v s1 ⟨y, H1, I1, r1, q1⟩ => ?_) hs
  exact store_ok I1 hN hi hx r1 (fun s2 I2 => ⟨_, H1, I2, q1⟩) hf
/-- a, b = x, y with plain local names: stored from the right; the pair itself is not tracked (the opening rows as in PyProof/Rows/TupAssign.lean:23) -/
def tPar (i j : Nat) (ta : TA) : TS := fun D σ H => ta σ H fun vs H1 => ∃ v w, vs = [v, w] ∧ D.nx ((σ.set i (some v)).set j (some w)) H1
theorem ps_par {i j : Nat} {x y : Str} {a b : Expr} {ta : TA} {px py pt : Pos} {kt k2 pt2} (hc : X.calm = true) (hN : X.N.Nodup) (hi : X.N[i]? = some x) (hj : X.N[j]? = some y) (hij : i ≠ j)
    (hx : X.env.scope.names.lookup x = some .local) (hy : X.env.scope.names.lookup y = some .local) (ha : PA X [a, b] ta)
    (hw : swappedStores [.Tuple [.Name x px, .Name y py] kt pt] (.Tuple [a, b] k2 pt2) X.env = pure (some [x, y]))
    (hs : swapsWithSole [.Tuple [.Name x px, .Name y py] kt pt] (.Tuple [a, b] k2 pt2) pos.line X.env = pure false := by rfl) :
    PS X (.Assign [.Tuple [.Name x px, .Name y py] kt pt] (.Tuple [a, b] k2 pt2) pos) (tPar i j ta) := by
  intro pins s σ H D I h
  rw [exec_Assign_arm]
  refine wpAny_bind (wpAny_standAt ?_)
  rw [hs]
  refine wpAny_bind (wpAny_pure ?_)
  rw [if_neg (by decide)]
  refine wpAny_bind (Tuple_ (thn (ha _ pins s σ H _ I h) fun us s1 ⟨vs, H1, I1, r1, q1⟩ => ?_))
  obtain ⟨v, w, e1, q1⟩ := q1
  subst e1
  obtain ⟨u1, u2, rfl, rv, rw'⟩ : ∃ u1 u2, us = [u1, u2] ∧ RelV v u1 ∧ RelV w u2 := by
    cases r1 with
    | cons p q =>
      cases q with
      | cons p' q' =>
        cases q'
        exact ⟨_, _, rfl, p, p'⟩
  refine wpAny_newObj_type ?_ (by show 2 ≤ sizeLine; decide)
  have I2 : Inv X pins σ H1 { s1 with heap := s1.heap.push { cls := .type "tuple", data := .seq [u1, u2].toArray } } := I1.kept (t' := s1.toks) fun b o e => Heap.get?_push_of_some _ e
  rw [hw]
  refine wpAny_bind (wpAny_pure ?_)
  show wpAny (model X.prog X.w) X.A (do rule "assign.swapped-stores"; let items ← unpackItems (.ref s1.heap.objs.size) 2 none; assignInOrder [fun v => bindName X.env y v, fun v => bindName X.env x v] items.reverse; pure Flow.next) _ _ _
  refine wpAny_bind (wpAny_rule (wpAny_bind (unpackItems_tuple (items := #[u1, u2]) (I.ok.hd hc) (IsTup.new s1.heap _) fun h' hx' => ?_)))
  have I3 := I2.kept (h' := h') (t' := s1.toks) fun b o e => hx' b o (Nat.ne_of_lt (Heap.lt_size e)) e
  show wpAny _ _ (assignInOrder [fun v => bindName X.env y v, fun v => bindName X.env x v] [u2, u1] >>= fun _ => pure Flow.next) _ _ _
  refine wpAny_bind (assignInOrder_cons (wpAny_bindName (store_ok I3 hN hj (.inl hy) rw' (fun s2 I4 => ?_) (.inr hy))))
  refine assignInOrder_cons (wpAny_bindName (store_ok I4 hN hi (.inl hx) rv (fun s3 I5 => assignInOrder_nil (wpAny_pure ?_)) (.inr hx)))
  rw [List.set_comm _ _ (Ne.symm hij)] at I5
  exact ⟨_, H1, I5, q1⟩
/-- name op= e -/
def tAug (i : Nat) (te : TE) (ti : TIp) : TS := fun D σ H => ∃ x, σ[i]? = some (some x) ∧ te σ H fun y H1 => ti x y H1 fun z H2 => D.nx (σ.set i (some z)) H2
theorem ps_aug {i : Nat} {x : Str} {e : Expr} {te : TE} {op : Operator} {ti : TIp} {pos' : Pos} (hN : X.N.Nodup) (hi : X.N[i]? = some x) (hx : Loc X.env.scope x) (he : PE X e te) (ho : PIp X op ti) (hf : X.fn x = true ∨ X.env.scope.names.lookup x = some .local := by first | exact .inl rfl | exact .inr rfl | assumption) :
    PS X (.AugAssign (.Name x pos') op e pos) (tAug i te ti) := by
  intro pins s σ H D I h
  obtain ⟨v, e1, h⟩ := h
  obtain ⟨m, hn, hl⟩ := I.loc
  have vis : Vis X.env.scope x := by rcases hx with k | k; exact .inl k; exact .inr (.inl k)
  obtain ⟨u, r, l⟩ := hl i x v hi e1 vis
  refine wpAny_AugAssign_Name ?_
  have go : wpAny (model X.prog X.w) X.A (eval e X.env) (fun w s₂ => wpAny (model X.prog X.w) X.A (inplaceOp op u w) (fun r s₃ => wpAny (model X.prog X.w) X.A (storeName X.env x r) (fun _ => SP X pins D .next) X.xe s₃) X.xe s₂) X.xe s := by
    refine thn (he pins s σ H _ I h) fun w s1 ⟨y, H1, I1, r1, q1⟩ => ?_
    refine thn (ho pins s1 σ H1 v y u w _ I1 r r1 q1) fun z s2 ⟨zv, H2, I2, r2, q2⟩ => ?_
    exact store_ok I2 hN hi hx r2 (fun s3 I3 => ⟨_, H2, I3, q2⟩) hf
  rcases l with ⟨hk, hm⟩ | ⟨hk, c, hc, hcell⟩
  · exact wpAny_loadName_local I.ok.kind hk hn hm go
  · rcases hk with hk | hk
    · exact wpAny_loadName_cell I.ok.kind hk hc hcell go
    · rcases hx with k | k
      · have : X.env.scope.names.lookup x = some .free := hk
        rw [k] at this; cases this
      · have : X.env.scope.names.lookup x = some .free := hk
        rw [k] at this; cases this
/-- o[i] op= e -/
def tAugS (to ti te : TE) (tget : V → V → Hp → VK → Prop) (tip : TIp) (tset : TSet) : TS := fun D σ H => to σ H fun o H1 => ti σ H1 fun i H2 => tget o i H2 fun x H3 => te σ H3 fun y H4 => tip x y H4 fun z H5 => tset o i z H5 fun H6 => D.nx σ H6
/-- o[i], by values -/
def PGet (X : Cx) (t : V → V → Hp → VK → Prop) : Prop :=
  ∀ (pins : List (Addr × Obj)) (s : Shared) (σ : St) (H : Hp) (o i : V) (ov iv : Value) (Q : VK), Inv X pins σ H s → RelV o ov → RelV i iv → t o i H Q →
    wpAny (model X.prog X.w) X.A (getItem ov iv) (EP X pins σ Q) X.xe s
theorem ps_augS {o i e : Expr} {to ti te : TE} {tget : V → V → Hp → VK → Prop} {tip : TIp} {tset : TSet} {op : Operator} {tpos : Pos} (ho : PE X o to) (hi : PE X i ti) (hg : PGet X tget) (he : PE X e te) (hp : PIp X op tip) (hs : PSet X tset)
    (ha : ∀ ov iv new, augStore i ov iv new = (do holding [new, ov, iv] (setItem ov iv new); release [new, ov, iv] []; pure .next) := by intros; rfl) : PS X (.AugAssign (.Subscript o i tpos) op e pos) (tAugS to ti te tget tip tset) := by
  intro pins s σ H D I h
  refine wpAny_AugAssign_SubscriptAny (thn (ho pins s σ H _ I h) fun ov s1 ⟨x1, H1, I1, r1, q1⟩ => ?_) ha
  refine thn (hi pins s1 σ H1 _ I1 q1) fun iv s2 ⟨x2, H2, I2, r2, q2⟩ => ?_
  refine thn (hg pins s2 σ H2 x1 x2 ov iv _ I2 r1 r2 q2) fun old s3 ⟨x3, H3, I3, r3, q3⟩ => ?_
  refine thn (he pins s3 σ H3 _ I3 q3) fun v s4 ⟨x4, H4, I4, r4, q4⟩ => ?_
  refine thn (hp pins s4 σ H4 x3 x4 old v _ I4 r3 r4 q4) fun new s5 ⟨x5, H5, I5, r5, q5⟩ => ?_
  exact thn (hs pins s5 σ H5 x1 x2 x5 ov iv new _ I5 r1 r2 r5 q5) fun _ s6 ⟨H6, I6, q6⟩ => ⟨σ, H6, I6, q6⟩
/-- ints -/
def ipI (f : Int → Int → Int) : TIp := fun x y H Q => ∃ i j, x = .int i ∧ y = .int j ∧ Q (.int (f i j)) H
theorem ip_add : PIp X .Add (ipI fun i j => i + j) := by
  intro pins s σ H x y v u Q I r1 r2 h
  obtain ⟨i, j, e1, e2, q⟩ := h
  subst e1; subst e2
  obtain ⟨t, rfl⟩ := r1
  obtain ⟨t', rfl⟩ := r2
  exact iadd_int ⟨.int _, H, I.tok _, ⟨_, rfl⟩, q⟩
theorem ip_sub : PIp X .Sub (ipI fun i j => i - j) := by
  intro pins s σ H x y v u Q I r1 r2 h
  obtain ⟨i, j, e1, e2, q⟩ := h
  subst e1; subst e2
  obtain ⟨t, rfl⟩ := r1
  obtain ⟨t', rfl⟩ := r2
  exact isub_int ⟨.int _, H, I.tok _, ⟨_, rfl⟩, q⟩
end

/-! ### while -/
section
variable {X : Cx} {pos : Pos}
/-- the invariant W with its measure -/
def tWhile (c : TT) (tb : TS) : TS := fun D σ H => ∃ W : Nat → St → Hp → Prop, (∃ m, W m σ H) ∧ ∀ m σ H, W m σ H →
  c σ H fun b H1 => if b = true then ∃ N : St → Hp → Prop, (∀ σ' H', N σ' H' → ∃ m', m' < m ∧ W m' σ' H') ∧ tb { D with nx := N, ct := N, bk := D.nx } σ H1 else D.nx σ H1
theorem ps_while {c : Expr} {body : List Stmt} {tc : TT} {tb : TS} (hp : PassesOwn (model X.prog X.w) X.A X.env X.xe) (hc : PT X c tc) (hb : PSs X body tb) : PS X (.While c body [] pos) (tWhile tc tb) := by
  intro pins s σ H D I h
  obtain ⟨W, ⟨m0, w0⟩, turn⟩ := h
  refine wpAny_While (codeAny_whileLoop (fun n s' => ∃ σ' H', Inv X pins σ' H' s' ∧ W n σ' H') ?_ m0 ⟨σ, H, I, w0⟩)
  rintro n s1 ⟨σ1, H1, I1, w1⟩
  refine wpAny_passesOwn hp (thn (hc pins s1 σ1 H1 _ I1 (turn n σ1 H1 w1)) fun b s2 ⟨H2, I2, q2⟩ => ?_)
  cases b with
  | true =>
    obtain ⟨N, hN, q2⟩ := q2
    rw [if_pos rfl]
    refine wpAny_passesOwn hp (thn (hb pins s2 σ1 H2 _ I2 q2) fun f s3 q3 => ?_)
    cases f with
    | next =>
      obtain ⟨σ3, H3, I3, n3⟩ := q3
      obtain ⟨m', hm, w3⟩ := hN σ3 H3 n3
      exact ⟨m', hm, σ3, H3, I3, w3⟩
    | cont =>
      obtain ⟨σ3, H3, I3, n3⟩ := q3
      obtain ⟨m', hm, w3⟩ := hN σ3 H3 n3
      exact ⟨m', hm, σ3, H3, I3, w3⟩
    | brk => exact q3
    | ret v => exact q3
  | false =>
    rw [if_neg Bool.false_ne_true]
    exact wpAny_execs_nil ⟨σ1, H2, I2, q2⟩
end

/-! ### what a loop or a comprehension walks -/
/-- at turn i: it yields x (the heap may grow), or it stops -/
structure It where
  go : Nat → Hp → Prop
  yld : Nat → Hp → V → Hp → Prop
  stop : Nat → Hp → Prop
/-- the iterator's own objects may turn: they are not the frame's, not pinned, younger than the entry (or a comprehension's own) -/
def FpOk (X : Cx) (pins : List (Addr × Obj)) (H : Hp) (b : Addr) : Prop :=
  H b = none ∧ b ≠ X.env.locals ∧ b ∉ X.fs ∧ (b ∈ X.ex ∨ X.s₀.heap.objs.size ≤ b) ∧ (∀ x c, X.env.cells.lookup x = some c → c ≠ b) ∧ ∀ p ∈ X.pn ++ pins, p.1 ≠ b
theorem Inv.fpOk {X : Cx} {pins : List (Addr × Obj)} {σ : St} {H H' : Hp} {s : Shared} {b : Addr} (I : Inv X pins σ H s) (hb : s.heap.objs.size ≤ b) (hn : H' b = none) : FpOk X pins H' b := by
  refine ⟨hn, Nat.ne_of_gt (Nat.lt_of_lt_of_le I.lt hb), I.nofs hb, .inr (Nat.le_trans I.sz hb), fun x c e z => ?_, fun p hp z => ?_⟩
  · obtain ⟨v, q⟩ := I.cell x c e
    exact absurd (Nat.lt_of_lt_of_le q.lt (by rw [z]; exact hb)) (Nat.lt_irrefl _)
  · exact absurd (Nat.lt_of_lt_of_le (Heap.lt_size (I.pin p hp).1) (by rw [z]; exact hb)) (Nat.lt_irrefl _)
structure Turn (P : Program) (w : World) (K : PySem.W.Frag) (tg : Expr) (J : It) (fp : List Addr) (it : Addr) (tn : Nat → Heap → Prop) : Prop where
  mem : it ∈ fp
  obj : ∀ i h, tn i h → ∀ b ∈ fp, ∃ o, h.get? b = some o ∧ ∀ v, o.data ≠ .cell v
  keep : ∀ i h h', tn i h → (∀ b ∈ fp, ∀ o, h.get? b = some o → h'.get? b = some o) → tn i h'
  item : ∀ (X : Cx), X.prog = P → X.w = w → X.K = K → X.calm = true → ∀ (i : Nat) (pins : List (Addr × Obj)) (s : Shared) (σ : St) (H : Hp) (E : Value → Shared → Prop), Inv X pins σ H s → (∀ b ∈ fp, FpOk X pins H b) → tn i s.heap → J.go i H →
    wpAny (model P w) X.A (pyNext (.ref it)) (fun r s1 => ∃ u, r = some u ∧
      wpAny (model P w) X.A (letOwnedTupleGo tg (.ref it) u) (fun _ s2 => ∃ x H', Inv X pins σ H' s2 ∧ RelV x u ∧ J.yld i H x H' ∧ tn (i + 1) s2.heap ∧ ∀ b ∈ fp, H' b = none) E s1) E s
  done : ∀ (X : Cx), X.prog = P → X.w = w → X.K = K → X.calm = true → ∀ (i : Nat) (pins : List (Addr × Obj)) (s : Shared) (σ : St) (H : Hp) (E : Value → Shared → Prop), Inv X pins σ H s → (∀ b ∈ fp, FpOk X pins H b) → tn i s.heap → J.stop i H →
    wpAny (model P w) X.A (pyNext (.ref it)) (fun r s1 => r = none ∧ Inv X pins σ H s1) E s
  self : ∀ (A : Around) (i : Nat) (s : Shared) (Q : Value → Shared → Prop) (E : Value → Shared → Prop), tn i s.heap → Q (.ref it) s → wpAny (model P w) A (pyIter (.ref it)) Q E s
abbrev TI := St → Hp → (It → Hp → Prop) → Prop
/-- an iterator has come -/
def PIE (X : Cx) (pins : List (Addr × Obj)) (σ : St) (tg : Expr) (R : It → Hp → Prop) (itv : Value) (s2 : Shared) : Prop :=
  ∃ (it : Addr) (fp : List Addr) (tn : Nat → Heap → Prop) (J : It) (H' : Hp), itv = .ref it ∧ Inv X pins σ H' s2 ∧ Turn X.prog X.w X.K tg J fp it tn ∧ tn 0 s2.heap ∧ (∀ b ∈ fp, FpOk X pins H' b) ∧ R J H'
def PI (X : Cx) (tg iter : Expr) (wi : TI) : Prop :=
  ∀ (pins : List (Addr × Obj)) (s : Shared) (σ : St) (H : Hp) (R : It → Hp → Prop), Inv X pins σ H s → wi σ H R →
    wpAny (model X.prog X.w) X.A (eval iter X.env) (fun v s1 => wpAny (model X.prog X.w) X.A (pyIter v) (PIE X pins σ tg R) X.xe s1) X.xe s

/-- the step ahead of the store is nothing for an iterator that keeps no tuple -/
theorem go_of {M : Model} {A : Around} {E : Value → Shared → Prop} {s : Shared} {tg : Expr} {it : Addr} {u : Value} {o : Obj} {n : String} {vs : Array Value} {Q : Unit → Shared → Prop} (ho : s.heap.get? it = some o) (hc : o.cls = .type n) (hd : o.data = .fields vs)
    (hn : ["enumerate", "zip", "dict_itemiterator", "dict_reverseitemiterator", "odict_iterator", "itertools.zip_longest", "itertools.pairwise"].contains n = false) (hQ : Q () s) : wpAny M A (letOwnedTupleGo tg (.ref it) u) Q E s := by
  unfold letOwnedTupleGo
  cases tg <;> first
    | exact wpAny_pure hQ
    | (cases u <;> first
        | exact wpAny_pure hQ
        | (refine wpAny_bind (wpAny_load ho ?_)
           rw [hc, hd]
           show wpAny M A (if (["enumerate", "zip", "dict_itemiterator", "dict_reverseitemiterator", "odict_iterator", "itertools.zip_longest", "itertools.pairwise"].contains n && vs[0]? == some (rawInt _)) = true then _ else _) Q E s
           rw [if_neg (by intro h; rw [hn, Bool.false_and] at h; cases h)]
           exact wpAny_pure hQ))

/-- the list at a, as it stands at each turn (a loop may append to it) -/
def Itl (K : PySem.W.Frag) (a : Addr) : It :=
  ⟨fun i H => ∃ xs x, SqL K H a xs ∧ xs[i]? = some x, fun i H x H' => H' = H ∧ ∀ xs, SqL K H a xs → xs[i]? = some x, fun i H => ∃ xs, SqL K H a xs ∧ xs.length ≤ i⟩
def Itt (K : PySem.W.Frag) (a : Addr) : It :=
  ⟨fun i H => ∃ xs x, SqT K H a xs ∧ xs[i]? = some x, fun i H x H' => H' = H ∧ ∀ xs, SqT K H a xs → xs[i]? = some x, fun i H => ∃ xs, SqT K H a xs ∧ xs.length ≤ i⟩
/-- lo, lo + 1, .. (n of them) -/
def Itr (lo : Int) (n : Nat) : It := ⟨fun i _ => i < n, fun i H x H' => H' = H ∧ x = .int (lo + i), fun i _ => n ≤ i⟩
theorem turn_list {P : Program} {w : World} {K : PySem.W.Frag} {tg : Expr} (a it : Addr) : Turn P w K tg (Itl K a) [it] it (fun i h => h.IsListIter it a i) where
  mem := by simp
  obj := fun i h st b hb => by
    have e : b = it := by simpa using hb
    subst e
    obtain ⟨o, e, c, d⟩ := st
    exact ⟨o, e, fun v z => by rw [d] at z; cases z⟩
  keep := fun i h h' st k => st.at fun o e => k it (by simp) o e
  item := by
    intro X hP hw hK hc i pins s σ H E I hf st hg
    subst hP hw hK
    obtain ⟨xs, x, hq, hx⟩ := hg
    obtain ⟨its, rv, p, hz⟩ := I.list hq
    obtain ⟨u, hu, ru⟩ := rv.get hx
    obtain ⟨f0, f1, f2, f3, f4, f5⟩ := hf it (by simp)
    refine wpAny_pyNext_list_item st p.isList (x := u) (by simpa using hu) fun h' st' sb => ?_
    have I1 : Inv X pins σ H { s with heap := h' } := I.turned (t' := s.toks) (fun b o hb e => (sb.2 b hb).trans e) f0 f1 f3 f4 f5
    obtain ⟨o, e, c, d⟩ := id st'
    exact ⟨u, rfl, go_of (s := { s with heap := h' }) e c d (by decide) ⟨x, H, I1, ru, ⟨rfl, fun ys hy => by rw [I.list_inj hy hq]; exact hx⟩, st', fun b hb => (hf b hb).1⟩⟩
  done := by
    intro X hP hw hK hc i pins s σ H E I hf st hg
    subst hP hw hK
    obtain ⟨xs, hq, hx⟩ := hg
    obtain ⟨its, rv, p, hz⟩ := I.list hq
    obtain ⟨f0, f1, f2, f3, f4, f5⟩ := hf it (by simp)
    have hl := rv.length
    exact wpAny_pyNext_list_end (I.ok.hd hc) st p.isList (by simp; omega) fun h' eb => ⟨rfl, I.turned (t' := s.toks) (fun b o hb e => eb b o hb e) f0 f1 f3 f4 f5⟩
  self := fun _ _ _ _ _ st h => wpAny_pyIter_listiter st h
theorem turn_tuple {P : Program} {w : World} {K : PySem.W.Frag} {tg : Expr} (a it : Addr) : Turn P w K tg (Itt K a) [it] it (fun i h => h.IsTupleIter it a i) where
  mem := by simp
  obj := fun i h st b hb => by
    have e : b = it := by simpa using hb
    subst e
    obtain ⟨o, e, c, d⟩ := st
    exact ⟨o, e, fun v z => by rw [d] at z; cases z⟩
  keep := fun i h h' st k => st.at fun o e => k it (by simp) o e
  item := by
    intro X hP hw hK hc i pins s σ H E I hf st hg
    subst hP hw hK
    obtain ⟨xs, x, hq, hx⟩ := hg
    obtain ⟨its, rv, p, hz⟩ := I.tuple hq
    obtain ⟨u, hu, ru⟩ := rv.get hx
    obtain ⟨f0, f1, f2, f3, f4, f5⟩ := hf it (by simp)
    refine wpAny_pyNext_tuple_item st (show s.heap.IsTuple a its.toArray from p) (x := u) (by simpa using hu) fun h' st' sb => ?_
    have I1 : Inv X pins σ H { s with heap := h' } := I.turned (t' := s.toks) (fun b o hb e => (sb.2 b hb).trans e) f0 f1 f3 f4 f5
    obtain ⟨o, e, c, d⟩ := id st'
    exact ⟨u, rfl, go_of (s := { s with heap := h' }) e c d (by decide) ⟨x, H, I1, ru, ⟨rfl, fun ys hy => by rw [I.tuple_inj hy hq]; exact hx⟩, st', fun b hb => (hf b hb).1⟩⟩
  done := by
    intro X hP hw hK hc i pins s σ H E I hf st hg
    subst hP hw hK
    obtain ⟨xs, hq, hx⟩ := hg
    obtain ⟨its, rv, p, hz⟩ := I.tuple hq
    obtain ⟨f0, f1, f2, f3, f4, f5⟩ := hf it (by simp)
    have hl := rv.length
    exact wpAny_pyNext_tuple_end (I.ok.hd hc) st (show s.heap.IsTuple a its.toArray from p) (by simp; omega) fun h' eb => ⟨rfl, I.turned (t' := s.toks) (fun b o hb e => eb b o hb e) f0 f1 f3 f4 f5⟩
  self := fun _ _ _ _ _ st h => wpAny_pyIter_tupleiter st h
theorem turn_range {P : Program} {w : World} {K : PySem.W.Frag} {tg : Expr} (it : Addr) (lo : Int) (n : Nat) : Turn P w K tg (Itr lo n) [it] it (fun i h => IsRangeIter h it (lo + (i : Nat) * 1) ((n : Int) - (i : Nat)) 1) where
  mem := by simp
  obj := fun i h st b hb => by
    have e : b = it := by simpa using hb
    subst e
    exact ⟨_, st, fun v z => by
      have z' : Data.fields _ = Data.cell v := z
      cases z'⟩
  keep := fun i h h' st k => k it (by simp) _ st
  item := by
    intro X hP hw hK hc i pins s σ H E I hf st hg
    subst hP hw hK
    obtain ⟨f0, f1, f2, f3, f4, f5⟩ := hf it (by simp)
    have W := Walks.range (prog := X.prog) (w := X.w) (I.ok.hd hc) it lo 1 n
    refine W.item i s _ _ hg st fun v h' tk hv st' kk => ?_
    obtain ⟨t, rfl⟩ := hv
    have I1 : Inv X pins σ H { s with heap := h', toks := tk } := I.turned (fun b o hb e => kk b o (by simpa using hb) e) f0 f1 f3 f4 f5
    refine ⟨_, rfl, go_of (s := { s with heap := h', toks := tk }) (n := "range_iterator") st' rfl rfl (by decide) ⟨.int (lo + i), H, I1, ⟨t, ?_⟩, ⟨rfl, rfl⟩, st', fun b hb => (hf b hb).1⟩⟩
    rw [Int.mul_one]
  done := by
    intro X hP hw hK hc i pins s σ H E I hf st hg
    subst hP hw hK
    obtain ⟨f0, f1, f2, f3, f4, f5⟩ := hf it (by simp)
    exact wpAny_pyNext_range_end (I.ok.hd hc) st (by have : n ≤ i := hg; omega) fun h' eb => ⟨rfl, I.turned (t' := s.toks) (fun b o hb e => eb b o hb e) f0 f1 f3 f4 f5⟩
  self := fun _ _ _ _ _ st h => wpAny_pyIter_rangeiter st h
end L2

namespace L2
open PySem PySem.Spec PyProof.Rows
section
variable {X : Cx} {tg : Expr}
def iList (K : PySem.W.Frag) (tl : TE) : TI := fun σ H R => tl σ H fun x H1 => ∃ a, x = .ref a ∧ (∃ xs, SqL K H1 a xs) ∧ R (Itl K a) H1
def iTup (K : PySem.W.Frag) (tl : TE) : TI := fun σ H R => tl σ H fun x H1 => ∃ a, x = .ref a ∧ (∃ xs, SqT K H1 a xs) ∧ R (Itt K a) H1
theorem pi_list {l : Expr} {tl : TE} (hl : PE X l tl) : PI X tg l (iList X.K tl) := by
  intro pins s σ H R I h
  refine thn (hl pins s σ H _ I h) fun v s1 ⟨x, H1, I1, r1, q1⟩ => ?_
  obtain ⟨a, e, ⟨xs, hq⟩, q⟩ := q1
  subst e
  cases r1
  obtain ⟨its, rv, p, hz⟩ := I1.list hq
  refine wpAny_pyIter_list p.isList ?_
  refine ⟨s1.heap.objs.size, [s1.heap.objs.size], _, _, H1, rfl, I1.kept (t' := s1.toks) fun b o e => Heap.get?_push_of_some _ e, turn_list a _, ⟨_, Heap.get?_push_size _ rfl, rfl, rfl⟩, fun b hb => ?_, q⟩
  have e : b = s1.heap.objs.size := by simpa using hb
  subst e
  exact I1.fpOk (Nat.le_refl _) (I1.hok.fresh (Nat.le_refl _))
theorem pi_tup {l : Expr} {tl : TE} (hl : PE X l tl) : PI X tg l (iTup X.K tl) := by
  intro pins s σ H R I h
  refine thn (hl pins s σ H _ I h) fun v s1 ⟨x, H1, I1, r1, q1⟩ => ?_
  obtain ⟨a, e, ⟨xs, hq⟩, q⟩ := q1
  subst e
  cases r1
  obtain ⟨its, rv, p, hz⟩ := I1.tuple hq
  refine wpAny_pyIter_tuple (show s1.heap.IsTuple a its.toArray from p) ?_
  refine ⟨s1.heap.objs.size, [s1.heap.objs.size], _, _, H1, rfl, I1.kept (t' := s1.toks) fun b o e => Heap.get?_push_of_some _ e, turn_tuple a _, ⟨_, Heap.get?_push_size _ rfl, rfl, rfl⟩, fun b hb => ?_, q⟩
  have e : b = s1.heap.objs.size := by simpa using hb
  subst e
  exact I1.fpOk (Nat.le_refl _) (I1.hok.fresh (Nat.le_refl _))
/-- a range object just made, walked -/
theorem range_it {pins : List (Addr × Obj)} {σ : St} {H : Hp} {s : Shared} {R : It → Hp → Prop} {E : Value → Shared → Prop} {lo hi : Int} {t u v : Tok} {tk : Nat} (I : Inv X pins σ H s) (h1 : -(2 ^ 62) ≤ lo) (h2 : lo < 2 ^ 62) (h3 : -(2 ^ 62) ≤ hi) (h4 : hi < 2 ^ 62)
    (q : R (Itr lo (hi - lo).toNat) H) : wpAny (model X.prog X.w) X.A (pyIter (.ref s.heap.objs.size)) (PIE X pins σ tg R) E { s with heap := s.heap.push { cls := .type "range", data := .fields #[.int lo t, .int hi u, .int 1 v] }, toks := tk } := by
  refine wpAny_pyIter_range (IsRange.new ..) (small_one h1 h2 h3 h4) ?_
  have I1 : Inv X pins σ H { s with heap := s.heap.push { cls := .type "range", data := .fields #[.int lo t, .int hi u, .int 1 v] }, toks := tk } := I.kept fun b o e => Heap.get?_push_of_some _ e
  refine ⟨(s.heap.push { cls := .type "range", data := .fields #[.int lo t, .int hi u, .int 1 v] }).objs.size, [(s.heap.push { cls := .type "range", data := .fields #[.int lo t, .int hi u, .int 1 v] }).objs.size], _, _, H, rfl,
    I1.kept (t' := tk) fun b o e => Heap.get?_push_of_some _ e, turn_range _ lo (hi - lo).toNat, ?_, fun b hb => ?_, q⟩
  · have e1 : lo + ((0 : Nat) : Int) * 1 = lo := by simp
    have e2 : (((hi - lo).toNat : Nat) : Int) - ((0 : Nat) : Int) = Builtin.Range.rangeSize lo hi 1 := by rw [rangeSize_one]; split <;> omega
    show IsRangeIter _ _ (lo + ((0 : Nat) : Int) * 1) ((((hi - lo).toNat : Nat) : Int) - ((0 : Nat) : Int)) 1
    rw [e1, e2]
    exact Heap.get?_push_size _ rfl
  · have e : b = (s.heap.push { cls := .type "range", data := .fields #[.int lo t, .int hi u, .int 1 v] }).objs.size := by simpa using hb
    subst e
    exact I1.fpOk (Nat.le_refl _) (I1.hok.fresh (Nat.le_refl _))
def iRng1 (ta : TA) : TI := fun σ H R => ta σ H fun vs H1 => ∃ j : Int, vs = [.int j] ∧ -(2 ^ 62) ≤ j ∧ j < 2 ^ 62 ∧ R (Itr 0 j.toNat) H1
def iRng2 (ta : TA) : TI := fun σ H R => ta σ H fun vs H1 => ∃ i j : Int, vs = [.int i, .int j] ∧ (-(2 ^ 62) ≤ i ∧ i < 2 ^ 62 ∧ -(2 ^ 62) ≤ j ∧ j < 2 ^ 62) ∧ R (Itr i (j - i).toNat) H1
theorem pi_range1 {a : Expr} {ta : TA} {p pos : Pos} (hg : Gl X "range") (hm : X.mg "range" = none) (ha : PA X [a] ta) (hs : starEach [a] X.env = [(false, eval a X.env)] := by rfl) : PI X tg (.Call (.Name "range" p) [a] [] pos) (iRng1 ta) := by
  intro pins s σ H R I h
  refine Call_ (ld_blt I hg hm boot_range (PyProof.Rows.callWith_type1 (thn (ha pos pins s σ H _ I h) fun us s1 ⟨vs, H1, I1, r1, q1⟩ => ?_) hs rfl))
  obtain ⟨j, e, q1, q2, q⟩ := q1
  subst e
  cases r1 with
  | cons r rr =>
    cases rr
    obtain ⟨t, rfl⟩ := r
    exact call_range_1 (range_it I1 (by omega) (by omega) q1 q2 (by simpa using q))
theorem pi_range2 {a b : Expr} {ta : TA} {p pos : Pos} (hg : Gl X "range") (hm : X.mg "range" = none) (ha : PA X [a, b] ta) (hs : starEach [a, b] X.env = [(false, eval a X.env), (false, eval b X.env)] := by rfl) (hs2 : starEach [b] X.env = [(false, eval b X.env)] := by rfl) :
    PI X tg (.Call (.Name "range" p) [a, b] [] pos) (iRng2 ta) := by
  intro pins s σ H R I h
  refine Call_ (ld_blt I hg hm boot_range (PyProof.Rows.callWith_type1 (thn (ha pos pins s σ H _ I h) fun us s1 ⟨vs, H1, I1, r1, q1⟩ => ?_) (by rw [hs, hs2]) (by rw [hs2]; rfl)))
  obtain ⟨i, j, e, ⟨q1, q2, q3, q4⟩, q⟩ := q1
  subst e
  cases r1 with
  | cons r rr =>
    cases rr with
    | cons r' rr =>
      cases rr
      obtain ⟨t, rfl⟩ := r
      obtain ⟨t', rfl⟩ := r'
      exact call_range_2 (range_it I1 q1 q2 q3 q4 q)

/-! ### for -/
/-- W: the invariant by the turn and a measure; N: what the body is to reach -/
def tFor (wi : TI) (g : TG) (tb : TS) : TS := fun D σ H => wi σ H fun J H1 => ∃ W : Nat → Nat → St → Hp → Prop, (∃ m, W 0 m σ H1) ∧ ∀ i m σ H, W i m σ H →
  (J.stop i H ∧ D.nx σ H) ∨ (J.go i H ∧ ∃ N : St → Hp → Prop, (∀ σ' H', N σ' H' → ∃ m', m' < m ∧ W (i + 1) m' σ' H') ∧ ∀ x H', J.yld i H x H' → g x σ H' fun σ2 H2 => tb { D with nx := N, ct := N, bk := D.nx } σ2 H2)
/-- the records at fp as they stand -/
def pinsAt (fp : List Addr) (h : Heap) : List (Addr × Obj) := fp.filterMap fun b => (h.get? b).map fun o => (b, o)
theorem mem_pinsAt {fp : List Addr} {h : Heap} {b : Addr} {o : Obj} (hb : b ∈ fp) (e : h.get? b = some o) : (b, o) ∈ pinsAt fp h := List.mem_filterMap.mpr ⟨b, hb, by rw [e]; rfl⟩
theorem of_pinsAt {fp : List Addr} {h : Heap} {p : Addr × Obj} (hp : p ∈ pinsAt fp h) : p.1 ∈ fp ∧ h.get? p.1 = some p.2 := by
  obtain ⟨b, hb, e⟩ := List.mem_filterMap.mp hp
  cases q : h.get? b with
  | none => rw [q] at e; cases e
  | some o =>
    rw [q] at e
    have e' : (b, o) = p := Option.some.inj e
    subst e'
    exact ⟨hb, q⟩
theorem Inv.pinned {pins : List (Addr × Obj)} {σ : St} {H : Hp} {s : Shared} {fp : List Addr} (I : Inv X pins σ H s) (hf : ∀ b ∈ fp, FpOk X pins H b) (ho : ∀ b ∈ fp, ∃ o, s.heap.get? b = some o ∧ ∀ v, o.data ≠ .cell v) : Inv X (pins ++ pinsAt fp s.heap) σ H s :=
  I.pins_of fun p hp => (List.mem_append.mp hp).elim (fun z => I.pin p (List.mem_append_right _ z)) fun z => by
    obtain ⟨hb, e⟩ := of_pinsAt z
    obtain ⟨f0, f1, f2, _⟩ := hf p.1 hb
    obtain ⟨o, e', d⟩ := ho p.1 hb
    rw [e] at e'; cases e'
    exact ⟨e, f0, f1, f2, d⟩
theorem Inv.unpinned {pins pl : List (Addr × Obj)} {σ : St} {H : Hp} {s : Shared} (I : Inv X (pins ++ pl) σ H s) : Inv X pins σ H s := I.pins_of fun p hp => I.pin p (List.mem_append_right _ (List.mem_append_left _ hp))
theorem ps_for {iter : Expr} {body : List Stmt} {wi : TI} {g : TG} {tb : TS} {pos : Pos} (hp : PassesOwn (model X.prog X.w) X.A X.env X.xe) (hc : X.calm = true) (hi : PI X tg iter wi) (hg : PG X tg g) (hb : PSs X body tb)
    (hs : ∀ x, foldedSetIterable iter X.env x = pure x := by intro _; rfl) : PS X (.For tg iter body [] pos) (tFor wi g tb) := by
  intro pins s σ H D I h
  refine wpAny_For (thn (hi pins s σ H _ I h) fun v s1 h1 => thn h1 fun itv s2 h2 => ?_) hs
  obtain ⟨it, fp, tn, J, H2, e, I2, T, st2, f2, W, ⟨m0, w0⟩, turn⟩ := h2
  subst e
  -- what stays true of the iterator's objects through the loop
  have stat : ∀ {H' : Hp}, (∀ b ∈ fp, H' b = none) → ∀ b ∈ fp, FpOk X pins H' b := fun hn b hb => ⟨hn b hb, (f2 b hb).2⟩
  refine codeAny_forLoop_any (fun n s' => ∃ i σ' H', Inv X pins σ' H' s' ∧ tn i s'.heap ∧ (∀ b ∈ fp, H' b = none) ∧ W i n σ' H') ?_ m0 ⟨0, σ, H2, I2, st2, fun b hb => (f2 b hb).1, w0⟩
  rintro n s3 ⟨i, σ3, H3, I3, st3, fr3, w3⟩
  rcases turn i n σ3 H3 w3 with ⟨stop, qn⟩ | ⟨go, N, hN, step⟩
  · refine wpAny_passesOwn hp (thn (T.done X rfl rfl rfl hc i pins s3 σ3 H3 X.xe I3 (stat fr3) st3 stop) fun r s4 ⟨hr, I4⟩ => ?_)
    subst hr
    exact wpAny_execs_nil ⟨σ3, H3, I4, qn⟩
  · refine wpAny_passesOwn hp (thn (T.item X rfl rfl rfl hc i pins s3 σ3 H3 X.xe I3 (stat fr3) st3 go) fun r s4 ⟨u, hr, h4⟩ => ?_)
    subst hr
    refine wpAny_passesOwn hp (thn h4 fun _ s5 ⟨x, H5, I5, r5, y5, st5, fr5⟩ => ?_)
    have I5' := I5.pinned (stat fr5) (T.obj _ _ st5)
    refine wpAny_passesOwn hp (thn (hg _ s5 σ3 H5 x u _ I5' r5 (step x H5 y5)) fun _ s6 ⟨σ6, H6, I6, q6⟩ => ?_)
    refine wpAny_passesOwn hp (thn (hb _ s6 σ6 H6 _ I6 q6) fun f s7 q7 => ?_)
    have again : ∀ {σ7 : St} {H7 : Hp}, Inv X (pins ++ pinsAt fp s5.heap) σ7 H7 s7 → N σ7 H7 → ∃ m, m < n ∧ ∃ i σ' H', Inv X pins σ' H' s7 ∧ tn i s7.heap ∧ (∀ b ∈ fp, H' b = none) ∧ W i m σ' H' := fun {σ7 H7} I7 n7 => by
      obtain ⟨m', hm, w7⟩ := hN σ7 H7 n7
      refine ⟨m', hm, i + 1, σ7, H7, I7.unpinned, T.keep _ _ _ st5 fun b hb o e => (I7.pin (b, o) (List.mem_append_right _ (List.mem_append_right _ (mem_pinsAt hb e)))).1, fun b hb => ?_, w7⟩
      obtain ⟨o, e, d⟩ := T.obj _ _ st5 b hb
      exact (I7.pin (b, o) (List.mem_append_right _ (List.mem_append_right _ (mem_pinsAt hb e)))).2.1
    cases f with
    | next => obtain ⟨σ7, H7, I7, n7⟩ := q7; exact again I7 n7
    | cont => obtain ⟨σ7, H7, I7, n7⟩ := q7; exact again I7 n7
    | brk => obtain ⟨σ7, H7, I7, q7⟩ := q7; exact ⟨σ7, H7, I7.unpinned, q7⟩
    | ret v => obtain ⟨x7, σ7, H7, I7, r7, q7⟩ := q7; exact ⟨x7, σ7, H7, I7.unpinned, r7, q7⟩
end

/-! ### the forms one uses -/
/-- over a list that the body leaves as it is -/
theorem for_list {K : PySem.W.Frag} {a : Addr} {xs : List V} {g : TG} {tb : TS} {D : Ends} {σ : St} {H : Hp} (Pv : Nat → St → Hp → Prop) (h0 : Pv 0 σ H) (hl : ∀ i σ H, i ≤ xs.length → Pv i σ H → SqL K H a xs)
    (hs : ∀ i x σ H, xs[i]? = some x → Pv i σ H → g x σ H fun σ2 H2 => tb { D with nx := Pv (i + 1), ct := Pv (i + 1), bk := D.nx } σ2 H2) (hd : ∀ σ H, Pv xs.length σ H → D.nx σ H) :
    ∃ W : Nat → Nat → St → Hp → Prop, (∃ m, W 0 m σ H) ∧ ∀ i m σ H, W i m σ H →
      ((Itl K a).stop i H ∧ D.nx σ H) ∨ ((Itl K a).go i H ∧ ∃ N : St → Hp → Prop, (∀ σ' H', N σ' H' → ∃ m', m' < m ∧ W (i + 1) m' σ' H') ∧ ∀ x H', (Itl K a).yld i H x H' → g x σ H' fun σ2 H2 => tb { D with nx := N, ct := N, bk := D.nx } σ2 H2) := by
  refine ⟨fun i m σ H => m = xs.length - i ∧ i ≤ xs.length ∧ Pv i σ H, ⟨xs.length, by simp, Nat.zero_le _, h0⟩, ?_⟩
  rintro i m σ H ⟨rfl, hi, p⟩
  have q := hl i σ H hi p
  by_cases hlt : i < xs.length
  · refine .inr ⟨⟨xs, xs[i], q, by simp [hlt]⟩, Pv (i + 1), fun σ' H' p' => ⟨xs.length - (i + 1), by omega, rfl, hlt, p'⟩, fun x H' y => ?_⟩
    obtain ⟨e, y⟩ := y
    subst e
    exact hs i x σ _ (y xs q) p
  · have e : i = xs.length := by omega
    subst e
    exact .inl ⟨⟨xs, q, Nat.le_refl _⟩, hd σ H p⟩
theorem for_tup {K : PySem.W.Frag} {a : Addr} {xs : List V} {g : TG} {tb : TS} {D : Ends} {σ : St} {H : Hp} (Pv : Nat → St → Hp → Prop) (h0 : Pv 0 σ H) (hl : ∀ i σ H, i ≤ xs.length → Pv i σ H → SqT K H a xs)
    (hs : ∀ i x σ H, xs[i]? = some x → Pv i σ H → g x σ H fun σ2 H2 => tb { D with nx := Pv (i + 1), ct := Pv (i + 1), bk := D.nx } σ2 H2) (hd : ∀ σ H, Pv xs.length σ H → D.nx σ H) :
    ∃ W : Nat → Nat → St → Hp → Prop, (∃ m, W 0 m σ H) ∧ ∀ i m σ H, W i m σ H →
      ((Itt K a).stop i H ∧ D.nx σ H) ∨ ((Itt K a).go i H ∧ ∃ N : St → Hp → Prop, (∀ σ' H', N σ' H' → ∃ m', m' < m ∧ W (i + 1) m' σ' H') ∧ ∀ x H', (Itt K a).yld i H x H' → g x σ H' fun σ2 H2 => tb { D with nx := N, ct := N, bk := D.nx } σ2 H2) := by
  refine ⟨fun i m σ H => m = xs.length - i ∧ i ≤ xs.length ∧ Pv i σ H, ⟨xs.length, by simp, Nat.zero_le _, h0⟩, ?_⟩
  rintro i m σ H ⟨rfl, hi, p⟩
  have q := hl i σ H hi p
  by_cases hlt : i < xs.length
  · refine .inr ⟨⟨xs, xs[i], q, by simp [hlt]⟩, Pv (i + 1), fun σ' H' p' => ⟨xs.length - (i + 1), by omega, rfl, hlt, p'⟩, fun x H' y => ?_⟩
    obtain ⟨e, y⟩ := y
    subst e
    exact hs i x σ _ (y xs q) p
  · have e : i = xs.length := by omega
    subst e
    exact .inl ⟨⟨xs, q, Nat.le_refl _⟩, hd σ H p⟩
theorem for_range {lo : Int} {n : Nat} {g : TG} {tb : TS} {D : Ends} {σ : St} {H : Hp} (Pv : Nat → St → Hp → Prop) (h0 : Pv 0 σ H)
    (hs : ∀ i σ H, i < n → Pv i σ H → g (.int (lo + i)) σ H fun σ2 H2 => tb { D with nx := Pv (i + 1), ct := Pv (i + 1), bk := D.nx } σ2 H2) (hd : ∀ σ H, Pv n σ H → D.nx σ H) :
    ∃ W : Nat → Nat → St → Hp → Prop, (∃ m, W 0 m σ H) ∧ ∀ i m σ H, W i m σ H →
      ((Itr lo n).stop i H ∧ D.nx σ H) ∨ ((Itr lo n).go i H ∧ ∃ N : St → Hp → Prop, (∀ σ' H', N σ' H' → ∃ m', m' < m ∧ W (i + 1) m' σ' H') ∧ ∀ x H', (Itr lo n).yld i H x H' → g x σ H' fun σ2 H2 => tb { D with nx := N, ct := N, bk := D.nx } σ2 H2) := by
  refine ⟨fun i m σ H => m = n - i ∧ i ≤ n ∧ Pv i σ H, ⟨n, by simp, Nat.zero_le _, h0⟩, ?_⟩
  rintro i m σ H ⟨rfl, hi, p⟩
  by_cases hlt : i < n
  · refine .inr ⟨hlt, Pv (i + 1), fun σ' H' p' => ⟨n - (i + 1), by omega, rfl, hlt, p'⟩, fun x H' y => ?_⟩
    obtain ⟨e, y⟩ := y
    subst e y
    exact hs i σ _ hlt p
  · have e : i = n := by omega
    subst e
    exact .inl ⟨Nat.le_refl _, hd σ H p⟩
/-- while, by a word and a measure of the state -/
theorem while_by {c : TT} {tb : TS} {D : Ends} {σ : St} {H : Hp} (Pv : St → Hp → Prop) (μ : St → Hp → Nat) (h0 : Pv σ H)
    (hs : ∀ σ H, Pv σ H → c σ H fun b H1 => if b = true then tb { D with nx := fun σ' H' => Pv σ' H' ∧ μ σ' H' < μ σ H, ct := fun σ' H' => Pv σ' H' ∧ μ σ' H' < μ σ H, bk := D.nx } σ H1 else D.nx σ H1)
    (mono : ∀ σ H Q Q', (∀ b H1, Q b H1 → Q' b H1) → c σ H Q → c σ H Q') : tWhile c tb D σ H := by
  refine ⟨fun m σ H => m = μ σ H ∧ Pv σ H, ⟨_, rfl, h0⟩, ?_⟩
  rintro m σ H ⟨rfl, p⟩
  refine mono σ H _ _ (fun b H1 q => ?_) (hs σ H p)
  cases b with
  | true => exact ⟨_, fun σ' H' ⟨p', l⟩ => ⟨_, l, rfl, p'⟩, q⟩
  | false => exact q
end L2

namespace L2
open PySem PySem.Spec PyProof.Rows

abbrev R2 := V → V → Hp → VK → Prop
/-- a two-place operation on values: f is binaryOp op, inplaceOp op or compareOp op -/
def OpR (X : Cx) (f : Value → Value → Sem Value) (r : R2) : Prop :=
  ∀ (pins : List (Addr × Obj)) (s : Shared) (σ : St) (H : Hp) (x y : V) (v u : Value) (Q : VK), Inv X pins σ H s → RelV x v → RelV y u → r x y H Q →
    wpAny (model X.prog X.w) X.A (f v u) (EP X pins σ Q) X.xe s
/-- a one-place operation -/
def UnR (X : Cx) (f : Value → Sem Value) (r : V → Hp → VK → Prop) : Prop :=
  ∀ (pins : List (Addr × Obj)) (s : Shared) (σ : St) (H : Hp) (x : V) (v : Value) (Q : VK), Inv X pins σ H s → RelV x v → r x H Q →
    wpAny (model X.prog X.w) X.A (f v) (EP X pins σ Q) X.xe s
/-- a call of a value that is known (a builtin, a type) with values -/
def CallR (X : Cx) (f : Value) (r : List V → Hp → VK → Prop) : Prop :=
  ∀ (pins : List (Addr × Obj)) (s : Shared) (σ : St) (H : Hp) (xs : List V) (us : List Value) (Q : VK), Inv X pins σ H s → Vals xs us → r xs H Q →
    wpAny (model X.prog X.w) X.A (call f us) (EP X pins σ Q) X.xe s
/-- a value's truth -/
def TruR (X : Cx) (r : V → Hp → (Bool → Hp → Prop) → Prop) : Prop :=
  ∀ (pins : List (Addr × Obj)) (s : Shared) (σ : St) (H : Hp) (x : V) (v : Value) (Q : Bool → Hp → Prop), Inv X pins σ H s → RelV x v → r x H Q →
    wpAny (model X.prog X.w) X.A (truthy v) (TP X pins σ Q) X.xe s

def tOp (r : R2) (ta tb : TE) : TE := fun σ H Q => ta σ H fun x H1 => tb σ H1 fun y H2 => r x y H2 Q
def tUn (r : V → Hp → VK → Prop) (ta : TE) : TE := fun σ H Q => ta σ H fun x H1 => r x H1 Q
/-- ints in, under C, and a value out -/
def rI (C : Int → Int → Prop) (g : Int → Int → V) : R2 := fun x y H Q => ∃ i j, x = .int i ∧ y = .int j ∧ C i j ∧ Q (g i j) H
def rI0 (g : Int → Int → V) : R2 := fun x y H Q => ∃ i j, x = .int i ∧ y = .int j ∧ Q (g i j) H
def rU (g : Int → V) : V → Hp → VK → Prop := fun x H Q => ∃ i, x = .int i ∧ Q (g i) H

section
variable {X : Cx} {a b c : Expr} {ta tb tc : TE} {pos : Pos}

theorem binT (ha : PE X a ta) (hb : PE X b tb) {pins : List (Addr × Obj)} {s : Shared} {σ : St} {H : Hp} {R : V → V → Hp → Prop} (I : Inv X pins σ H s)
    (h : ta σ H fun x H1 => tb σ H1 fun y H2 => R x y H2) {Q : Value → Shared → Prop} {f : Value → Value → Sem Value}
    (hf : ∀ v u s2 x y H2, Inv X pins σ H2 s2 → RelV x v → RelV y u → R x y H2 → wpAny (model X.prog X.w) X.A (f v u) Q X.xe s2) :
    wpAny (model X.prog X.w) X.A (eval a X.env) (fun v s₁ => wpAny (model X.prog X.w) X.A (eval b X.env) (fun u s₂ => wpAny (model X.prog X.w) X.A (f v u) Q X.xe s₂) X.xe s₁) X.xe s := by
  refine thn (ha pins s σ H _ I h) fun v s1 ⟨x, H1, I1, r1, q1⟩ => ?_
  refine thn (hb pins s1 σ H1 _ I1 q1) fun u s2 ⟨y, H2, I2, r2, q2⟩ => ?_
  exact hf v u s2 x y H2 I2 r1 r2 q2

theorem pe_op {op : Operator} {r : R2} (ho : OpR X (binaryOp op) r) (ha : PE X a ta) (hb : PE X b tb) : PE X (.BinOp a op b pos) (tOp r ta tb) := by
  intro pins s σ H Q I h
  exact wpAny_BinOp (binT ha hb I h fun v u s2 x y H2 I2 rx ry q => ho pins s2 σ H2 x y v u Q I2 rx ry q)
theorem pe_un {op : UnaryOp} {r : V → Hp → VK → Prop} (ho : UnR X (unaryOp op) r) (ha : PE X a ta) : PE X (.UnaryOp op a pos) (tUn r ta) := by
  intro pins s σ H Q I h
  exact UnaryOp_ (thn (ha pins s σ H _ I h) fun v s1 ⟨x, H1, I1, r1, q1⟩ => ho pins s1 σ H1 x v Q I1 r1 q1)
/-- a op= e at a name: the name's slot i -/
theorem augR {op : Operator} {r : R2} (ho : OpR X (inplaceOp op) r) {pins : List (Addr × Obj)} {s : Shared} {σ : St} {H : Hp} {x y : V} {v u : Value} {Q : VK} (I : Inv X pins σ H s)
    (rx : RelV x v) (ry : RelV y u) (q : r x y H Q) : wpAny (model X.prog X.w) X.A (inplaceOp op v u) (EP X pins σ Q) X.xe s := ho pins s σ H x y v u Q I rx ry q

/-! ### ints -/
theorem opI {f : Value → Value → Sem Value} {C : Int → Int → Prop} {g : Int → Int → Int}
    (rule : ∀ (i j : Int) (t u : Tok) (s : Shared) (Q : Value → Shared → Prop) (E : Value → Shared → Prop), C i j → Q (.int (g i j) s.toks) { s with toks := s.toks + 1 } → wpAny (model X.prog X.w) X.A (f (.int i t) (.int j u)) Q E s) :
    OpR X f (rI C fun i j => .int (g i j)) := by
  intro pins s σ H x y v u Q I rx ry h
  obtain ⟨i, j, rfl, rfl, hc, q⟩ := h
  obtain ⟨t, rfl⟩ := rx
  obtain ⟨t', rfl⟩ := ry
  exact rule i j t t' s _ _ hc ⟨.int (g i j), H, I.tok _, ⟨_, rfl⟩, q⟩
theorem opI0 {f : Value → Value → Sem Value} {g : Int → Int → Int}
    (rule : ∀ (i j : Int) (t u : Tok) (s : Shared) (Q : Value → Shared → Prop) (E : Value → Shared → Prop), Q (.int (g i j) s.toks) { s with toks := s.toks + 1 } → wpAny (model X.prog X.w) X.A (f (.int i t) (.int j u)) Q E s) :
    OpR X f (rI0 fun i j => .int (g i j)) := by
  intro pins s σ H x y v u Q I rx ry h
  obtain ⟨i, j, rfl, rfl, q⟩ := h
  obtain ⟨t, rfl⟩ := rx
  obtain ⟨t', rfl⟩ := ry
  exact rule i j t t' s _ _ ⟨.int (g i j), H, I.tok _, ⟨_, rfl⟩, q⟩
theorem opB0 {f : Value → Value → Sem Value} {g : Int → Int → Bool}
    (rule : ∀ (i j : Int) (t u : Tok) (s : Shared) (Q : Value → Shared → Prop) (E : Value → Shared → Prop), Q (.bool (g i j)) s → wpAny (model X.prog X.w) X.A (f (.int i t) (.int j u)) Q E s) :
    OpR X f (rI0 fun i j => .bl (g i j)) := by
  intro pins s σ H x y v u Q I rx ry h
  obtain ⟨i, j, rfl, rfl, q⟩ := h
  obtain ⟨t, rfl⟩ := rx
  obtain ⟨t', rfl⟩ := ry
  exact rule i j t t' s _ _ ⟨.bl (g i j), H, I, rfl, q⟩

def CDiv (i j : Int) : Prop := 0 < j ∧ j < 1073741824
def CDivN (i j : Int) : Prop := j ≠ 0 ∧ j.natAbs < 1073741824
def CPow (i j : Int) : Prop := 0 ≤ j ∧ j ≤ 1000000 ∧ i.natAbs < 2 ^ 64
def CMul (i j : Int) : Prop := (-(2 ^ 64) < i ∧ i < 2 ^ 64) ∨ (-(2 ^ 64) < j ∧ j < 2 ^ 64)
theorem CMul.ok {i j : Int} (h : CMul i j) : IntMulOk i j := by
  rcases h with ⟨h1, h2⟩ | ⟨h1, h2⟩
  · exact .of_left (intBits_le_64 h1 h2)
  · exact .of_right (intBits_le_64 h1 h2)
theorem two_pow_nn (k : Nat) : (0 : Int) ≤ 2 ^ k := by
  rw [two_pow_cast]
  exact Int.natCast_nonneg _

theorem op_add : OpR X (binaryOp .Add) (rI0 fun i j => .int (i + j)) := opI0 fun _ _ _ _ _ _ _ q => add_int q
theorem op_sub : OpR X (binaryOp .Sub) (rI0 fun i j => .int (i - j)) := opI0 fun _ _ _ _ _ _ _ q => sub_int q
theorem op_mul : OpR X (binaryOp .Mult) (rI CMul fun i j => .int (i * j)) := opI fun _ _ _ _ _ _ _ hc q => mul_int q hc.ok
/-- // by a positive divisor -/
theorem op_fdiv : OpR X (binaryOp .FloorDiv) (rI CDiv fun i j => .int (i / j)) := opI fun i j _ _ _ _ _ hc q => by
  have h1 : (0 : Int) < j := hc.1
  have h2 : j < 1073741824 := hc.2
  exact floordiv_int (by omega) (by rw [Int.fdiv_eq_ediv_of_nonneg i (by omega)]; exact q) (.inl (PyProof.noPylong_small (by omega)))
theorem op_fdivN : OpR X (binaryOp .FloorDiv) (rI CDivN fun i j => .int (i.fdiv j)) := opI fun _ _ _ _ _ _ _ hc q => floordiv_int hc.1 q (.inl (PyProof.noPylong_small hc.2))
/-- % by a positive divisor of any size -/
theorem op_mod : OpR X (binaryOp .Mod) (rI (fun _ j => 0 < j) fun i j => .int (i % j)) := opI fun i j _ _ _ _ _ hc q => by
  have h1 : (0 : Int) < j := hc
  exact mod_int' (by omega) (by rw [Int.fmod_eq_emod_of_nonneg i (by omega)]; exact q)
theorem op_modN : OpR X (binaryOp .Mod) (rI (fun _ j => j ≠ 0) fun i j => .int (i.fmod j)) := opI fun _ _ _ _ _ _ _ hc q => mod_int' hc q
theorem op_pow : OpR X (binaryOp .Pow) (rI CPow fun i j => .int (i ^ j.toNat)) := opI fun _ _ _ _ _ _ _ hc q => pow_int_small hc.1 hc.2.1 hc.2.2 q
theorem op_shl : OpR X (binaryOp .LShift) (rI CPow fun i j => .int (i * 2 ^ j.toNat)) := opI fun _ _ _ _ _ _ _ hc q => lshift_int_small hc.1 hc.2.1 hc.2.2 q
theorem op_shr : OpR X (binaryOp .RShift) (rI (fun _ j => 0 ≤ j) fun i j => .int (i / 2 ^ j.toNat)) := opI fun i j _ _ _ _ _ hc q =>
  rshift_int hc (by rw [Int.fdiv_eq_ediv_of_nonneg i (two_pow_nn _)]; exact q)
theorem op_and : OpR X (binaryOp .BitAnd) (rI0 fun i j => .int (Builtin.bitAnd i j)) := opI0 fun _ _ _ _ _ _ _ q => and_int q
theorem op_or : OpR X (binaryOp .BitOr) (rI0 fun i j => .int (Builtin.bitOr i j)) := opI0 fun _ _ _ _ _ _ _ q => or_int q
theorem op_xor : OpR X (binaryOp .BitXor) (rI0 fun i j => .int (Builtin.bitXor i j)) := opI0 fun _ _ _ _ _ _ _ q => xor_int q

theorem iop_add : OpR X (inplaceOp .Add) (rI0 fun i j => .int (i + j)) := opI0 fun _ _ _ _ _ _ _ q => iadd_int q
theorem iop_sub : OpR X (inplaceOp .Sub) (rI0 fun i j => .int (i - j)) := opI0 fun _ _ _ _ _ _ _ q => isub_int q
theorem iop_mul : OpR X (inplaceOp .Mult) (rI CMul fun i j => .int (i * j)) := opI fun _ _ _ _ _ _ _ hc q => imul_int q hc.ok
theorem iop_fdiv : OpR X (inplaceOp .FloorDiv) (rI CDiv fun i j => .int (i / j)) := opI fun i j _ _ _ _ _ hc q => by
  have h1 : (0 : Int) < j := hc.1
  have h2 : j < 1073741824 := hc.2
  exact ifloordiv_int (by omega) (by rw [Int.fdiv_eq_ediv_of_nonneg i (by omega)]; exact q) (.inl (PyProof.noPylong_small (by omega)))
theorem iop_mod : OpR X (inplaceOp .Mod) (rI (fun _ j => 0 < j) fun i j => .int (i % j)) := opI fun i j _ _ _ _ _ hc q => by
  have h1 : (0 : Int) < j := hc
  exact imod_int (by omega) (by rw [Int.fmod_eq_emod_of_nonneg i (by omega)]; exact q)
theorem iop_shl : OpR X (inplaceOp .LShift) (rI CPow fun i j => .int (i * 2 ^ j.toNat)) := opI fun _ _ _ _ _ _ _ hc q => ilshift_int_small hc.1 hc.2.1 hc.2.2 q
theorem iop_shr : OpR X (inplaceOp .RShift) (rI (fun _ j => 0 ≤ j) fun i j => .int (i / 2 ^ j.toNat)) := opI fun i j _ _ _ _ _ hc q =>
  irshift_int hc (by rw [Int.fdiv_eq_ediv_of_nonneg i (two_pow_nn _)]; exact q)
theorem iop_and : OpR X (inplaceOp .BitAnd) (rI0 fun i j => .int (Builtin.bitAnd i j)) := opI0 fun _ _ _ _ _ _ _ q => iand_int q
theorem iop_or : OpR X (inplaceOp .BitOr) (rI0 fun i j => .int (Builtin.bitOr i j)) := opI0 fun _ _ _ _ _ _ _ q => ior_int q
theorem iop_xor : OpR X (inplaceOp .BitXor) (rI0 fun i j => .int (Builtin.bitXor i j)) := opI0 fun _ _ _ _ _ _ _ q => ixor_int q

theorem unI {f : Value → Sem Value} {g : Int → Int}
    (rule : ∀ (i : Int) (t : Tok) (s : Shared) (Q : Value → Shared → Prop) (E : Value → Shared → Prop), Q (.int (g i) s.toks) { s with toks := s.toks + 1 } → wpAny (model X.prog X.w) X.A (f (.int i t)) Q E s) :
    UnR X f (rU fun i => .int (g i)) := by
  intro pins s σ H x v Q I rx h
  obtain ⟨i, rfl, q⟩ := h
  obtain ⟨t, rfl⟩ := rx
  exact rule i t s _ _ ⟨.int (g i), H, I.tok _, ⟨_, rfl⟩, q⟩
theorem un_neg : UnR X (unaryOp .USub) (rU fun i => .int (-i)) := unI fun _ _ _ _ _ q => neg_int q
theorem un_inv : UnR X (unaryOp .Invert) (rU fun i => .int (Builtin.bitNot i)) := unI fun _ _ _ _ _ q => invert_int q

/-! ### bools among ints: n += (a < b) -/
theorem op_add_ib : OpR X (binaryOp .Add) (fun x y H Q => ∃ i k, x = .int i ∧ y = .bl k ∧ Q (.int (i + b2i k)) H) := by
  intro pins s σ H x y v u Q I rx ry h
  obtain ⟨i, k, rfl, rfl, q⟩ := h
  obtain ⟨t, rfl⟩ := rx
  cases ry
  exact add_int_bool ⟨.int (i + b2i k), H, I.tok _, ⟨_, rfl⟩, q⟩
end

/-! ### comparisons -/
/-- the scalars that == tells apart as data does -/
def scal : V → V → Bool
  | .non, .non => true | .non, .int _ => true | .int _, .non => true | .non, .bl _ => true | .bl _, .non => true | .non, .str _ => true | .str _, .non => true
  | .int _, .int _ => true | .bl _, .bl _ => true | .str _, .str _ => true | .byt _, .byt _ => true
  | .int _, .str _ => true | .str _, .int _ => true | .bl _, .str _ => true | .str _, .bl _ => true
  | _, _ => false
def rEq : R2 := fun x y H Q => scal x y = true ∧ Q (.bl (decide (x = y))) H
def rNe : R2 := fun x y H Q => scal x y = true ∧ Q (.bl (!decide (x = y))) H

theorem dec_int {i j : Int} : decide (V.int i = V.int j) = (i == j) := by
  rw [Bool.eq_iff_iff]
  simp
theorem dec_bl {i j : Bool} : decide (V.bl i = V.bl j) = (i == j) := by
  rw [Bool.eq_iff_iff]
  simp
theorem dec_str {i j : Str} : decide (V.str i = V.str j) = (i == j) := by
  rw [Bool.eq_iff_iff]
  simp
theorem dec_byt {i j : Array UInt8} : decide (V.byt i = V.byt j) = (i.toList == j.toList) := by
  rw [Bool.eq_iff_iff]
  cases i
  cases j
  simp

section
variable {X : Cx} {a b c : Expr} {ta tb tc : TE} {pos : Pos}
theorem fin_bl {pins : List (Addr × Obj)} {σ : St} {H : Hp} {s : Shared} {Q : VK} {k k' : Bool} (I : Inv X pins σ H s) (q : Q (.bl k) H) (e : k = k') : EP X pins σ Q (.bool k') s := by
  subst e
  exact ⟨.bl k, H, I, rfl, q⟩
theorem op_eq : OpR X (compareOp .Eq) rEq := by
  intro pins s σ H x y v u Q I rx ry h
  obtain ⟨hs, q⟩ := h
  cases x with
  | non =>
    cases rx
    cases y with
    | non => cases ry; exact PySem.EqNone.eq_none_none (fin_bl I q (by simp))
    | bl j => cases ry; exact PySem.EqNone.eq_none_bool (fin_bl I q (by simp))
    | int j => obtain ⟨t', rfl⟩ := ry; exact PySem.EqNone.eq_none_int (fin_bl I q (by simp))
    | str j => obtain ⟨t', rfl⟩ := ry; exact PySem.EqNone.eq_none_str (fin_bl I q (by simp))
    | _ => exact absurd (show false = true from hs) Bool.false_ne_true
  | bl i =>
    cases rx
    cases y with
    | non => cases ry; exact PySem.EqNone.eq_bool_none (fin_bl I q (by simp))
    | bl j => cases ry; exact eq_bool (fin_bl I q dec_bl)
    | str j => obtain ⟨t', rfl⟩ := ry; exact PySem.EqMixed.eq_bool_str (fin_bl I q (by simp))
    | _ => exact absurd (show false = true from hs) Bool.false_ne_true
  | int i =>
    obtain ⟨t, rfl⟩ := rx
    cases y with
    | non => cases ry; exact PySem.EqNone.eq_int_none (fin_bl I q (by simp))
    | int j => obtain ⟨t', rfl⟩ := ry; exact eq_int (fin_bl I q dec_int)
    | str j => obtain ⟨t', rfl⟩ := ry; exact PySem.EqMixed.eq_int_str (fin_bl I q (by simp))
    | _ => exact absurd (show false = true from hs) Bool.false_ne_true
  | str i =>
    obtain ⟨t, rfl⟩ := rx
    cases y with
    | non => cases ry; exact PySem.EqNone.eq_str_none (fin_bl I q (by simp))
    | bl j => cases ry; exact PySem.EqMixed.eq_str_bool (fin_bl I q (by simp))
    | int j => obtain ⟨t', rfl⟩ := ry; exact PySem.EqMixed.eq_str_int (fin_bl I q (by simp))
    | str j => obtain ⟨t', rfl⟩ := ry; exact eq_str (fin_bl I q dec_str)
    | _ => exact absurd (show false = true from hs) Bool.false_ne_true
  | byt i =>
    obtain ⟨t, rfl⟩ := rx
    cases y with
    | byt j => obtain ⟨t', rfl⟩ := ry; exact PySem.W.eq_bytes (fin_bl I q dec_byt)
    | _ => exact absurd (show false = true from hs) Bool.false_ne_true
  | _ => cases y <;> exact absurd (show false = true from hs) Bool.false_ne_true
theorem op_ne : OpR X (compareOp .NotEq) rNe := by
  intro pins s σ H x y v u Q I rx ry h
  obtain ⟨hs, q⟩ := h
  cases x with
  | non =>
    cases rx
    cases y with
    | non => cases ry; exact PySem.EqNone.ne_none_none (fin_bl I q (by simp))
    | bl j => cases ry; exact PySem.EqNone.ne_none_bool (fin_bl I q (by simp))
    | int j => obtain ⟨t', rfl⟩ := ry; exact PySem.EqNone.ne_none_int (fin_bl I q (by simp))
    | str j => obtain ⟨t', rfl⟩ := ry; exact PySem.EqNone.ne_none_str (fin_bl I q (by simp))
    | _ => exact absurd (show false = true from hs) Bool.false_ne_true
  | bl i =>
    cases rx
    cases y with
    | non => cases ry; exact PySem.EqNone.ne_bool_none (fin_bl I q (by simp))
    | bl j => cases ry; exact ne_bool (fin_bl I q (congrArg not dec_bl))
    | str j => obtain ⟨t', rfl⟩ := ry; exact PySem.EqMixed.ne_bool_str (fin_bl I q (by simp))
    | _ => exact absurd (show false = true from hs) Bool.false_ne_true
  | int i =>
    obtain ⟨t, rfl⟩ := rx
    cases y with
    | non => cases ry; exact PySem.EqNone.ne_int_none (fin_bl I q (by simp))
    | int j => obtain ⟨t', rfl⟩ := ry; exact ne_int (fin_bl I q (congrArg not dec_int))
    | str j => obtain ⟨t', rfl⟩ := ry; exact PySem.EqMixed.ne_int_str (fin_bl I q (by simp))
    | _ => exact absurd (show false = true from hs) Bool.false_ne_true
  | str i =>
    obtain ⟨t, rfl⟩ := rx
    cases y with
    | non => cases ry; exact PySem.EqNone.ne_str_none (fin_bl I q (by simp))
    | bl j => cases ry; exact PySem.EqMixed.ne_str_bool (fin_bl I q (by simp))
    | int j => obtain ⟨t', rfl⟩ := ry; exact PySem.EqMixed.ne_str_int (fin_bl I q (by simp))
    | str j => obtain ⟨t', rfl⟩ := ry; exact ne_str (fin_bl I q (congrArg not dec_str))
    | _ => exact absurd (show false = true from hs) Bool.false_ne_true
  | byt i =>
    obtain ⟨t, rfl⟩ := rx
    cases y with
    | byt j => obtain ⟨t', rfl⟩ := ry; exact PySem.W.ne_bytes (fin_bl I q (congrArg not dec_byt))
    | _ => exact absurd (show false = true from hs) Bool.false_ne_true
  | _ => cases y <;> exact absurd (show false = true from hs) Bool.false_ne_true

theorem op_lt : OpR X (compareOp .Lt) (rI0 fun i j => .bl (decide (i < j))) := opB0 fun _ _ _ _ _ _ _ q => lt_int q
theorem op_le : OpR X (compareOp .LtE) (rI0 fun i j => .bl (decide (i ≤ j))) := opB0 fun _ _ _ _ _ _ _ q => le_int q
theorem op_gt : OpR X (compareOp .Gt) (rI0 fun i j => .bl (decide (j < i))) := opB0 fun _ _ _ _ _ _ _ q => gt_int q
theorem op_ge : OpR X (compareOp .GtE) (rI0 fun i j => .bl (decide (j ≤ i))) := opB0 fun _ _ _ _ _ _ _ q => ge_int q
theorem op_lt_str : OpR X (compareOp .Lt) (fun x y H Q => ∃ i j, x = .str i ∧ y = .str j ∧ Q (.bl (decide (i.cps.toList < j.cps.toList))) H) := by
  intro pins s σ H x y v u Q I rx ry h
  obtain ⟨i, j, rfl, rfl, q⟩ := h
  obtain ⟨t, rfl⟩ := rx
  obtain ⟨t', rfl⟩ := ry
  exact lt_str (fin_bl I q rfl)
/-- the one string within the other -/
theorem op_in_str : OpR X (compareOp .In) (fun x y H Q => ∃ i j, x = .str i ∧ y = .str j ∧ Q (.bl (!(Builtin.Str.occurrences j i 0 j.length 1).isEmpty)) H) := by
  intro pins s σ H x y v u Q I rx ry h
  obtain ⟨i, j, rfl, rfl, q⟩ := h
  obtain ⟨t, rfl⟩ := rx
  obtain ⟨t', rfl⟩ := ry
  exact in_str (fin_bl I q rfl)

/-- is None, is not None: the right side a value none -/
theorem op_isN : OpR X (compareOp .Is) (fun x y H Q => y = .non ∧ Q (.bl (decide (x = .non))) H) := by
  intro pins s σ H x y v u Q I rx ry h
  obtain ⟨rfl, q⟩ := h
  cases ry
  refine is_none_gen (fin_bl I q ?_)
  cases x <;> first
    | (cases rx; rfl)
    | (obtain ⟨t, rfl⟩ := rx; rfl)
theorem op_notN : OpR X (compareOp .IsNot) (fun x y H Q => y = .non ∧ Q (.bl (!decide (x = .non))) H) := by
  intro pins s σ H x y v u Q I rx ry h
  obtain ⟨rfl, q⟩ := h
  cases ry
  refine isnot_none_gen (fin_bl I q ?_)
  cases x <;> first
    | (cases rx; rfl)
    | (obtain ⟨t, rfl⟩ := rx; rfl)

theorem op_notin_str : OpR X (compareOp .NotIn) (fun x y H Q => ∃ i j, x = .str i ∧ y = .str j ∧ Q (.bl (!(!(Builtin.Str.occurrences j i 0 j.length 1).isEmpty))) H) := by
  intro pins s σ H x y v u Q I rx ry h
  obtain ⟨i, j, rfl, rfl, q⟩ := h
  obtain ⟨t, rfl⟩ := rx
  obtain ⟨t', rfl⟩ := ry
  exact notIn_str (fin_bl I q rfl)
/-- is, is not of two objects that are tracked lists or instances -/
def isObj : HO → Bool
  | .lst _ => true
  | .ins _ _ _ => true
  | _ => false
theorem obj_there {pins : List (Addr × Obj)} {s : Shared} {σ : St} {H : Hp} {a : Addr} {o : HO} (I : Inv X pins σ H s) (h : H a = some o) (p : isObj o = true) : ∃ ob, s.heap.get? a = some ob ∧ ob.cls ≠ .type "tuple" := by
  cases o with
  | lst xs =>
    obtain ⟨_, its, n, _, e⟩ : xs.length ≤ sizeLine ∧ ∃ (its : List Value) (n : Nat), Vals xs its ∧ s.heap.get? a = some { cls := .type "list", data := .seq its.toArray n } := I.hok a _ h
    exact ⟨_, e, (by show Value.type "list" ≠ .type "tuple"; decide +kernel)⟩
  | ins C dx fs =>
    have x := I.hok a _ h
    obtain ⟨_, _, _, e, _⟩ := x
    exact ⟨_, e, (by show Value.ref C ≠ .type "tuple"; exact fun z => by cases z)⟩
  | _ => exact absurd (show false = true from p) Bool.false_ne_true
theorem op_is_ref : OpR X (compareOp .Is) (fun x y H Q => ∃ a b oa ob, x = .ref a ∧ y = .ref b ∧ H a = some oa ∧ isObj oa = true ∧ H b = some ob ∧ isObj ob = true ∧ Q (.bl (decide (a = b))) H) := by
  intro pins s σ H x y v u Q I rx ry h
  obtain ⟨a, b, oa, ob, rfl, rfl, ha, pa, hb, pb, q⟩ := h
  cases rx
  cases ry
  obtain ⟨o1, e1, n1⟩ := obj_there I ha pa
  obtain ⟨o2, e2, _⟩ := obj_there I hb pb
  by_cases z : a = b
  · subst z
    exact wpAny_is_ref_self (fin_bl I q (by simp))
  · exact wpAny_is_ref_other z e1 e2 n1 (fin_bl I q (by simp [z]))
theorem op_isnot_ref : OpR X (compareOp .IsNot) (fun x y H Q => ∃ a b oa ob, x = .ref a ∧ y = .ref b ∧ H a = some oa ∧ isObj oa = true ∧ H b = some ob ∧ isObj ob = true ∧ Q (.bl (!decide (a = b))) H) := by
  intro pins s σ H x y v u Q I rx ry h
  obtain ⟨a, b, oa, ob, rfl, rfl, ha, pa, hb, pb, q⟩ := h
  cases rx
  cases ry
  obtain ⟨o1, e1, n1⟩ := obj_there I ha pa
  obtain ⟨o2, e2, _⟩ := obj_there I hb pb
  by_cases z : a = b
  · subst z
    exact wpAny_isNot_ref_self (fin_bl I q (by simp))
  · exact wpAny_isNot_ref_other z e1 e2 n1 (fin_bl I q (by simp [z]))

/-- two rules for one operation: by cases -/
theorem OpR.or {f : Value → Value → Sem Value} {r r' : R2} (h : OpR X f r) (h' : OpR X f r') : OpR X f (fun x y H Q => r x y H Q ∨ r' x y H Q) := by
  intro pins s σ H x y v u Q I rx ry q
  rcases q with q | q
  · exact h pins s σ H x y v u Q I rx ry q
  · exact h' pins s σ H x y v u Q I rx ry q

theorem nomark (b : Expr) {op : CmpOp} (h : op ≠ .In := by decide) (h2 : op ≠ .NotIn := by decide) : behindInMarks op b = false := by
  have e1 : (op == CmpOp.In) = false := by cases op <;> first | rfl | exact absurd rfl h
  have e2 : (op == CmpOp.NotIn) = false := by cases op <;> first | rfl | exact absurd rfl h2
  cases b <;> simp [behindInMarks, e1, e2]
/-- a comparison as a value; hm: nomark b, or (for in, not in) by with_unfolding_all rfl -/
theorem pe_cmpR {op : CmpOp} {r : R2} (ho : OpR X (compareOp op) r) (ha : PE X a ta) (hb : PE X b tb) (hm : behindInMarks op b = false) : PE X (.Compare a [op] [b] pos) (tOp r ta tb) := by
  intro pins s σ H Q I h
  exact wpAny_Compare1 (binT ha hb I h fun v u s2 x y H2 I2 rx ry q => ho pins s2 σ H2 x y v u Q I2 rx ry q) hm
/-- a reading of a value as a test -/
def tTest (t : TE) : TT := fun σ H Q => t σ H fun x H' => ∃ k, x = .bl k ∧ Q k H'
theorem pt_cmpR {op : CmpOp} {r : R2} (ho : OpR X (compareOp op) r) (ha : PE X a ta) (hb : PE X b tb) (hm : behindInMarks op b = false) : PT X (.Compare a [op] [b] pos) (tTest (tOp r ta tb)) := by
  intro pins s σ H Q I h
  refine wpAny_isTrue_Compare1 (thn (ha pins s σ H _ I h) fun v s1 ⟨x, H1, I1, r1, q1⟩ => thn (hb pins s1 σ H1 _ I1 q1) fun u s2 ⟨y, H2, I2, r2, q2⟩ =>
    thn (ho pins s2 σ H2 x y v u _ I2 r1 r2 q2) fun c s3 ⟨z, H3, I3, r3, k, e, q3⟩ => ?_) hm
  subst e
  cases r3
  exact wpAny_truthy_bool ⟨H3, I3, q3⟩
/-- a op1 b op2 c -/
def tChain (r r' : R2) (ta tb tc : TE) : TE := fun σ H Q => ta σ H fun x H1 => tb σ H1 fun y H2 => r x y H2 fun z H3 => ∃ k, z = .bl k ∧
  (if k = true then tc σ H3 fun w' H4 => r' y w' H4 Q else Q (.bl false) H3)
theorem pe_chain {op op' : CmpOp} {r r' : R2} (ho : OpR X (compareOp op) r) (ho' : OpR X (compareOp op') r') (ha : PE X a ta) (hb : PE X b tb) (hc : PE X c tc)
    (hm : lastMarks [op, op'] [b, c] = false := by with_unfolding_all rfl) : PE X (.Compare a [op, op'] [b, c] pos) (tChain r r' ta tb tc) := by
  intro pins s σ H Q I h
  refine Compare_chain (thn (ha pins s σ H _ I h) fun v s1 ⟨x, H1, I1, r1, q1⟩ => chain_link (thn (hb pins s1 σ H1 _ I1 q1) fun u s2 ⟨y, H2, I2, r2, q2⟩ =>
    thn (ho pins s2 σ H2 x y v u _ I2 r1 r2 q2) fun d s3 ⟨z, H3, I3, r3, k, e, q3⟩ => ?_)) hm
  subst e
  cases r3
  refine wpAny_truthy_bool ?_
  cases k with
  | false => exact ite_ff ⟨.bl false, H3, I3, rfl, q3⟩
  | true => exact ite_tt (chain_last (thn (hc pins s3 σ H3 _ I3 q3) fun w' s4 ⟨z', H4, I4, r4, q4⟩ => ho' pins s4 σ H4 y z' u w' Q I4 r2 r4 q4))
theorem pt_chain {op op' : CmpOp} {r r' : R2} (ho : OpR X (compareOp op) r) (ho' : OpR X (compareOp op') r') (ha : PE X a ta) (hb : PE X b tb) (hc : PE X c tc)
    (hm : lastMarks [op, op'] [b, c] = false := by with_unfolding_all rfl) : PT X (.Compare a [op, op'] [b, c] pos) (tTest (tChain r r' ta tb tc)) := by
  intro pins s σ H Q I h
  refine isTrue_chain (thn (ha pins s σ H _ I h) fun v s1 ⟨x, H1, I1, r1, q1⟩ => test_link (thn (hb pins s1 σ H1 _ I1 q1) fun u s2 ⟨y, H2, I2, r2, q2⟩ =>
    thn (ho pins s2 σ H2 x y v u _ I2 r1 r2 q2) fun d s3 ⟨z, H3, I3, r3, k, e, q3⟩ => ?_)) hm
  subst e
  cases r3
  refine wpAny_truthy_bool ?_
  cases k with
  | false =>
    obtain ⟨k', e', q'⟩ := q3
    cases e'
    exact ite_ff ⟨H3, I3, q'⟩
  | true =>
    refine ite_tt (test_last (thn (hc pins s3 σ H3 _ I3 q3) fun w' s4 ⟨z', H4, I4, r4, q4⟩ => thn (ho' pins s4 σ H4 y z' u w' _ I4 r2 r4 q4) fun d' s5 ⟨z2, H5, I5, r5, k2, e2, q5⟩ => ?_))
    subst e2
    cases r5
    exact wpAny_truthy_bool ⟨H5, I5, q5⟩

/-! ### truth -/
/-- a value's truth by the abstract heap -/
def TruV (K : PySem.W.Frag) (x : V) (H : Hp) (k : Bool) : Prop :=
  match x with
  | .non => k = false
  | .bl b => k = b
  | .int i => k = (i != 0)
  | .str y => y.length ≤ sizeLine ∧ k = ((y.length : Int) != 0)
  | .byt y => y.size ≤ sizeLine ∧ k = ((y.size : Int) != 0)
  | .ref p => (∃ xs, SqL K H p xs ∧ k = !xs.isEmpty) ∨ (∃ xs, SqT K H p xs ∧ k = !xs.isEmpty) ∨ ∃ kvs, H p = some (.dK kvs) ∧ k = !kvs.isEmpty
  | _ => False
theorem isEmpty_kv {κ : Type} {kvs : List (κ × V)} {vs : List (κ × Value)} (r : KV kvs vs) : (!vs.isEmpty) = !kvs.isEmpty := by
  cases r <;> rfl
theorem isEmpty_of {xs : List V} {its : List Value} (r : Vals xs its) : (!its.toArray.isEmpty) = !xs.isEmpty := by
  cases r <;> simp
theorem line63 : (sizeLine : Nat) < 2 ^ 63 := by rw [sizeLine_eq]; decide
theorem tru_ok : TruR X (fun x H Q => ∃ k, TruV X.K x H k ∧ Q k H) := by
  intro pins s σ H x v Q I rx h
  obtain ⟨k, e, q⟩ := h
  have hl := line63
  have hs : sizeLine = 16777216 := sizeLine_eq
  cases x with
  | non =>
    cases rx
    have e' : k = false := e
    subst e'
    exact truthy_none ⟨H, I, q⟩
  | bl b =>
    cases rx
    have e' : k = b := e
    subst e'
    exact wpAny_truthy_bool ⟨H, I, q⟩
  | int i =>
    obtain ⟨t, rfl⟩ := rx
    have e' : k = (i != 0) := e
    subst e'
    exact PySem.P.truthy_int ⟨H, I, q⟩
  | str y =>
    obtain ⟨t, rfl⟩ := rx
    obtain ⟨hy, e'⟩ : y.length ≤ sizeLine ∧ k = ((y.length : Int) != 0) := e
    subst e'
    exact PySem.P.truthy_str (by omega) ⟨H, I.tok _, q⟩
  | byt y =>
    obtain ⟨t, rfl⟩ := rx
    obtain ⟨hy, e'⟩ : y.size ≤ sizeLine ∧ k = ((y.size : Int) != 0) := e
    subst e'
    exact PySem.W.truthy_bytes (by omega) ⟨H, I.tok _, q⟩
  | ref p =>
    cases rx
    have e' : (∃ xs, SqL X.K H p xs ∧ k = !xs.isEmpty) ∨ (∃ xs, SqT X.K H p xs ∧ k = !xs.isEmpty) ∨ ∃ kvs, H p = some (.dK kvs) ∧ k = !kvs.isEmpty := e
    rcases e' with ⟨xs, hx, e'⟩ | ⟨xs, hx, e'⟩ | ⟨kvs, hx, e'⟩
    · subst e'
      obtain ⟨its, r, pl, hz⟩ := I.list hx
      have hlen := r.length
      exact wpAny_truthy_list pl.isList (by simp only [List.size_toArray]; omega) ⟨H, I.tok _, by rw [isEmpty_of r]; exact q⟩
    · subst e'
      obtain ⟨its, r, pl, hz⟩ := I.tuple hx
      have hlen := r.length
      exact truthy_tuple pl (by simp only [List.size_toArray]; omega) ⟨H, I.tok _, by rw [isEmpty_of r]; exact q⟩
    · subst e'
      obtain ⟨hz, hS, vs, r, m⟩ : kvs.length ≤ sizeLine ∧ (p == sysModules) = false ∧ ∃ vs, KV kvs vs ∧ s.heap.DictOf (mixKind X.prog X.w) p vs := I.hok p _ hx
      have hlen : kvs.length = vs.length := Paired.length r
      exact wpAny_truthy_dict hS m (by omega) ⟨H, I.tok _, by rw [isEmpty_kv r]; exact q⟩
  | _ => exact (show False from e).elim
/-- any expression whose test is its value's truth (a name, a call, a subscript, a field ..: he by fun _ => rfl) -/
theorem pt_truth (ha : PE X a ta) (he : ∀ whole, isTrue a X.env whole = (do let v ← whole; standAt a.pos; holding [v] (truthy v))) :
    PT X a (fun σ H Q => ta σ H fun x H' => ∃ k, TruV X.K x H' k ∧ Q k H') := by
  intro pins s σ H Q I h
  exact isTrue_plain (thn (ha pins s σ H _ I h) fun v s1 ⟨x, H1, I1, r1, q1⟩ => tru_ok pins s1 σ H1 x v Q I1 r1 q1) (he _)

/-! ### strs and bytes -/
theorem pe_byt {x : List UInt8} {k : Nat} : PE X (.Constant (.bytes x) k pos) (fun _ H Q => Q (.byt x.toArray) H) := fun _ _ _ H _ I h => PySem.W.Constant_bytes ⟨.byt x.toArray, H, I.tok _, ⟨_, rfl⟩, h⟩
theorem op_add_str : OpR X (binaryOp .Add) (fun x y H Q => ∃ i j, x = .str i ∧ y = .str j ∧ i.length + j.length ≤ sizeLine ∧ Q (.str (i ++ j)) H) := by
  intro pins s σ H x y v u Q I rx ry h
  obtain ⟨i, j, rfl, rfl, hz, q⟩ := h
  obtain ⟨t, rfl⟩ := rx
  obtain ⟨t', rfl⟩ := ry
  exact add_str (fun t' tk => ⟨.str (i ++ j), H, I.tok _, ⟨_, rfl⟩, q⟩) hz
theorem iop_add_str : OpR X (inplaceOp .Add) (fun x y H Q => ∃ i j, x = .str i ∧ y = .str j ∧ i.length + j.length ≤ sizeLine ∧ Q (.str (i ++ j)) H) := by
  intro pins s σ H x y v u Q I rx ry h
  obtain ⟨i, j, rfl, rfl, hz, q⟩ := h
  obtain ⟨t, rfl⟩ := rx
  obtain ⟨t', rfl⟩ := ry
  exact iadd_str (fun t' tk => ⟨.str (i ++ j), H, I.tok _, ⟨_, rfl⟩, q⟩) hz
theorem op_add_byt : OpR X (binaryOp .Add) (fun x y H Q => ∃ i j, x = .byt i ∧ y = .byt j ∧ i.size + j.size ≤ 16777216 ∧ Q (.byt (i ++ j)) H) := by
  intro pins s σ H x y v u Q I rx ry h
  obtain ⟨i, j, rfl, rfl, hz, q⟩ := h
  obtain ⟨t, rfl⟩ := rx
  obtain ⟨t', rfl⟩ := ry
  exact PySem.W.KBy.add_bytes hz (fun t' tk => ⟨.byt (i ++ j), H, I.tok _, ⟨_, rfl⟩, q⟩)

def PlainIxT (b : Expr) : Prop := ∀ o i, subscripted b false o i = operate [o, i] (getItem o i)
/-- s[i], 0 ≤ i < len -/
theorem pe_item_str (ha : PE X a ta) (hb : PE X b tb) (hs : PlainIxT b) :
    PE X (.Subscript a b pos) (tOp (fun x y H Q => ∃ z i c, x = .str z ∧ y = .int i ∧ 0 ≤ i ∧ i < 2 ^ 63 ∧ i < z.length ∧ z.cps[i.toNat]? = some c ∧ Q (.str ⟨#[c]⟩) H) ta tb) := by
  intro pins s σ H Q I h
  refine Subscript_ (binT ha hb I h fun v u s2 x y H2 I2 rx ry q => ?_)
  obtain ⟨z, i, c, rfl, rfl, h0, h63, h1, hc, q⟩ := q
  obtain ⟨t, rfl⟩ := rx
  obtain ⟨t', rfl⟩ := ry
  have e : seqIndex? i z.length = some i.toNat := PySem.StrLaws.seqIndex_nonneg h0 h1
  exact tail_any (typeIs_str s2 z t) slot_str_getitem.lookup (getItem_str (c := c) (by
    have e1 : decide (i < -(2 ^ 63 : Int)) = false := decide_eq_false (by omega)
    have e2 : decide (i ≥ 2 ^ 63) = false := decide_eq_false (by omega)
    rw [e1, e2] <;> rfl) (by rw [e]; exact hc) ⟨.str ⟨#[c]⟩, H2, I2.tok _, ⟨_, rfl⟩, q⟩) (hs _ _)
/-- b[i], 0 ≤ i < len -/
theorem pe_item_byt (ha : PE X a ta) (hb : PE X b tb) (hs : PlainIxT b) :
    PE X (.Subscript a b pos) (tOp (fun x y H Q => ∃ (z : List UInt8) (i : Int), x = .byt z.toArray ∧ y = .int i ∧ z.length ≤ sizeLine ∧ 0 ≤ i ∧ i < z.length ∧ Q (.int ((z.getD i.toNat 0).toNat : Nat)) H) ta tb) := by
  intro pins s σ H Q I h
  refine Subscript_ (binT ha hb I h fun v u s2 x y H2 I2 rx ry q => ?_)
  obtain ⟨z, i, rfl, rfl, hz, h0, h1, q⟩ := q
  obtain ⟨t, rfl⟩ := rx
  obtain ⟨t', rfl⟩ := ry
  have hl : sizeLine = 16777216 := sizeLine_eq
  exact tail_any (PySem.W.typeIs_bytes s2 z.toArray t) PySem.W.FB.slot_bytes_getitem.lookup (PySem.W.getItem_bytes (by omega) h0 h1 ⟨.int ((z.getD i.toNat 0).toNat : Nat), H2, I2.tok _, ⟨_, rfl⟩, q⟩) (hs _ _)

/-! ### scalar builtins, by CallR -/
theorem vals1 {x : V} {us : List Value} (r : Vals [x] us) : ∃ u, us = [u] ∧ RelV x u := by
  cases r with
  | cons r1 r2 => cases r2; exact ⟨_, rfl, r1⟩
theorem vals2 {x y : V} {us : List Value} (r : Vals [x, y] us) : ∃ u w', us = [u, w'] ∧ RelV x u ∧ RelV y w' := by
  cases r with
  | cons r1 r2 =>
    cases r2 with
    | cons r3 r4 => cases r4; exact ⟨_, _, rfl, r1, r3⟩
theorem call_abs : CallR X (.builtin "abs") (fun xs H Q => ∃ i, xs = [.int i] ∧ Q (.int (if i < 0 then -i else i)) H) := by
  intro pins s σ H xs us Q I r h
  obtain ⟨i, rfl, q⟩ := h
  obtain ⟨u, rfl, t, rfl⟩ := vals1 r
  exact call_abs_int fun u tk => ⟨.int (if i < 0 then -i else i), H, I.tok _, ⟨_, rfl⟩, q⟩
theorem call_max2 (hc : X.calm = true) : CallR X (.builtin "max") (fun xs H Q => ∃ i j, xs = [.int i, .int j] ∧ Q (.int (if j > i then j else i)) H) := by
  intro pins s σ H xs us Q I r h
  obtain ⟨i, j, rfl, q⟩ := h
  obtain ⟨u, w', rfl, ⟨t, rfl⟩, ⟨t', rfl⟩⟩ := vals2 r
  refine max_two_ints (I.ok.hd hc) fun h' tk k => ⟨_, H, I.kept k, ?_, q⟩
  by_cases hj : j > i
  · rw [if_pos hj, if_pos hj]; exact ⟨_, rfl⟩
  · rw [if_neg hj, if_neg hj]; exact ⟨_, rfl⟩
theorem call_min2 (hc : X.calm = true) : CallR X (.builtin "min") (fun xs H Q => ∃ i j, xs = [.int i, .int j] ∧ Q (.int (if j < i then j else i)) H) := by
  intro pins s σ H xs us Q I r h
  obtain ⟨i, j, rfl, q⟩ := h
  obtain ⟨u, w', rfl, ⟨t, rfl⟩, ⟨t', rfl⟩⟩ := vals2 r
  refine min_two_ints (I.ok.hd hc) fun h' tk k => ⟨_, H, I.kept k, ?_, q⟩
  by_cases hj : j < i
  · rw [if_pos hj, if_pos hj]; exact ⟨_, rfl⟩
  · rw [if_neg hj, if_neg hj]; exact ⟨_, rfl⟩
theorem call_int1 : CallR X (.type "int") (fun xs H Q => (∃ i, xs = [.int i] ∧ Q (.int i) H) ∨ ∃ k, xs = [.bl k] ∧ Q (.int (if k then 1 else 0)) H) := by
  intro pins s σ H xs us Q I r h
  rcases h with ⟨i, rfl, q⟩ | ⟨k, rfl, q⟩
  · obtain ⟨u, rfl, t, rfl⟩ := vals1 r
    exact call_int_int ⟨.int i, H, I, ⟨_, rfl⟩, q⟩
  · obtain ⟨u, rfl, r1⟩ := vals1 r
    cases r1
    exact call_int_bool ⟨.int (if k then 1 else 0), H, I.tok _, ⟨_, rfl⟩, q⟩
theorem call_bool1 : CallR X (.type "bool") (fun xs H Q => (∃ i, xs = [.int i] ∧ Q (.bl (i != 0)) H) ∨ ∃ k, xs = [.bl k] ∧ Q (.bl k) H) := by
  intro pins s σ H xs us Q I r h
  rcases h with ⟨i, rfl, q⟩ | ⟨k, rfl, q⟩
  · obtain ⟨u, rfl, t, rfl⟩ := vals1 r
    exact call_bool_int ⟨.bl (i != 0), H, I, rfl, q⟩
  · obtain ⟨u, rfl, r1⟩ := vals1 r
    cases r1
    exact call_bool_bool ⟨.bl k, H, I, rfl, q⟩
theorem call_str_int : CallR X (.type "str") (fun xs H Q => ∃ i, xs = [.int i] ∧ i.natAbs.log2 < 1920 ∧ Q (.str (toString i)) H) := by
  intro pins s σ H xs us Q I r h
  obtain ⟨i, rfl, hz, q⟩ := h
  obtain ⟨u, rfl, t, rfl⟩ := vals1 r
  exact PySem.P.str_of_int hz ⟨.str _, H, I.tok _, ⟨_, rfl⟩, q⟩
theorem call_ord : CallR X (.builtin "ord") (fun xs H Q => ∃ x, xs = [.str x] ∧ x.length = 1 ∧ Q (.int (x.cps.getD 0 0 : Nat)) H) := by
  intro pins s σ H xs us Q I r h
  obtain ⟨x, rfl, hz, q⟩ := h
  obtain ⟨u, rfl, t, rfl⟩ := vals1 r
  exact ord_of_one hz ⟨.int _, H, I.tok _, ⟨_, rfl⟩, q⟩
theorem call_chr : CallR X (.builtin "chr") (fun xs H Q => ∃ i, xs = [.int i] ∧ 0 ≤ i ∧ i ≤ 1114111 ∧ Q (.str ⟨#[i.toNat]⟩) H) := by
  intro pins s σ H xs us Q I r h
  obtain ⟨i, rfl, h0, h1, q⟩ := h
  obtain ⟨u, rfl, t, rfl⟩ := vals1 r
  exact chr_of_range h0 h1 ⟨.str _, H, I.tok _, ⟨_, rfl⟩, q⟩
/-- len of a str, a bytes, a list, a tuple -/
def LenV (K : PySem.W.Frag) (x : V) (H : Hp) (n : Nat) : Prop :=
  match x with
  | .str y => y.length ≤ sizeLine ∧ n = y.length
  | .byt y => y.size ≤ sizeLine ∧ n = y.size
  | .ref p => (∃ xs, SqL K H p xs ∧ n = xs.length) ∨ ∃ xs, SqT K H p xs ∧ n = xs.length
  | _ => False
theorem call_len : CallR X (.builtin "len") (fun xs H Q => ∃ x n, xs = [x] ∧ LenV X.K x H n ∧ Q (.int n) H) := by
  intro pins s σ H xs us Q I r h
  obtain ⟨x, n, rfl, e, q⟩ := h
  obtain ⟨u, rfl, rx⟩ := vals1 r
  have hl := line63
  have hs : sizeLine = 16777216 := sizeLine_eq
  cases x with
  | str y =>
    obtain ⟨t, rfl⟩ := rx
    obtain ⟨hy, e'⟩ : y.length ≤ sizeLine ∧ n = y.length := e
    subst e'
    exact len_str (by omega) ⟨.int _, H, I.tok _, ⟨_, rfl⟩, q⟩
  | byt y =>
    obtain ⟨t, rfl⟩ := rx
    obtain ⟨hy, e'⟩ : y.size ≤ sizeLine ∧ n = y.size := e
    subst e'
    exact PySem.W.len_bytes (by omega) ⟨.int _, H, I.tok _, ⟨_, rfl⟩, q⟩
  | ref p =>
    cases rx
    have e' : (∃ xs, SqL X.K H p xs ∧ n = xs.length) ∨ ∃ xs, SqT X.K H p xs ∧ n = xs.length := e
    rcases e' with ⟨xs, hx, e'⟩ | ⟨xs, hx, e'⟩
    · subst e'
      obtain ⟨its, r', pl, hz⟩ := I.list hx
      have hlen := r'.length
      exact Calls.call_len_list pl.isList (by simp only [List.size_toArray]; omega) ⟨.int xs.length, H, I.tok _, ⟨_, by simp only [List.size_toArray]; rw [hlen]⟩, q⟩
    · subst e'
      obtain ⟨its, r', pl, hz⟩ := I.tuple hx
      have hlen := r'.length
      exact len_tuple pl (by simp only [List.size_toArray]; omega) ⟨.int xs.length, H, I.tok _, ⟨_, by simp only [List.size_toArray]; rw [hlen]⟩, q⟩
  | _ => exact (show False from e).elim
/-- divmod: a new tuple -/
theorem call_divmod : CallR X (.builtin "divmod") (fun xs H Q => ∃ i j, xs = [.int i, .int j] ∧ CDiv i j ∧ ∀ p, H p = none → Q (.ref p) (upd H p (.tup [.int (i / j), .int (i % j)]))) := by
  intro pins s σ H xs us Q I r h
  obtain ⟨i, j, rfl, ⟨h1, h2⟩, q⟩ := h
  obtain ⟨u, w', rfl, ⟨t, rfl⟩, ⟨t', rfl⟩⟩ := vals2 r
  refine divmod_int (by omega) ?_ (.inl (PyProof.noPylong_small (by omega)))
  rw [Int.fdiv_eq_ediv_of_nonneg i (by omega), Int.fmod_eq_emod_of_nonneg i (by omega)]
  have hn : H s.heap.objs.size = none := I.hok.fresh (Nat.le_refl _)
  refine ⟨.ref s.heap.objs.size, _, ?_, rfl, q _ hn⟩
  refine I.laid (fun b o e => Heap.get?_push_of_some _ e) (Nat.le_refl _) ⟨by simp only [List.length_cons, List.length_nil]; rw [sizeLine_eq]; decide, [.int (i / j) s.toks, .int (i % j) (s.toks + 1)], .cons ⟨_, rfl⟩ (.cons ⟨_, rfl⟩ .nil), ?_⟩
  exact ⟨_, Heap.get?_push_size s.heap rfl, rfl, 0, rfl⟩
end
end L2

namespace L2
open PySem PySem.Spec PyProof.Rows

/-! ### an instance, its attributes a map -/
structure ObjM (h : Heap) (x dx C : Addr) (mA : Str → Option Value) : Prop where
  obj : h.get? x = some (PySem.W.instObj C dx)
  ns : h.Ns1 dx mA
  ne : dx ≠ x

theorem lookIn_ns {h : Heap} {dx : Addr} {mA : Str → Option Value} (n : h.Ns1 dx mA) : ∃ od, h.get? dx = some od ∧ ∀ name, PySem.W.lookIn name od = some (mA name) := by
  obtain ⟨o, es, ep, ho, hd, hk, _, hm⟩ := n
  refine ⟨o, ho, fun name => ?_⟩
  have e := hm name
  unfold nsFind findBy at e
  rw [← Array.find?_toList] at e
  unfold PySem.W.lookIn
  rw [hd]
  dsimp only
  split
  · rename_i y q
    rw [q] at e
    exact congrArg some e
  · rename_i q
    rw [q] at e
    have a : es.toList.any (·.refKey) = false := by
      rw [List.any_eq_false]
      intro y hy
      obtain ⟨z, t, hkey⟩ := hk y (Array.mem_toList_iff.mp hy)
      simp [DictEntry.refKey, hkey]
    have a' : ¬ es.toList.any (·.refKey) = true := by rw [a]; exact Bool.false_ne_true
    rw [if_neg a']
    exact congrArg some e

theorem ObjM.look {h : Heap} {x dx C : Addr} {mA : Str → Option Value} (I : ObjM h x dx C mA) : ∃ od, PySem.W.InstAt h x (PySem.W.instObj C dx) C (some od) ∧ ∀ name, PySem.W.lookIn name od = some (mA name) :=
  let ⟨od, ho, hl⟩ := lookIn_ns I.ns
  ⟨od, ⟨I.obj, rfl, rfl, ho⟩, hl⟩

section
variable {prog : Program} {w : World} {A : Around} {E : Value → Shared → Prop} {s : Shared} {K : PySem.W.Frag} {x dx C f : Addr} {mA : Str → Option Value} {name : Str} {v : Value}

theorem get_map {expr : Bool} {Q : Value → Shared → Prop} (X : K.In s.heap) (I : ObjM s.heap x dx C mA) (hg : PySem.W.plainGet K C name = true) (hh : PySem.W.hasDictIn K C = true)
    (ha : PySem.W.findIn K (.ref C) name = some none) (hv : mA name = some v) (hv' : PySem.W.handedIn v = true) (h : Q v { s with toks := s.toks + 1 }) :
    wpAny (model prog w) A (getAttr (.ref x) name expr) Q E s := by
  obtain ⟨od, J, hl⟩ := I.look
  exact PySem.W.get_value X J (PySem.W.plainGet_of hg).1 (PySem.W.findObj_own hh ha rfl (by rw [hl, hv])) hv' h

theorem get_const {expr : Bool} {a : Value} {Q : Value → Shared → Prop} (X : K.In s.heap) (I : ObjM s.heap x dx C mA) (hg : PySem.W.plainGet K C name = true) (hh : PySem.W.hasDictIn K C = true)
    (ha : PySem.W.findIn K (.ref C) name = some (some a)) (hn : PySem.W.specialIn K a "__get__" = some none) (hc : PySem.W.copiedNames.contains name = false) (hv : mA name = none) (hv' : PySem.W.handedIn a = true)
    (h : Q a { s with toks := s.toks + 1 }) : wpAny (model prog w) A (getAttr (.ref x) name expr) Q E s := by
  obtain ⟨od, J, hl⟩ := I.look
  exact PySem.W.get_value X J (PySem.W.plainGet_of hg).1 (PySem.W.findObj_cls hh ha hn hv' hc (by rw [hl, hv])) hv' h

theorem get_meth {pl : Sem Bool} {Q : Value × List Value → Shared → Prop} (X : K.In s.heap) (I : ObjM s.heap x dx C mA) (hg : PySem.W.plainGet K C name = true)
    (hf : PySem.W.findIn K (.ref C) name = some (some (.ref f))) (ht : PySem.W.isFn K (.ref f) = true) (hv : mA name = none) (h : Q (.ref f, [.ref x]) s) :
    wpAny (model prog w) A (getMethod (.ref x) name pl) Q E s := by
  obtain ⟨od, J, hl⟩ := I.look
  exact PySem.W.method_fn X J (PySem.W.plainGet_of hg).1 (PySem.W.plainGet_of hg).2 hf (beq_iff_eq.mp ht) (by show (PySem.W.lookIn name od).map (·.isSome) = some false; rw [hl, hv]; rfl) h

theorem set_map {ns : List Str} {Q : Unit → Shared → Prop} (X : K.In s.heap) (I : ObjM s.heap x dx C mA)
    (hs : PySem.W.findIn K (.ref C) "__setattr__" = some (some (.builtin "object.__setattr__"))) (hp : PySem.W.plainOver K C = true) (ht : PySem.W.takerIn K C name = some none) (hh : PySem.W.hasDictIn K C = true)
    (hw : PySem.Within mA ns) (hsz : ns.length ≤ sizeLine)
    (h : ∀ h', ObjM h' x dx C (fun y => if y = name then some v else mA y) → Heap.SameBut dx s.heap h' → Q () { s with heap := h', toks := s.toks + 2 }) :
    wpAny (model prog w) A (setAttr (.ref x) name v) Q E s := by
  obtain ⟨od, J, hl⟩ := I.look
  refine PySem.W.set_plain X J hs (PySem.W.osa_open (s := { s with toks := s.toks + 1 }) (r := none) X J hp ht fun b => ?_)
  obtain ⟨cd, hc, hd'⟩ := PySem.W.any_some hh
  have hx : s.heap.get? x = some ⟨.ref C, some dx, .plain, #[]⟩ := I.obj
  refine wpAny_bind (wpAny_pure (wpAny_bind (wpAny_bind (wpAny_loadPart hx (wpAny_bind (PySem.W.Looks.here (s := { s with toks := s.toks + 1 }) (PySem.W.looks_clsIn X hc) ?_))))))
  rw [hd']
  refine wpAny_pure (a := some dx) (wpAny_bind (wpAny_pure (wpAny_bind ?_)))
  refine wpAny_nsSet1 (s := { s with toks := s.toks + 1 }) I.ns fun h' hn2 hs2 => ?_
  obtain ⟨oD, esD, epD, hoD, hdD, hcD⟩ := hn2.count (PySem.Within.cons name v hw)
  refine wpAny_bind (wpAny_lookBehind hoD (by rw [hdD]; exact pastItsLine_dict (Nat.le_trans hcD (by rw [List.length_cons]; omega))) ?_)
  exact wpAny_pure (h _ ⟨(hs2.2 _ (Ne.symm I.ne)).trans I.obj, hn2, I.ne⟩ hs2)

/-- C(..): the dict at the heap's end, the instance behind it; then its __init__ -/
theorem make_map {R : Result → Shared → Prop} {vs : List Value} {kw : List (Str × Value)} (X : K.In s.heap) (hm : PySem.W.makesIn K C = true)
    (hi : PySem.W.findIn K (.ref C) "__init__" = some (some (.ref f))) (hf : PySem.W.typeIn K (.ref f) = some (.type "function"))
    (h : codeAny (model prog w) (A.under (.builtin "type.__call__" ⟨.ref C :: vs, kw⟩)) (.call (.ref f) ⟨.ref (s.heap.objs.size + 1) :: vs, kw⟩) (PySem.W.InitBack (s.heap.objs.size + 1) R)
      { s with heap := (s.heap.push PySem.W.emptyDict).push (PySem.W.instObj C s.heap.objs.size) }) :
    codeAny (model prog w) A (.call (.ref C) ⟨vs, kw⟩) R s := by
  obtain ⟨hh, g, d, t, os⟩ := s
  exact PySem.W.make_core (PySem.W.makes_of X hm) (PySem.W.looks_findIn X hi) (fun self => PySem.W.bind_fn X self hf) (.inl rfl) h
/-- C() where there is no __init__ but object's -/
theorem make_map0 {R : Result → Shared → Prop} (X : K.In s.heap) (hm : PySem.W.makesIn K C = true)
    (hi : PySem.W.findIn K (.ref C) "__init__" = some (some (.builtin "object.__init__")))
    (hb : ∀ self, PySem.W.Looks (model prog w) s.heap (bindSpecial (.builtin "object.__init__") self) (.builtin "object.__init__", [self]))
    (h : codeAny (model prog w) (A.under (.builtin "type.__call__" ⟨[.ref C], []⟩)) (.call (.builtin "object.__init__") ⟨[.ref (s.heap.objs.size + 1)], []⟩) (PySem.W.InitBack (s.heap.objs.size + 1) R)
      { s with heap := (s.heap.push PySem.W.emptyDict).push (PySem.W.instObj C s.heap.objs.size) }) :
    codeAny (model prog w) A (.call (.ref C) ⟨[], []⟩) R s := by
  obtain ⟨hh, g, d, t, os⟩ := s
  exact PySem.W.make_core (PySem.W.makes_of X hm) (PySem.W.looks_findIn X hi) hb (.inr ⟨rfl, rfl⟩) h
end

/-! ### the attributes as a list of pairs -/
def putF (f : Str) (v : V) : List (Str × V) → List (Str × V)
  | [] => [(f, v)]
  | (g, x) :: r => if g = f then (g, v) :: r else (g, x) :: putF f v r
theorem lookup_putF (f g : Str) (v : V) : ∀ fs : List (Str × V), (putF f v fs).lookup g = if g = f then some v else fs.lookup g
  | [] => by
    show List.lookup g [(f, v)] = _
    by_cases h : g = f
    · have hb : (g == f) = true := beq_iff_eq.mpr h
      simp only [List.lookup, hb, if_pos h]
    · have hb : (g == f) = false := beq_eq_false_iff_ne.mpr h
      simp only [List.lookup, hb, if_neg h]
  | (k, x) :: r => by
    have ih := lookup_putF f g v r
    rw [show putF f v ((k, x) :: r) = (if k = f then (k, v) :: r else (k, x) :: putF f v r) from rfl]
    by_cases hk : k = f
    · rw [if_pos hk]
      by_cases h : g = k
      · have hb : (g == k) = true := beq_iff_eq.mpr h
        simp only [List.lookup, hb, if_pos (h.trans hk)]
      · have hb : (g == k) = false := beq_eq_false_iff_ne.mpr h
        simp only [List.lookup, hb, if_neg (fun e : g = f => h (e.trans hk.symm))]
    · rw [if_neg hk]
      by_cases h : g = k
      · have hb : (g == k) = true := beq_iff_eq.mpr h
        simp only [List.lookup, hb, if_neg (fun e : g = f => hk (h.symm.trans e))]
      · have hb : (g == k) = false := beq_eq_false_iff_ne.mpr h
        simp only [List.lookup, hb]
        exact ih
theorem keys_putF (f : Str) (v : V) : ∀ fs : List (Str × V), f ∈ (putF f v fs).map (·.1) ∧ ∀ g, g ∈ fs.map (·.1) → g ∈ (putF f v fs).map (·.1)
  | [] => ⟨by simp [putF], fun g h => by simp at h⟩
  | (k, x) :: r => by
    obtain ⟨i1, i2⟩ := keys_putF f v r
    rw [show putF f v ((k, x) :: r) = (if k = f then (k, v) :: r else (k, x) :: putF f v r) from rfl]
    by_cases hk : k = f
    · rw [if_pos hk]
      subst hk
      exact ⟨by simp, fun g h => by simpa using h⟩
    · rw [if_neg hk]
      refine ⟨?_, fun g h => ?_⟩
      · rw [List.map_cons]
        exact List.mem_cons_of_mem _ i1
      · rw [List.map_cons] at h ⊢
        rcases List.mem_cons.mp h with e | e
        · exact List.mem_cons.mpr (.inl e)
        · exact List.mem_cons_of_mem _ (i2 g e)
theorem length_putF (f : Str) (v : V) : ∀ fs : List (Str × V), (putF f v fs).length ≤ fs.length + 1
  | [] => by simp [putF]
  | (k, x) :: r => by
    have ih := length_putF f v r
    rw [show putF f v ((k, x) :: r) = (if k = f then (k, v) :: r else (k, x) :: putF f v r) from rfl]
    by_cases hk : k = f
    · rw [if_pos hk, List.length_cons, List.length_cons]; omega
    · rw [if_neg hk, List.length_cons, List.length_cons]; omega

theorem RelO.some_of {v : V} {o : Option Value} (r : RelO (some v) o) : ∃ u, o = some u ∧ RelV v u := by
  cases o with
  | none => exact (show False from r).elim
  | some u => exact ⟨u, rfl, r⟩
theorem RelO.none_of {o : Option Value} (r : RelO none o) : o = none := by
  cases o with
  | none => rfl
  | some u => exact (show False from r).elim
theorem handed_of {v : V} {u : Value} (r : RelV v u) : PySem.W.handedIn u = true := by
  cases v with
  | non => cases (show u = Value.none from r); rfl
  | bl b => cases (show u = Value.bool b from r); rfl
  | int i => obtain ⟨t, e⟩ := (show ∃ t, u = Value.int i t from r); cases e; rfl
  | str x => obtain ⟨t, e⟩ := (show ∃ t, u = Value.str x t from r); cases e; rfl
  | byt b => obtain ⟨t, e⟩ := (show ∃ t, u = Value.bytes b t from r); cases e; rfl
  | flt b => obtain ⟨t, e⟩ := (show ∃ t, u = Value.float b t from r); cases e; rfl
  | ref a => cases (show u = Value.ref a from r); rfl
  | ty n => cases (show u = Value.type n from r); rfl

section
variable {P : Program} {w : World} {H H' : Hp} {h h' : Heap} {a C dx : Addr} {fs fs' : List (Str × V)}
theorem ins_get (hok : HOk P w H h) (e : H a = some (.ins C dx fs)) : ∃ mA, ObjM h a dx C mA ∧ (∀ f, RelO (fs.lookup f) (mA f)) ∧ PySem.Within mA (fs.map (·.1)) ∧ fs.length ≤ 1000 ∧ H dx = some (.own a) := by
  obtain ⟨d, z, ne, ob, mA, n, r, q⟩ := (show ObjOk P w H h a (.ins C dx fs) from hok a _ e)
  exact ⟨mA, ⟨ob, n, ne⟩, r, q, z, d⟩
end

/-! ### what of the text a class must have -/
structure Cls (K : PySem.W.Frag) (C : Addr) : Prop where
  pg : PySem.W.plainGet K C Str.empty = true
  hd : PySem.W.hasDictIn K C = true
  po : PySem.W.plainOver K C = true
  sa : PySem.W.findIn K (.ref C) "__setattr__" = some (some (.builtin "object.__setattr__"))
theorem Cls.get {K : PySem.W.Frag} {C : Addr} (c : Cls K C) (f : Str) : PySem.W.plainGet K C f = true := c.pg
/-- no class of it has the name -/
def NoAttr (K : PySem.W.Frag) (C : Addr) (f : Str) : Prop := PySem.W.findIn K (.ref C) f = some none
theorem NoAttr.taker {K : PySem.W.Frag} {C : Addr} {f : Str} (n : NoAttr K C f) : PySem.W.takerIn K C f = some none := by
  unfold PySem.W.takerIn
  rw [show PySem.W.findIn K (.ref C) f = some none from n]
  rfl
/-- a constant of the class -/
structure Con (K : PySem.W.Frag) (C : Addr) (f : Str) (v : V) (u : Value) : Prop where
  at_ : PySem.W.findIn K (.ref C) f = some (some u)
  rel : RelV v u
  get : PySem.W.specialIn K u "__get__" = some none
  cp : PySem.W.copiedNames.contains f = false
/-- a method: a plain def of the class or of one above it -/
structure Meth (K : PySem.W.Frag) (C : Addr) (m : Str) (f : Addr) : Prop where
  at_ : PySem.W.findIn K (.ref C) m = some (some (.ref f))
  fn : PySem.W.isFn K (.ref f) = true
  kp : PySem.W.keepIn K (.ref f) = true

section
variable {X : Cx} {pins : List (Addr × Obj)} {σ : St} {H : Hp} {s : Shared} {a C dx : Addr} {fs : List (Str × V)} {f : Str} {v : V} {A : Around} {E : Value → Shared → Prop}

theorem getattr_ok {b : Bool} {Q : Value → Shared → Prop} (I : Inv X pins σ H s) (e : H a = some (.ins C dx fs)) (c : Cls X.K C) (n : NoAttr X.K C f) (l : fs.lookup f = some v)
    (h : ∀ u s', Inv X pins σ H s' → RelV v u → Q u s') : wpAny (model X.prog X.w) A (getAttr (.ref a) f b) Q E s := by
  obtain ⟨mA, O, r, _, _, _⟩ := ins_get I.hok e
  obtain ⟨u, hu, ru⟩ := RelO.some_of (v := v) (o := mA f) (by rw [← l]; exact r f)
  exact get_map I.kIn O (c.get f) c.hd n hu (handed_of ru) (h u _ (I.tok _) ru)

theorem getcon_ok {b : Bool} {u : Value} {Q : Value → Shared → Prop} (I : Inv X pins σ H s) (e : H a = some (.ins C dx fs)) (c : Cls X.K C) (k : Con X.K C f v u) (l : fs.lookup f = none)
    (h : ∀ s', Inv X pins σ H s' → Q u s') : wpAny (model X.prog X.w) A (getAttr (.ref a) f b) Q E s := by
  obtain ⟨mA, O, r, _, _, _⟩ := ins_get I.hok e
  have hn : mA f = none := RelO.none_of (by rw [← l]; exact r f)
  exact get_const I.kIn O (c.get f) c.hd k.at_ k.get k.cp hn (handed_of k.rel) (h _ (I.tok _))

theorem getmeth_ok {m : Str} {g : Addr} {pl : Sem Bool} {Q : Value × List Value → Shared → Prop} (I : Inv X pins σ H s) (e : H a = some (.ins C dx fs)) (c : Cls X.K C) (k : Meth X.K C m g) (l : fs.lookup m = none)
    (h : Q (.ref g, [.ref a]) s) : wpAny (model X.prog X.w) A (getMethod (.ref a) m pl) Q E s := by
  obtain ⟨mA, O, r, _, _, _⟩ := ins_get I.hok e
  have hn : mA m = none := RelO.none_of (by rw [← l]; exact r m)
  exact get_meth I.kIn O (c.get m) k.at_ k.fn hn h

theorem setattr_ok {y : V} {u : Value} {Q : Unit → Shared → Prop} (I : Inv X pins σ H s) (e : H a = some (.ins C dx fs)) (c : Cls X.K C) (n : NoAttr X.K C f) (hl : fs.length < 1000) (ry : RelV y u)
    (h : ∀ s', Inv X pins σ (upd H a (.ins C dx (putF f y fs))) s' → Q () s') : wpAny (model X.prog X.w) A (setAttr (.ref a) f u) Q E s := by
  obtain ⟨mA, O, r, wi, _, ho⟩ := ins_get I.hok e
  have hz : (fs.map (·.1)).length ≤ sizeLine := by rw [List.length_map, sizeLine_eq]; omega
  refine set_map I.kIn O c.sa c.po n.taker c.hd wi hz fun h' O' sb => h _ ?_
  have hd : ∃ o, h'.get? dx = some o := let ⟨o, _, _, e', _⟩ := O'.ns; ⟨o, e'⟩
  refine I.write (x := a) (e := dx) (by rw [e]; exact True.intro) (.inr ho) (fun b q hb z => (sb.2 b hb).trans z) hd ?_
  refine ⟨by rw [upd_ne O.ne]; exact ho, ?_, O.ne, O'.obj, _, O'.ns, fun g => ?_, fun g hg => ?_⟩
  · have := length_putF f y fs; omega
  · show RelO ((putF f y fs).lookup g) (if g = f then some u else mA g)
    rw [lookup_putF]
    by_cases q : g = f
    · rw [if_pos q, if_pos q]; exact ry
    · rw [if_neg q, if_neg q]; exact r g
  · by_cases q : g = f
    · rw [q]; exact (keys_putF f y fs).1
    · refine (keys_putF f y fs).2 g (wi g fun z => hg ?_)
      show (if g = f then some u else mA g) = none
      rw [if_neg q]; exact z

/-- a new instance, tracked, without attributes -/
theorem Inv.made (I : Inv X pins σ H s) : Inv X pins σ (upd (upd H s.heap.objs.size (.own (s.heap.objs.size + 1))) (s.heap.objs.size + 1) (.ins C s.heap.objs.size []))
    { s with heap := (s.heap.push PySem.W.emptyDict).push (PySem.W.instObj C s.heap.objs.size) } := by
  have e1 : (s.heap.push PySem.W.emptyDict).get? s.heap.objs.size = some PySem.W.emptyDict := Heap.get?_push_size s.heap rfl
  have e2 : ((s.heap.push PySem.W.emptyDict).push (PySem.W.instObj C s.heap.objs.size)).get? (s.heap.objs.size + 1) = some (PySem.W.instObj C s.heap.objs.size) := by
    have := Heap.get?_push_size (s.heap.push PySem.W.emptyDict) (o := PySem.W.instObj C s.heap.objs.size) rfl
    rwa [Heap.size_push] at this
  have e3 : (s.heap.push PySem.W.emptyDict).Ns s.heap.objs.size (fun _ => none) := ⟨PySem.W.emptyDict, #[], _, e1, rfl, (fun e he => absurd he (by simp)), fun _ => rfl⟩
  have I1 := I.laid (a := s.heap.objs.size) (o := .own (s.heap.objs.size + 1)) (h' := s.heap.push PySem.W.emptyDict) (t' := s.toks) (fun b u q => Heap.get?_push_of_some _ q) (Nat.le_refl _) ⟨_, e1⟩
  refine I1.laid (a := s.heap.objs.size + 1) (o := .ins C s.heap.objs.size []) (t' := s.toks) (fun b u q => Heap.get?_push_of_some _ q) (Nat.le_of_eq (Heap.size_push _ _)) ?_
  have ne : s.heap.objs.size ≠ s.heap.objs.size + 1 := Nat.ne_of_lt (Nat.lt_succ_self _)
  refine ⟨by rw [upd_ne ne, upd_same], Nat.zero_le _, ne, e2, fun _ => none, (Heap.Ns1.of_empty e3).at fun o q => Heap.get?_push_of_some _ q, fun _ => True.intro, fun y hy => absurd rfl hy⟩

/-- e.f where nothing but the object is asked: through attributeBase (super) and the last hold -/
theorem attr_of {prog : Program} {w : World} {env : Env} {e : Expr} {f : Str} {pos : Pos} {s : Shared} {Q : Value → Shared → Prop} (hb : attributeBase e f env (eval e env) = eval e env)
    (h : wpAny (model prog w) A (eval e env) (fun o s₁ => wpAny (model prog w) A (getAttr o f true) Q E s₁) E s) : wpAny (model prog w) A (eval (.Attribute e f pos) env) Q E s :=
  Attribute_any_ h (by rw [arm_eval_Attribute, hb])
end

/-! ### readings and rules -/
/-- e.f, an attribute of the instance -/
def tFld (K : PySem.W.Frag) (ta : TE) (f : Str) : TE := fun σ H Q => ta σ H fun x H1 => ∃ a C dx fs v, x = .ref a ∧ H1 a = some (.ins C dx fs) ∧ Cls K C ∧ NoAttr K C f ∧ fs.lookup f = some v ∧ Q v H1
/-- e.f, a constant of the class -/
def tCon (K : PySem.W.Frag) (ta : TE) (f : Str) : TE := fun σ H Q => ta σ H fun x H1 => ∃ a C dx fs v u, x = .ref a ∧ H1 a = some (.ins C dx fs) ∧ Cls K C ∧ Con K C f v u ∧ fs.lookup f = none ∧ Q v H1
/-- e.f = value -/
def sFld (K : PySem.W.Frag) (ta tv : TE) (f : Str) : TS := fun D σ H => tv σ H fun y H1 => ta σ H1 fun x H2 => ∃ a C dx fs, x = .ref a ∧ H2 a = some (.ins C dx fs) ∧ Cls K C ∧ NoAttr K C f ∧ fs.length < 1000 ∧
  D.nx σ (upd H2 a (.ins C dx (putF f y fs)))
/-- an augmented operator on two values -/
def InOp (X : Cx) (op : Operator) (rd : V → V → Hp → VK → Prop) : Prop :=
  ∀ (pins : List (Addr × Obj)) (s : Shared) (σ : St) (H : Hp) (x y : V) (u v : Value) (Q : VK), Inv X pins σ H s → RelV x u → RelV y v → rd x y H Q → wpAny (model X.prog X.w) X.A (inplaceOp op u v) (EP X pins σ Q) X.xe s
/-- e.f op= value -/
def sFldAug (K : PySem.W.Frag) (ta tv : TE) (rd : V → V → Hp → VK → Prop) (f : Str) : TS := fun D σ H => ta σ H fun x H1 => ∃ a C dx fs v, x = .ref a ∧ H1 a = some (.ins C dx fs) ∧ Cls K C ∧ NoAttr K C f ∧ fs.lookup f = some v ∧
  tv σ H1 fun y H2 => rd v y H2 fun z H3 => ∃ dx' fs', H3 a = some (.ins C dx' fs') ∧ fs'.length < 1000 ∧ D.nx σ (upd H3 a (.ins C dx' (putF f z fs')))

section
variable {X : Cx} {o e value : Expr} {f : Str} {pos pos' tpos : Pos} {ta tv : TE}
theorem pe_fld (he : PE X e ta) (hb : attributeBase e f X.env (eval e X.env) = eval e X.env) : PE X (.Attribute e f pos) (tFld X.K ta f) := by
  intro pins s σ H Q I h
  refine attr_of hb (thn (he pins s σ H _ I h) fun u s1 ⟨x, H1, I1, rx, a, C, dx, fs, v, ex, ea, c, n, l, q⟩ => ?_)
  subst ex
  obtain rfl : u = Value.ref a := rx
  exact getattr_ok I1 ea c n l fun u' s2 I2 ru => ⟨v, H1, I2, ru, q⟩
theorem pe_con (he : PE X e ta) (hb : attributeBase e f X.env (eval e X.env) = eval e X.env) : PE X (.Attribute e f pos) (tCon X.K ta f) := by
  intro pins s σ H Q I h
  refine attr_of hb (thn (he pins s σ H _ I h) fun u s1 ⟨x, H1, I1, rx, a, C, dx, fs, v, u0, ex, ea, c, k, l, q⟩ => ?_)
  subst ex
  obtain rfl : u = Value.ref a := rx
  exact getcon_ok I1 ea c k l fun s2 I2 => ⟨v, H1, I2, k.rel, q⟩
theorem ps_fld (ha : PE X o ta) (hv : PE X value tv) (hs : swapsWith value (some (.Attribute o f pos')) pos.line X.env = pure false) : PS X (.Assign [.Attribute o f pos'] value pos) (sFld X.K ta tv f) := by
  intro pins s σ H D I h
  refine plainObj_wpAny_Assign_Attribute (thn (hv pins s σ H _ I h) fun u s1 ⟨y, H1, I1, ry, q⟩ => thn (ha pins s1 σ H1 _ I1 q) fun ov s2 ⟨x, H2, I2, rx, a, C, dx, fs, ex, ea, c, n, l, q2⟩ => ?_) hs
  subst ex
  obtain rfl : ov = Value.ref a := rx
  exact setattr_ok I2 ea c n l ry fun s3 I3 => ⟨σ, _, I3, q2⟩
theorem ps_fldaug {op : Operator} {rd : V → V → Hp → VK → Prop} (ha : PE X o ta) (hv : PE X value tv) (hop : InOp X op rd) : PS X (.AugAssign (.Attribute o f tpos) op value pos) (sFldAug X.K ta tv rd f) := by
  intro pins s σ H D I h
  refine wpAny_AugAssign_AttributeAny (thn (ha pins s σ H _ I h) fun ov s1 ⟨x, H1, I1, rx, a, C, dx, fs, v, ex, ea, c, n, l, q⟩ => ?_)
  subst ex
  obtain rfl : ov = Value.ref a := rx
  refine getattr_ok I1 ea c n l fun u s2 I2 ru => thn (hv pins s2 σ H1 _ I2 q) fun w3 s3 ⟨y, H2, I3, ry, q3⟩ => thn (hop pins s3 σ H2 v y u w3 _ I3 ru ry q3) fun w4 s4 ⟨z, H3, I4, rz, dx', fs', ea', l', q4⟩ => ?_
  exact setattr_ok I4 ea' c n l' rz fun s5 I5 => ⟨σ, _, I5, q4⟩
def rAdd : V → V → Hp → VK → Prop := fun x y H Q => ∃ i j, x = .int i ∧ y = .int j ∧ Q (.int (i + j)) H
def rSub : V → V → Hp → VK → Prop := fun x y H Q => ∃ i j, x = .int i ∧ y = .int j ∧ Q (.int (i - j)) H
theorem in_add : InOp X .Add rAdd := by
  rintro pins s σ H x y u v Q I rx ry ⟨i, j, rfl, rfl, q⟩
  obtain ⟨t, rfl⟩ := (show ∃ t, u = Value.int i t from rx)
  obtain ⟨t', rfl⟩ := (show ∃ t', v = Value.int j t' from ry)
  exact PyProof.Rows.iadd_int ⟨.int (i + j), H, I.tok _, ⟨_, rfl⟩, q⟩
theorem in_sub : InOp X .Sub rSub := by
  rintro pins s σ H x y u v Q I rx ry ⟨i, j, rfl, rfl, q⟩
  obtain ⟨t, rfl⟩ := (show ∃ t, u = Value.int i t from rx)
  obtain ⟨t', rfl⟩ := (show ∃ t', v = Value.int j t' from ry)
  exact PyProof.Rows.isub_int ⟨.int (i - j), H, I.tok _, ⟨_, rfl⟩, q⟩

/-- what is between an instance and its method: the tree of a method call -/
theorem methcall_of {pl : Sem Bool} {m : Str} {apos : Pos} {args : List Expr} {pins : List (Addr × Obj)} {s : Shared} {σ : St} {H : Hp} {Q : Value → Shared → Prop} {te : TE} (he : PE X e te) (I : Inv X pins σ H s)
    (h : te σ H fun x H1 => ∃ a C dx fs g, x = .ref a ∧ H1 a = some (.ins C dx fs) ∧ Cls X.K C ∧ Meth X.K C m g ∧ fs.lookup m = none ∧
      ∀ s1, Inv X pins σ H1 s1 → wpAny (model X.prog X.w) X.A (callWith pos (.ref g) [.ref a] (backTo pos (starEach args X.env)) (backToKw pos (keywordEach [] X.env))) Q X.xe s1)
    (ht : eval (.Call (.Attribute e m apos) args [] pos) X.env = (do
      let ov ← eval e X.env
      standAt apos.atName
      let (f, first) ← holding [ov] (getMethod ov m pl)
      callWith pos f first (backTo pos (starEach args X.env)) (backToKw pos (keywordEach [] X.env)))) :
    wpAny (model X.prog X.w) X.A (eval (.Call (.Attribute e m apos) args [] pos) X.env) Q X.xe s := by
  refine PySem.W.methodCall_KW (pl := pl) (thn (he pins s σ H _ I h) fun u s1 ⟨x, H1, I1, rx, a, C, dx, fs, g, ex, ea, c, k, l, q⟩ => ?_) ht
  subst ex
  obtain rfl : u = Value.ref a := rx
  exact getmeth_ok I1 ea c k l (q s1 I1)
end

/-! ### isinstance -/
section
variable {X : Cx} {pins : List (Addr × Obj)} {σ : St} {H : Hp} {s : Shared} {A : Around} {E : Value → Shared → Prop} {Q : Value → Shared → Prop} {c : Value} {b : Bool}
/-- the type of a value, as the fragment's deciders take it; for an instance its class -/
inductive TyOf (K : PySem.W.Frag) (H : Hp) : V → Value → Prop where
  | non : TyOf K H .non (.type "NoneType")
  | bl (x : Bool) : TyOf K H (.bl x) (.type "bool")
  | int (i : Int) : TyOf K H (.int i) (.type "int")
  | str (x : Str) : TyOf K H (.str x) (.type "str")
  | flt (x : UInt64) : TyOf K H (.flt x) (.type "float")
  | lst {a : Addr} {xs : List V} (e : H a = some (.lst xs)) : TyOf K H (.ref a) (.type "list")
  | frz {a : Addr} {o : Obj} {xs : List V} (e : H a = some (.frz o (.lst xs))) : TyOf K H (.ref a) (.type "list")
  | tup {a : Addr} {xs : List V} (e : H a = some (.tup xs)) : TyOf K H (.ref a) (.type "tuple")
  | dK {a : Addr} {kvs : List (Key × V)} (e : H a = some (.dK kvs)) : TyOf K H (.ref a) (.type "dict")
  | dT {a : Addr} {kvs : List (List Key × V)} (e : H a = some (.dT kvs)) : TyOf K H (.ref a) (.type "dict")
  | ins {a C dx : Addr} {fs : List (Str × V)} (e : H a = some (.ins C dx fs)) (cl : Cls K C) (ha : PySem.W.findIn K (.ref C) "__class__" = some (some (.builtin "object.__class__")))
      (hn : PySem.W.specialIn K (.builtin "object.__class__") "__get__" = some (some (.builtin "getset_descriptor.__get__"))) (htk : PySem.W.takesIn K (.builtin "object.__class__") = some true)
      (hm : PySem.W.mroIn K C (.type "object") = some true) : TyOf K H (.ref a) (.ref C)
/-- isinstance(x, c) for one class c, a built-in or an own one: kitOne's answer -/
theorem isinst_ok {x : V} {u t : Value} (I : Inv X pins σ H s) (rx : RelV x u) (ty : TyOf X.K H x t) (e : PySem.W.kitOne X.K t c = some b) (h : ∀ tk, Q (.bool b) { s with toks := tk }) :
    wpAny (model X.prog X.w) A (call (.builtin "isinstance") [u, c]) Q E s := by
  cases ty with
  | non => cases (show u = Value.none from rx); exact PySem.W.kia_one PySem.W.kitx_none I.kIn True.intro e (fun z => nomatch z) h
  | bl y => cases (show u = Value.bool y from rx); exact PySem.W.kia_one PySem.W.kitx_bool I.kIn True.intro e (fun z => nomatch z) h
  | int i => obtain ⟨t, q⟩ := (show ∃ t, u = Value.int i t from rx); cases q; exact PySem.W.kia_one PySem.W.kitx_int I.kIn True.intro e (fun z => nomatch z) h
  | str y => obtain ⟨t, q⟩ := (show ∃ t, u = Value.str y t from rx); cases q; exact PySem.W.kia_one PySem.W.kitx_str I.kIn True.intro e (fun z => nomatch z) h
  | flt y => obtain ⟨t, q⟩ := (show ∃ t, u = Value.float y t from rx); cases q; exact PySem.W.kia_one PySem.W.kitx_float I.kIn True.intro e (fun z => nomatch z) h
  | @lst a xs ea =>
    cases (show u = Value.ref a from rx)
    obtain ⟨_, _, n, _, h1⟩ := (show ObjOk X.prog X.w H s.heap a (.lst xs) from I.hok a _ ea)
    exact PySem.W.kia_one PySem.W.kitx_list I.kIn ⟨_, h1, rfl⟩ e (fun z => nomatch z) h
  | @frz a ob xs ea =>
    cases (show u = Value.ref a from rx)
    obtain ⟨_, _, _, n, _, h1⟩ := (show ObjOk X.prog X.w H s.heap a (.frz ob (.lst xs)) from I.hok a _ ea)
    exact PySem.W.kia_one PySem.W.kitx_list I.kIn ⟨_, h1, rfl⟩ e (fun z => nomatch z) h
  | @tup a xs ea =>
    cases (show u = Value.ref a from rx)
    obtain ⟨_, _, _, p⟩ := (show ObjOk X.prog X.w H s.heap a (.tup xs) from I.hok a _ ea)
    obtain ⟨o, h1, h2, _⟩ := p
    exact PySem.W.kia_one PySem.W.kitx_tuple I.kIn ⟨o, h1, h2⟩ e (fun z => nomatch z) h
  | @dK a kvs ea =>
    cases (show u = Value.ref a from rx)
    obtain ⟨_, _, vs, _, p⟩ := (show ObjOk X.prog X.w H s.heap a (.dK kvs) from I.hok a _ ea)
    obtain ⟨o, es, ep, h1, h2, _⟩ := p
    exact PySem.W.kia_one PySem.W.kitx_dict I.kIn ⟨o, h1, h2.1⟩ e (fun z => nomatch z) h
  | @dT a kvs ea =>
    cases (show u = Value.ref a from rx)
    obtain ⟨_, _, xs, _, o, es, ep, h1, h2, _⟩ := (show ObjOk X.prog X.w H s.heap a (.dT kvs) from I.hok a _ ea)
    exact PySem.W.kia_one PySem.W.kitx_dict I.kIn ⟨o, h1, h2.1⟩ e (fun z => nomatch z) h
  | @ins a C dx fs ea cl ha hn htk hm =>
    cases (show u = Value.ref a from rx)
    obtain ⟨mA, O, _⟩ := ins_get I.hok ea
    obtain ⟨od, J, _⟩ := O.look
    exact PySem.W.kia_one (PySem.W.kitx_own (cl.get _) cl.hd ha hn htk hm) I.kIn J e (fun z => nomatch z) h
end
end L2

namespace L2
open PySem PySem.Spec PyProof.Rows

/-! ### room -/
structure Room (k : Nat) (A : Around) : Prop where
  hd : A.handled = none
  dp : A.depth + 3 * k + 5 < recursionLimit
  un : A.units + 16 * k + 200 < cLine
  gd : A.guards = some []
theorem Room.mono {j k : Nat} {A : Around} (r : Room k A) (h : j ≤ k) : Room j A := ⟨r.hd, by have := r.dp; omega, by have := r.un; omega, r.gd⟩
theorem Room.deeper {k : Nat} {A : Around} (r : Room (k + 1) A) (env : Env) : Room k (A.deeper env) :=
  ⟨r.hd, by have := r.dp; show A.depth + 1 + 3 * k + 5 < _; omega, by have := r.un; show A.units + 3 + 16 * k + 200 < _; omega, r.gd⟩
theorem Room.in1 {k : Nat} {A : Around} (r : Room (k + 1) A) : Room k A.in1 :=
  ⟨r.hd, by have := r.dp; show A.depth + 3 * k + 5 < _; omega, by have := r.un; show A.units + 1 + 16 * k + 200 < _; omega, r.gd⟩
theorem make_depth {A : Around} {C : Addr} {us : List Value} {kw : List (Str × Value)} : (A.under (.builtin "type.__call__" ⟨.ref C :: us, kw⟩)).depth = A.depth + 1 := by
  first | rfl | simp [Around.under, Code.weight, Code.isCreation, Code.isGuard, Code.isCaller, Code.frames, Code.isFrame, guardIds]
theorem make_units {A : Around} {C : Addr} {us : List Value} {kw : List (Str × Value)} : (A.under (.builtin "type.__call__" ⟨.ref C :: us, kw⟩)).units = A.units + 1 := by
  first | rfl | simp [Around.under, Code.cUnits, Code.frames, Code.isFrame]
theorem Room.make {k : Nat} {A : Around} (r : Room (k + 1) A) (C : Addr) (us : List Value) (kw : List (Str × Value)) : Room k (A.under (.builtin "type.__call__" ⟨.ref C :: us, kw⟩)) :=
  ⟨r.hd, by have := r.dp; rw [make_depth]; omega, by have := r.un; rw [make_units]; omega, by first | exact r.gd | (simp [Around.under, Code.isGuard, guardIds]; exact r.gd)⟩
theorem Room.depth {k : Nat} {A : Around} (r : Room k A) : A.depth < recursionLimit := by have := r.dp; omega
theorem Room.units {k : Nat} {A : Around} (r : Room k A) : A.units + 64 < cLine := by have := r.un; omega
theorem Room.units0 {k : Nat} {A : Around} (r : Room k A) : A.units < cLine := by have := r.un; omega

/-! ### argument lists and displays -/
def tNil : TA := fun _ H Q => Q [] H
def tCons (ta : TE) (tr : TA) : TA := fun σ H Q => ta σ H fun x H1 => tr σ H1 fun xs H2 => Q (x :: xs) H2
section
variable {X : Cx} {e : Expr} {es : List Expr} {te : TE} {t : TA} {pos : Pos}
theorem pa_nil : PA X [] tNil := fun _ _ _ _ H Q I h => Calls.spliced_nil ⟨[], H, I, .nil, h⟩
theorem pa_cons (ha : PE X e te) (hr : PA X es t) (hs : starEach (e :: es) X.env = (false, eval e X.env) :: starEach es X.env := by rfl) : PA X (e :: es) (tCons te t) := by
  intro pos pins s σ H Q I h
  rw [hs]
  show wpAny _ _ (spliced ((false, eval e X.env) :: backTo pos (starEach es X.env))) _ _ s
  refine Calls.spliced_cons (thn (ha pins s σ H _ I h) fun u s1 ⟨x, H1, I1, r1, q1⟩ => ?_)
  exact thn (hr pos pins s1 σ H1 _ I1 q1) fun us s2 ⟨xs, H2, I2, r2, q2⟩ => ⟨x :: xs, H2, I2, .cons r1 r2, q2⟩

/-- a tuple, a list of written items -/
def tTup (t : TA) : TE := fun σ H Q => t σ H fun xs H1 => xs.length ≤ sizeLine ∧ ∀ p, H1 p = none → Q (.ref p) (upd H1 p (.tup xs))
def tLst (t : TA) : TE := fun σ H Q => t σ H fun xs H1 => xs.length ≤ sizeLine ∧ ∀ p, H1 p = none → Q (.ref p) (upd H1 p (.lst xs))
theorem pe_tup {x1} (h : PA X es t) : PE X (.Tuple es x1 pos) (tTup t) := by
  intro pins s σ H Q I hq
  refine wpAny_Tuple_spliced (thn (h pos pins s σ H _ I hq) fun us s1 ⟨xs, H1, I1, r, z, q⟩ => ⟨by rw [← r.length]; exact z, ?_⟩)
  have hf : H1 s1.heap.objs.size = none := I1.hok.fresh (Nat.le_refl _)
  refine ⟨.ref s1.heap.objs.size, upd H1 s1.heap.objs.size (.tup xs), I1.laid (t' := s1.toks) (fun b u e => Heap.get?_push_of_some _ e) (Nat.le_refl _) ?_, rfl, q _ hf⟩
  exact ⟨z, us, r, ⟨_, Heap.get?_push_size _ rfl, rfl, _, rfl⟩⟩
theorem pe_lst (h : PA X es t) : PE X (.List es pos) (tLst t) := by
  intro pins s σ H Q I hq
  refine wpAny_List_spliced (thn (h pos pins s σ H _ I hq) fun us s1 ⟨xs, H1, I1, r, z, q⟩ => ⟨by rw [← r.length]; exact z, ?_⟩)
  have hf : H1 s1.heap.objs.size = none := I1.hok.fresh (Nat.le_refl _)
  refine ⟨.ref s1.heap.objs.size, upd H1 s1.heap.objs.size (.lst xs), I1.laid (t' := s1.toks) (fun b u e => Heap.get?_push_of_some _ e) (Nat.le_refl _) ?_, rfl, q _ hf⟩
  exact ⟨z, us, 0, r, Heap.get?_push_size _ rfl⟩
end

/-! ### what a def promises -/
/-- a def's promise: the bound arguments in the parameters' order, the heap, the wanted end, the wanted exception -/
abbrev Sp := List V → Hp → VK → XK → Prop
/-- how an exception lies behind a call (file 08 gives it): the callers' frames, abstract heap and state ahead of the call, the wish, the exception, the state -/
abbrev CXT := List Env → Hp → Shared → XK → Value → Shared → Prop

/-- the state at a call -/
structure Env0 (P : Program) (w : World) (K : PySem.W.Frag) (mg : Str → Option Value) (base : Heap) (A : Around) (outer : List Env) (s : Shared) (H : Hp) : Prop where
  frames : A.frames = some outer
  mod : Mod K mg base
  bs : ∀ b o, base.get? b = some o → s.heap.get? b = some o ∧ H b = none
  bsz : base.objs.size ≤ s.heap.objs.size
  funs : s.heap.FunFrames base outer
  frf : ∀ b ∈ frs outer, H b = none
  hok : HOk P w H s.heap
  bare : AllBare s.gens
/-- a call's end -/
def CE (outer : List Env) (P : Program) (w : World) (H : Hp) (s : Shared) (Q : VK) (u : Value) (s' : Shared) : Prop :=
  ∃ v H', s'.os = s.os ∧ AllBare s'.gens ∧ Un (frs outer) [] H H' s.heap s'.heap ∧ HOk P w H' s'.heap ∧ RelV v u ∧ Q v H'
def CR (CX : CXT) (outer : List Env) (P : Program) (w : World) (H : Hp) (s : Shared) (Q : VK) (E : XK) (r : Result) (s' : Shared) : Prop :=
  match r with
  | .ok (.ret u) => CE outer P w H s Q u s'
  | .ok _ => False
  | .error e => CX outer H s E e s'
structure FnOk (P : Program) (w : World) (K : PySem.W.Frag) (mg : Str → Option Value) (base : Heap) (CX : CXT) (k : Nat) (f : Addr) (fd : FuncData) (ps : List Str) (sp : Sp) : Prop where
  len : ∀ vs H Q E, sp vs H Q E → vs.length = ps.length
  run : ∀ (A : Around) (outer : List Env) (s : Shared) (H : Hp) (args : Args) (us : List Value) (vs : List V) (Q : VK) (E : XK), Room k A → Env0 P w K mg base A outer s H → BindsTo s fd args (ps.zip us) → Vals vs us → sp vs H Q E →
    codeAny (model P w) A (.call (.ref f) args) (CR CX outer P w H s Q E) s
theorem FnOk.mono {P : Program} {w : World} {K : PySem.W.Frag} {mg : Str → Option Value} {base : Heap} {CX : CXT} {j k : Nat} {f : Addr} {fd : FuncData} {ps : List Str} {sp : Sp} (F : FnOk P w K mg base CX j f fd ps sp) (h : j ≤ k) :
    FnOk P w K mg base CX k f fd ps sp := ⟨F.len, fun A outer s H args us vs Q E hr => F.run A outer s H args us vs Q E (hr.mono h)⟩
/-- a weaker promise -/
theorem FnOk.imp {P : Program} {w : World} {K : PySem.W.Frag} {mg : Str → Option Value} {base : Heap} {CX : CXT} {k : Nat} {f : Addr} {fd : FuncData} {ps : List Str} {sp sp' : Sp} (F : FnOk P w K mg base CX k f fd ps sp)
    (h : ∀ vs H Q E, sp' vs H Q E → sp vs H Q E) : FnOk P w K mg base CX k f fd ps sp' :=
  ⟨fun vs H Q E q => F.len vs H Q E (h _ _ _ _ q), fun A outer s H args us vs Q E hr he hb hv hs => F.run A outer s H args us vs Q E hr he hb hv (h _ _ _ _ hs)⟩

theorem Env0.make {P : Program} {w : World} {K : PySem.W.Frag} {mg : Str → Option Value} {base : Heap} {A : Around} {outer : List Env} {s : Shared} {H : Hp} (e : Env0 P w K mg base A outer s H) (C : Addr) (us : List Value) (kw : List (Str × Value)) :
    Env0 P w K mg base (A.under (.builtin "type.__call__" ⟨.ref C :: us, kw⟩)) outer s H := ⟨by first | exact e.frames | (simpa [Around.under, Code.envs, Code.isFrame, pushEnvs] using e.frames), e.mod, e.bs, e.bsz, e.funs, e.frf, e.hok, e.bare⟩
theorem Env0.in1 {P : Program} {w : World} {K : PySem.W.Frag} {mg : Str → Option Value} {base : Heap} {A : Around} {outer : List Env} {s : Shared} {H : Hp} (e : Env0 P w K mg base A outer s H) :
    Env0 P w K mg base A.in1 outer s H := ⟨e.frames, e.mod, e.bs, e.bsz, e.funs, e.frf, e.hok, e.bare⟩

section
variable {X : Cx} {pins : List (Addr × Obj)} {σ : St} {H : Hp} {s s' : Shared}
/-- from a body: what a callee wants -/
theorem Inv.env0 (I : Inv X pins σ H s) : Env0 X.prog X.w X.K X.mg X.base X.A X.stack s H :=
  ⟨I.ok.frames, I.ok.mod, I.bs, Nat.le_trans I.ok.bsz I.sz, I.stack, I.stkFree, I.hok, I.bare⟩
/-- behind a call -/
theorem Inv.after {Q : VK} {u : Value} (I : Inv X pins σ H s) (h : CE X.stack X.prog X.w H s Q u s') : EP X pins σ Q u s' := by
  obtain ⟨v, H', os, bare, un, hok, r, q⟩ := h
  obtain ⟨hh, g, d, t, os'⟩ := s'
  obtain rfl : os' = s.os := os
  exact ⟨v, H', I.call (h' := hh) (g' := g) (d' := d) (t' := t) (ch := []) un hok bare (fun b z => absurd z (by simp)), r, q⟩
end

/-! ### calls -/
/-- f(..): the written arguments, then the defaults dvs; E: what is wanted of an exception -/
def tCall (sp : Sp) (dvs : List V) (E : XK) (t : TA) : TE := fun σ H Q => t σ H fun vs H1 => sp (vs ++ dvs) H1 Q E
/-- o.m(..) of an instance of the class at C -/
def tMeth (C : Addr) (m : Str) (sp : Sp) (dvs : List V) (E : XK) (ta : TE) (t : TA) : TE := fun σ H Q => ta σ H fun x H1 => ∃ a dx fs, x = .ref a ∧ H1 a = some (.ins C dx fs) ∧ fs.lookup m = none ∧
  t σ H1 fun vs H2 => sp (x :: (vs ++ dvs)) H2 Q E
/-- C(..): a new instance and its dict, then __init__ -/
def tMake (C : Addr) (sp : Sp) (dvs : List V) (E : XK) (t : TA) : TE := fun σ H Q => t σ H fun vs H1 => ∀ x dx, H1 x = none → H1 dx = none → dx ≠ x →
  sp (.ref x :: (vs ++ dvs)) (upd (upd H1 dx (.own x)) x (.ins C dx [])) (fun v H2 => v = .non ∧ Q (.ref x) H2) E

/-- how the parameters are bound: us the positional arguments, kw the keywords' values by name, ds the defaults that fill up -/
def Binds (K : PySem.W.Frag) (fd : FuncData) (ps : List Str) (ds : List Value) : Prop :=
  ∀ (s : Shared) (us : List Value), K.In s.heap → (us ++ ds).length = ps.length → BindsTo s fd ⟨us, []⟩ (ps.zip (us ++ ds))
/-- every parameter is given -/
theorem Binds.all {K : PySem.W.Frag} {fd : FuncData} {ps : List Str} (h : ∀ us : List Value, us.length = ps.length → bindArgs fd ⟨us, []⟩ = pure (ps.zip us)) : Binds K fd ps [] := fun s us _ hl => by
  rw [List.append_nil] at hl ⊢
  exact .of_eq (h us hl)

/-- an exception of a callee reaches what this body wants of exceptions -/
def Passes (CX : CXT) (X : Cx) (E : XK) : Prop := ∀ (pins : List (Addr × Obj)) (σ : St) (H : Hp) (s : Shared) (e : Value) (s' : Shared), Inv X pins σ H s → CX X.stack H s E e s' → X.xe e s'

section
variable {X : Cx} {CX : CXT} {k : Nat} {f C : Addr} {fd : FuncData} {ps : List Str} {sp : Sp} {dvs : List V} {ds : List Value} {E : XK} {x m : Str} {p pos apos : Pos} {e o : Expr} {es : List Expr} {ta : TE} {t : TA}

/-- the callee runs -/
theorem run_fn {pins : List (Addr × Obj)} {σ : St} {H : Hp} {s : Shared} {Q : VK} {us : List Value} {vs : List V} (F : FnOk X.prog X.w X.K X.mg X.base CX k f fd ps sp) (hr : Room k X.A) (hb : Binds X.K fd ps ds) (hd : Vals dvs ds) (hx : Passes CX X E)
    (I : Inv X pins σ H s) (r : Vals vs us) (h : sp (vs ++ dvs) H Q E) : wpAny (model X.prog X.w) X.A (call (.ref f) us) (EP X pins σ Q) X.xe s := by
  have r2 : Vals (vs ++ dvs) (us ++ ds) := r.append hd
  have hl : (us ++ ds).length = ps.length := by rw [← r2.length]; exact F.len _ _ _ _ h
  refine wpAny_call (codeAny_mono (F.run X.A X.stack s H ⟨us, []⟩ (us ++ ds) (vs ++ dvs) Q E hr I.env0 (hb s us I.kIn hl) r2 h) fun r s' hq => ?_)
  cases r with
  | error e => exact hx pins σ H s e s' I hq
  | ok fl =>
    cases fl with
    | ret u => exact I.after hq
    | next => exact False.elim hq
    | brk => exact False.elim hq
    | cont => exact False.elim hq

theorem pe_call (F : FnOk X.prog X.w X.K X.mg X.base CX k f fd ps sp) (hr : Room k X.A) (hg : Gl X x) (hm : X.mg x = some (.ref f)) (hk : PySem.W.keepIn X.K (.ref f) = true) (hb : Binds X.K fd ps ds) (hd : Vals dvs ds) (hx : Passes CX X E)
    (ha : PA X (e :: es) t) (hdb : (x == ("__debug__" : Str)) = false := by decide) (he : starEach (e :: es) X.env = (false, eval e X.env) :: starEach es X.env := by rfl) (hpl : (backTo pos (starEach es X.env)).any (·.1) = false := by rfl) :
    PE X (.Call (.Name x p) (e :: es) [] pos) (tCall sp dvs E t) := by
  intro pins s σ H Q I h
  refine wpAny_Call_Name_kw (ld_glob I hg hm ?_ hdb)
  refine PySem.W.callWith_K (h₀ := X.base) I.ok.mod.kin hk (thn (ha pos pins s σ H _ I h) fun us s1 ⟨vs, H1, I1, r, q⟩ => ⟨I1.kIn, ?_⟩) he hpl
  exact run_fn F hr hb hd hx I1 r q
theorem pe_call0 (F : FnOk X.prog X.w X.K X.mg X.base CX k f fd ps sp) (hr : Room k X.A) (hg : Gl X x) (hm : X.mg x = some (.ref f)) (hk : PySem.W.keepIn X.K (.ref f) = true) (hb : Binds X.K fd ps ds) (hd : Vals dvs ds) (hx : Passes CX X E)
    (hdb : (x == ("__debug__" : Str)) = false := by decide) : PE X (.Call (.Name x p) [] [] pos) (tCall sp dvs E tNil) := by
  intro pins s σ H Q I h
  refine wpAny_Call_Name_kw (ld_glob I hg hm ?_ hdb)
  exact PySem.W.callWith_K0 I.kIn hk (run_fn (us := []) F hr hb hd hx I .nil h)

/-- o.m(e, ..) -/
theorem pe_meth {pl : Sem Bool} (he : PE X o ta) (c : Cls X.K C) (hm : Meth X.K C m f) (F : FnOk X.prog X.w X.K X.mg X.base CX k f fd ps sp) (hr : Room k X.A) (hb : Binds X.K fd ps ds) (hd : Vals dvs ds) (hx : Passes CX X E) (ha : PA X (e :: es) t)
    (hst : starEach (e :: es) X.env = (false, eval e X.env) :: starEach es X.env := by rfl) (hpl : (backTo pos (starEach es X.env)).any (·.1) = false := by rfl)
    (ht : eval (.Call (.Attribute o m apos) (e :: es) [] pos) X.env = (do
      let ov ← eval o X.env
      standAt apos.atName
      let (f, first) ← holding [ov] (getMethod ov m pl)
      callWith pos f first (backTo pos (starEach (e :: es) X.env)) (backToKw pos (keywordEach [] X.env))) := by rfl) :
    PE X (.Call (.Attribute o m apos) (e :: es) [] pos) (tMeth C m sp dvs E ta t) := by
  intro pins s σ H Q I h
  refine PySem.W.methodCall_KW (pl := pl) (thn (he pins s σ H _ I h) fun u s1 ⟨x, H1, I1, rx, a, dx, fs, ex, ea, l, q⟩ => ?_) ht
  subst ex
  obtain rfl : u = Value.ref a := rx
  refine getmeth_ok I1 ea c hm l ?_
  refine PySem.W.callWith_K (first := [.ref a]) (h₀ := X.base) I.ok.mod.kin hm.kp (thn (ha pos pins s1 σ H1 _ I1 q) fun us s2 ⟨vs, H2, I2, r, q2⟩ => ⟨I2.kIn, ?_⟩) hst hpl
  exact run_fn (us := .ref a :: us) (vs := .ref a :: vs) F hr hb hd hx I2 (.cons rfl r) q2
/-- o.m() -/
theorem pe_meth0 {pl : Sem Bool} (he : PE X o ta) (c : Cls X.K C) (hm : Meth X.K C m f) (F : FnOk X.prog X.w X.K X.mg X.base CX k f fd ps sp) (hr : Room k X.A) (hb : Binds X.K fd ps ds) (hd : Vals dvs ds) (hx : Passes CX X E)
    (ht : eval (.Call (.Attribute o m apos) [] [] pos) X.env = (do
      let ov ← eval o X.env
      standAt apos.atName
      let (f, first) ← holding [ov] (getMethod ov m pl)
      callWith pos f first (backTo pos (starEach [] X.env)) (backToKw pos (keywordEach [] X.env))) := by rfl) :
    PE X (.Call (.Attribute o m apos) [] [] pos) (tMeth C m sp dvs E ta tNil) := by
  intro pins s σ H Q I h
  refine PySem.W.methodCall_KW (pl := pl) (thn (he pins s σ H _ I h) fun u s1 ⟨x, H1, I1, rx, a, dx, fs, ex, ea, l, q⟩ => ?_) ht
  subst ex
  obtain rfl : u = Value.ref a := rx
  refine getmeth_ok I1 ea c hm l ?_
  exact PySem.W.callWith_K0 (first := [.ref a]) I1.kIn hm.kp (run_fn (us := [.ref a]) (vs := [.ref a]) F hr hb hd hx I1 (.cons rfl .nil) q)

/-- what a class must have to be made -/
structure Mk (K : PySem.W.Frag) (C f : Addr) : Prop where
  makes : PySem.W.makesIn K C = true
  init : PySem.W.findIn K (.ref C) "__init__" = some (some (.ref f))
  fn : PySem.W.isFn K (.ref f) = true
  kp : PySem.W.keepIn K (.ref C) = true

theorem run_make {pins : List (Addr × Obj)} {σ : St} {H : Hp} {s : Shared} {Q : VK} {us : List Value} {vs : List V} (M : Mk X.K C f) (F : FnOk X.prog X.w X.K X.mg X.base CX k f fd ps sp) (hr : Room (k + 1) X.A) (hb : Binds X.K fd ps ds) (hd : Vals dvs ds)
    (hx : Passes CX X E) (I : Inv X pins σ H s) (r : Vals vs us)
    (h : ∀ x dx, H x = none → H dx = none → dx ≠ x → sp (.ref x :: (vs ++ dvs)) (upd (upd H dx (.own x)) x (.ins C dx [])) (fun v H2 => v = .non ∧ Q (.ref x) H2) E) :
    wpAny (model X.prog X.w) X.A (call (.ref C) us) (EP X pins σ Q) X.xe s := by
  have hq := h (s.heap.objs.size + 1) s.heap.objs.size (I.hok.fresh (Nat.le_succ _)) (I.hok.fresh (Nat.le_refl _)) (Nat.ne_of_lt (Nat.lt_succ_self _))
  have I2 := Inv.made (C := C) I
  have r2 : Vals (V.ref (s.heap.objs.size + 1) :: (vs ++ dvs)) (Value.ref (s.heap.objs.size + 1) :: (us ++ ds)) := .cons rfl (r.append hd)
  have hl : (Value.ref (s.heap.objs.size + 1) :: us ++ ds).length = ps.length := by
    have e := r2.length
    rw [F.len _ _ _ _ hq] at e
    exact e.symm
  refine wpAny_call (make_map (f := f) I.kIn M.makes M.init (beq_iff_eq.mp M.fn) (codeAny_mono (F.run _ X.stack _ _ ⟨Value.ref (s.heap.objs.size + 1) :: us, []⟩ (Value.ref (s.heap.objs.size + 1) :: (us ++ ds)) _ _ E (hr.make C us [])
    (I2.env0.make C us []) (hb _ (Value.ref (s.heap.objs.size + 1) :: us) I2.kIn hl) r2 hq) fun r s' hq' => ?_))
  cases r with
  | error e => exact hx pins σ _ _ e s' I2 hq'
  | ok fl =>
    cases fl with
    | ret u =>
      obtain ⟨v, H', I3, rv, ev, q3⟩ := I2.after hq'
      subst ev
      exact ⟨rv, ⟨V.ref (s.heap.objs.size + 1), H', I3, rfl, q3⟩⟩
    | next => exact False.elim hq'
    | brk => exact False.elim hq'
    | cont => exact False.elim hq'
theorem pe_make (M : Mk X.K C f) (F : FnOk X.prog X.w X.K X.mg X.base CX k f fd ps sp) (hr : Room (k + 1) X.A) (hg : Gl X x) (hm : X.mg x = some (.ref C)) (hb : Binds X.K fd ps ds) (hd : Vals dvs ds) (hx : Passes CX X E)
    (ha : PA X (e :: es) t) (hdb : (x == ("__debug__" : Str)) = false := by decide) (he : starEach (e :: es) X.env = (false, eval e X.env) :: starEach es X.env := by rfl) (hpl : (backTo pos (starEach es X.env)).any (·.1) = false := by rfl) :
    PE X (.Call (.Name x p) (e :: es) [] pos) (tMake C sp dvs E t) := by
  intro pins s σ H Q I h
  refine wpAny_Call_Name_kw (ld_glob I hg hm ?_ hdb)
  refine PySem.W.callWith_K (h₀ := X.base) I.ok.mod.kin M.kp (thn (ha pos pins s σ H _ I h) fun us s1 ⟨vs, H1, I1, r, q⟩ => ⟨I1.kIn, ?_⟩) he hpl
  exact run_make M F hr hb hd hx I1 r q
theorem pe_make0 (M : Mk X.K C f) (F : FnOk X.prog X.w X.K X.mg X.base CX k f fd ps sp) (hr : Room (k + 1) X.A) (hg : Gl X x) (hm : X.mg x = some (.ref C)) (hb : Binds X.K fd ps ds) (hd : Vals dvs ds) (hx : Passes CX X E)
    (hdb : (x == ("__debug__" : Str)) = false := by decide) : PE X (.Call (.Name x p) [] [] pos) (tMake C sp dvs E tNil) := by
  intro pins s σ H Q I h
  refine wpAny_Call_Name_kw (ld_glob I hg hm ?_ hdb)
  exact PySem.W.callWith_K0 I.kIn M.kp (run_make (us := []) M F hr hb hd hx I .nil h)
end

/-! ### keywords -/
/-- the values of the keywords, from the left -/
def PK (X : Cx) (kws : List Keyword) (t : TA) : Prop :=
  ∀ (pos : Pos) (pins : List (Addr × Obj)) (s : Shared) (σ : St) (H : Hp) (Q : List V → Hp → Prop), Inv X pins σ H s → t σ H Q → wpAny (model X.prog X.w) X.A (evalAll ((backToKw pos (keywordEach kws X.env)).map (·.2))) (AP X pins σ Q) X.xe s
section
variable {X : Cx} {CX : CXT} {k : Nat} {f C : Addr} {fd : FuncData} {ps ks : List Str} {sp : Sp} {E : XK} {x m : Str} {p pos apos kpos : Pos} {e o : Expr} {es : List Expr} {kws : List Keyword} {te ta : TE} {t tk : TA} {nm : Option Str}
theorem pk_nil : PK X [] tNil := fun _ _ _ _ H Q I h => wpAny_evalAll_nil ⟨[], H, I, .nil, h⟩
theorem pk_cons (ha : PE X e te) (hr : PK X kws t) : PK X (⟨nm, e, kpos⟩ :: kws) (tCons te t) := by
  intro pos pins s σ H Q I h
  show wpAny _ _ (evalAll ((do let v ← eval e X.env; standAt pos; pure v) :: (backToKw pos (keywordEach kws X.env)).map (·.2))) _ _ s
  refine wpAny_evalAll_cons (wpAny_bind (thn (ha pins s σ H _ I h) fun u s1 ⟨x, H1, I1, r1, q1⟩ => wpAny_bind (wpAny_standAt (wpAny_pure ?_))))
  exact thn (hr pos pins s1 σ H1 _ I1 q1) fun us s2 ⟨xs, H2, I2, r2, q2⟩ => ⟨x :: xs, H2, I2, .cons r1 r2, q2⟩

/-- how a call with keywords binds: g puts the positional values us and the keywords' values ws (names ks) in the parameters' order, defaults among them -/
structure KBinds (K : PySem.W.Frag) (fd : FuncData) (ps ks : List Str) (g : List Value → List Value → List Value) (gV : List V → List V → List V) : Prop where
  to : ∀ (s : Shared) (us ws : List Value), K.In s.heap → (g us ws).length = ps.length → BindsTo s fd ⟨us, ks.zip ws⟩ (ps.zip (g us ws))
  rel : ∀ {vs : List V} {us : List Value} {zs : List V} {ws : List Value}, Vals vs us → Vals zs ws → Vals (gV vs zs) (g us ws)
def tCallK (sp : Sp) (gV : List V → List V → List V) (E : XK) (t tk : TA) : TE := fun σ H Q => t σ H fun vs H1 => tk σ H1 fun zs H2 => sp (gV vs zs) H2 Q E
variable {g : List Value → List Value → List Value} {gV : List V → List V → List V}
theorem run_fnk {pins : List (Addr × Obj)} {σ : St} {H : Hp} {s : Shared} {Q : VK} {us ws : List Value} {vs zs : List V} (F : FnOk X.prog X.w X.K X.mg X.base CX k f fd ps sp) (hr : Room k X.A) (hb : KBinds X.K fd ps ks g gV) (hx : Passes CX X E)
    (I : Inv X pins σ H s) (r : Vals vs us) (rz : Vals zs ws) (h : sp (gV vs zs) H Q E) : wpAny (model X.prog X.w) X.A (call (.ref f) us (ks.zip ws)) (EP X pins σ Q) X.xe s := by
  have r2 := hb.rel r rz
  have hl : (g us ws).length = ps.length := by rw [← r2.length]; exact F.len _ _ _ _ h
  refine wpAny_call (codeAny_mono (F.run X.A X.stack s H ⟨us, ks.zip ws⟩ (g us ws) (gV vs zs) Q E hr I.env0 (hb.to s us ws I.kIn hl) r2 h) fun r s' hq => ?_)
  cases r with
  | error e => exact hx pins σ H s e s' I hq
  | ok fl =>
    cases fl with
    | ret u => exact I.after hq
    | next => exact False.elim hq
    | brk => exact False.elim hq
    | cont => exact False.elim hq
/-- f(e, .., k = v, ..) -/
theorem pe_callK (F : FnOk X.prog X.w X.K X.mg X.base CX k f fd ps sp) (hr : Room k X.A) (hg : Gl X x) (hm : X.mg x = some (.ref f)) (hk : PySem.W.keepIn X.K (.ref f) = true) (hb : KBinds X.K fd ps ks g gV) (hx : Passes CX X E)
    (ha : PA X (e :: es) t) (hkw : PK X kws tk) (hall : (backToKw pos (keywordEach kws X.env)).all (·.1.isSome) = true := by rfl) (hks : (backToKw pos (keywordEach kws X.env)).filterMap (·.1) = ks := by rfl)
    (hdb : (x == ("__debug__" : Str)) = false := by decide) (he : starEach (e :: es) X.env = (false, eval e X.env) :: starEach es X.env := by rfl)
    (hpl : ((backTo pos (starEach (e :: es) X.env)).any (·.1) || (backToKw pos (keywordEach kws X.env)).any (·.1.isNone)) = false := by rfl) :
    PE X (.Call (.Name x p) (e :: es) kws pos) (tCallK sp gV E t tk) := by
  intro pins s σ H Q I h
  refine wpAny_Call_Name_kw (ld_glob I hg hm ?_ hdb)
  refine PySem.W.callWith_KW (h₀ := X.base) I.ok.mod.kin hk hall (thn (ha pos pins s σ H _ I h) fun us s1 ⟨vs, H1, I1, r, q⟩ => ?_) hpl he
  refine thn (hkw pos pins s1 σ H1 _ I1 q) fun ws s2 ⟨zs, H2, I2, rz, q2⟩ => ⟨I2.kIn, ?_⟩
  rw [hks]
  exact run_fnk F hr hb hx I2 r rz q2
end

/-! ### a def's body keeps its promise -/
/-- names: the parameters first -/
structure FnScope (N P : List Str) (sc : Scope) : Prop where
  kind : sc.kind = .function
  co : sc.isCoroutine = false
  gen : sc.isGenerator = false
  nd : N.Nodup
  pre : N.take P.length = P
  par : ∀ x ∈ P, sc.names.lookup x = some .local ∨ sc.names.lookup x = some .cell
  nofree : ∀ y ∈ sc.names, y.2 ≠ .free

theorem bindL_out {kindOf : Str → Option NameKind} {x : Str} : ∀ {binds : List (Str × Value)} {m : Str → Option Value}, (∀ v, (x, v) ∉ binds) → bindL kindOf binds m x = m x
  | [], _, _ => rfl
  | (n, v) :: r, m, h => by
    unfold bindL
    rw [bindL_out fun w hw => h w (List.mem_cons_of_mem _ hw)]
    split
    · have : x ≠ n := by rintro rfl; exact h v List.mem_cons_self
      simp [this]
    · rfl
theorem bindC_out {kindOf : Str → Option NameKind} {x : Str} : ∀ {binds : List (Str × Value)} {m : Str → Option Value}, (∀ v, (x, v) ∉ binds) → bindC kindOf binds m x = m x
  | [], _, _ => rfl
  | (n, v) :: r, m, h => by
    unfold bindC
    rw [bindC_out fun w hw => h w (List.mem_cons_of_mem _ hw)]
    split
    · rfl
    · have : x ≠ n := by rintro rfl; exact h v List.mem_cons_self
      simp [this]
theorem bindL_get {kindOf : Str → Option NameKind} {x : Str} {v : Value} : ∀ {P : List Str} {vs : List Value} {i : Nat} {m : Str → Option Value}, P.Nodup → P[i]? = some x → vs[i]? = some v → kindOf x = some .local →
    bindL kindOf (P.zip vs) m x = some v
  | [], _, _, _, _, h, _, _ => by simp at h
  | _ :: _, [], _, _, _, _, h, _ => by simp at h
  | p :: P, w :: vs, 0, m, nd, h1, h2, hk => by
    simp at h1 h2; subst h1; subst h2
    show bindL kindOf ((p, w) :: P.zip vs) m p = _
    unfold bindL
    rw [bindL_out fun v hv => (List.nodup_cons.mp nd).1 (List.of_mem_zip hv).1, if_pos hk]
    simp
  | p :: P, w :: vs, i + 1, m, nd, h1, h2, hk => by
    show bindL kindOf ((p, w) :: P.zip vs) m x = _
    unfold bindL
    exact bindL_get (i := i) (List.nodup_cons.mp nd).2 (by simpa using h1) (by simpa using h2) hk
theorem bindC_get {kindOf : Str → Option NameKind} {x : Str} {v : Value} : ∀ {P : List Str} {vs : List Value} {i : Nat} {m : Str → Option Value}, P.Nodup → P[i]? = some x → vs[i]? = some v → kindOf x ≠ some .local →
    bindC kindOf (P.zip vs) m x = some v
  | [], _, _, _, _, h, _, _ => by simp at h
  | _ :: _, [], _, _, _, _, h, _ => by simp at h
  | p :: P, w :: vs, 0, m, nd, h1, h2, hk => by
    simp at h1 h2; subst h1; subst h2
    show bindC kindOf ((p, w) :: P.zip vs) m p = _
    unfold bindC
    rw [bindC_out fun v hv => (List.nodup_cons.mp nd).1 (List.of_mem_zip hv).1, if_neg hk]
    simp
  | p :: P, w :: vs, i + 1, m, nd, h1, h2, hk => by
    show bindC kindOf ((p, w) :: P.zip vs) m x = _
    unfold bindC
    exact bindC_get (i := i) (List.nodup_cons.mp nd).2 (by simpa using h1) (by simpa using h2) hk

/-- the names' values at the entry -/
def start (N : List Str) (vs : List V) : St := vs.map some ++ List.replicate (N.length - vs.length) none

/-- the context of a def's body, at its entry; an exception leaves the frame, then lies as CX says -/
def cxOf (CX : CXT) (P : Program) (w : World) (K : PySem.W.Frag) (mg : Str → Option Value) (base : Heap) (N : List Str) (qual : Str) (scope : Scope) (f : Addr) (cd : Value) (A : Around) (outer : List Env) (s : Shared) (H : Hp) (E : XK) : Cx where
  prog := P
  w := w
  K := K
  mg := mg
  base := base
  A := A.deeper (envOfC qual scope s.heap.objs.size f cd)
  N := N
  s₀ := s
  H₀ := H
  env := envOfC qual scope s.heap.objs.size f cd
  outer := outer
  stack := envOfC qual scope s.heap.objs.size f cd :: outer
  ex := []
  calm := true
  fn := fun _ => true
  pn := []
  xe := fun e s' => wpAny (model P w) (A.deeper (envOfC qual scope s.heap.objs.size f cd)) (leaving (envOfC qual scope s.heap.objs.size f cd) e) (fun _ s'' => CX outer H s E e s'') (fun e' s'' => CX outer H s E e' s'') s'

theorem cell_has {sc : Scope} {n : Nat} {x : Str} (h : sc.names.lookup x = some .cell) : ∃ c, (cellsFrom n sc.names []).lookup x = some c := by
  have q := PySem.W.cellsFrom_some sc.names n [] (.inl h)
  exact Option.isSome_iff_exists.mp q

theorem inv_start {CX : CXT} {P : Program} {w : World} {K : PySem.W.Frag} {mg : Str → Option Value} {base : Heap} {N ps : List Str} {qual : Str} {scope : Scope} {f : Addr} {cd : Value} {A : Around} {outer : List Env} {s s1 : Shared} {H : Hp} {E : XK} {us : List Value} {vs : List V}
    (S : FnScope N ps scope) (hd : A.handled = none) (e0 : Env0 P w K mg base A outer s H) (hl : vs.length = ps.length) (r : Vals vs us)
    (x : InCallC s s.heap.objs.size (bindL (envOfC qual scope s.heap.objs.size f cd).kindOf (ps.zip us) fun _ => none) (cellsFrom (s.heap.objs.size + 1) scope.names []) (bindC (envOfC qual scope s.heap.objs.size f cd).kindOf (ps.zip us) fun _ => none) s1) :
    Inv (cxOf CX P w K mg base N qual scope f cd A outer s H E) [] (start N vs) H s1 := by
  have hpl : ps.length ≤ N.length := by have := congrArg List.length S.pre; rw [List.length_take] at this; omega
  obtain ⟨h1, tk, rfl, hk⟩ := x.done
  have noA : ∀ b : Addr, b ∉ (cxOf CX P w K mg base N qual scope f cd A outer s H E).ex := fun b z => absurd (show b ∈ ([] : List Addr) from z) (by simp)
  refine ⟨⟨e0.mod, S.kind, rfl, rfl, Nat.le_refl _, fun y z c h1 h2 => ?_, fun y hy => ?_, fun y c _ h => ?_, fun _ => hd, Around.frames_deeper e0.frames, .inr ⟨rfl, rfl⟩, fun b z => absurd z (noA b), e0.bs, e0.bsz, fun b _ _ => noA b, fun b z => absurd z (noA b), e0.funs, e0.frf⟩,
    rfl, e0.bare, Un.kept hk, ⟨_, x.toInCall.ns, fun i y v h1 h2 h3 => ?_⟩, fun y c h => ⟨_, x.cell y c h⟩, e0.hok.fresh (Nat.le_refl _), fun y c h => ?_, fun p hp => absurd (show p ∈ ([] : List (Addr × Obj)) from hp) (by simp), e0.hok.kept hk, ?_⟩
  · exact name_of_addr x.apart (PySem.mem_of_lookup h1) (PySem.mem_of_lookup h2)
  · have hy : scope.names.lookup y = some .cell ∨ scope.names.lookup y = some .free := hy
    rcases hy with hy | hy
    · exact cell_has hy
    · exact absurd rfl (S.nofree _ (PySem.mem_of_lookup hy))
  · exact Nat.le_of_lt (x.above y c (PySem.mem_of_lookup h))
  · have hi : i < vs.length := by
      unfold start at h2
      by_cases hi : i < vs.length
      · exact hi
      · rw [List.getElem?_append_right (by simpa using hi)] at h2
        rw [List.getElem?_replicate] at h2
        split at h2 <;> cases h2
    have ha : vs[i]? = some v := by
      unfold start at h2
      rw [List.getElem?_append_left (by simpa using hi), List.getElem?_map] at h2
      cases e : vs[i]? with
      | none => rw [e] at h2; cases h2
      | some a => rw [e] at h2; cases h2; rfl
    obtain ⟨u, hu, rv⟩ := r.get ha
    have hp : ps[i]? = some y := by
      rw [← S.pre, List.getElem?_take_of_lt (by omega)]; exact h1
    have ndP : ps.Nodup := by rw [← S.pre]; exact S.nd.sublist (List.take_sublist _ _)
    refine ⟨u, rv, ?_⟩
    rcases S.par y (List.mem_of_getElem? hp) with k | k
    · exact .inl ⟨k, bindL_get ndP hp hu k⟩
    · obtain ⟨c, e⟩ := cell_has (n := s.heap.objs.size + 1) k
      refine .inr ⟨.inl k, c, e, ?_⟩
      have q := x.cell y c e
      rw [bindC_get ndP hp hu (by show scope.names.lookup y ≠ _; rw [k]; decide)] at q
      exact q
  · exact e0.hok.fresh (Nat.le_of_lt (x.above y c (PySem.mem_of_lookup h)))
  · unfold start
    show _ = N.length
    rw [List.length_append, List.length_map, List.length_replicate]
    omega

/-- THE RULE: a def (or a method) of the text, by its body. The body's reading t is chosen for each entry; it is run at the parameters' values -/
theorem fn_of {CX : CXT} {P : Program} {w : World} {K : PySem.W.Frag} {mg : Str → Option Value} {base : Heap} {k : Nat} {f : Addr} {name qual : Str} {params : Arguments} {body : List Stmt} {scope : Scope} {dV kV doc pm cdv ct oc : Value} {an od : Option Addr}
    {osl : Array (Option Value)} {N ps : List Str} {sp : Sp} (lk : K.lookup f = some ⟨oc, od, .func (PySem.W.fnOf name qual params body scope dV kV doc pm an cdv ct), osl⟩) (hcd : PySem.W.codeIn K cdv qual = true) (S : FnScope N ps scope)
    (len : ∀ vs H Q E, sp vs H Q E → vs.length = ps.length)
    (hbody : ∀ (A : Around) (outer : List Env) (s : Shared) (H : Hp) (vs : List V) (Q : VK) (E : XK), Room k (A.deeper (envOfC qual scope s.heap.objs.size f cdv)) → sp vs H Q E →
      ∃ t, PSs (cxOf CX P w K mg base N qual scope f cdv A outer s H E) body t ∧ t { nx := fun _ H' => Q .non H', rt := Q } (start N vs) H) :
    FnOk P w K mg base CX (k + 1) f (PySem.W.fnOf name qual params body scope dV kV doc pm an cdv ct) ps sp := by
  refine ⟨len, fun A outer s H args us vs Q E hr e0 hb r hsp => ?_⟩
  have hl := len _ _ _ _ hsp
  have KX : K.In s.heap := e0.mod.kin.keeps fun b o e => (e0.bs b o e).1
  have lim : s.heap.NoLimit := e0.mod.nolimit.keeps fun b o e => (e0.bs b o e).1
  have hkind : ∀ y ∈ ps.zip us, scope.names.lookup y.1 = some .local ∨ (scope.names.lookup y.1 = some .cell ∧ ((cellsFrom (s.heap.objs.size + 1) scope.names []).lookup y.1).isSome = true) := fun ⟨n, v⟩ hy => by
    rcases S.par n (List.of_mem_zip hy).1 with q | q
    · exact .inl q
    · exact .inr ⟨q, PySem.W.cellsFrom_some _ _ _ (.inl q)⟩
  refine codeAny_call_function hr.depth (KX _ _ lk) rfl S.co S.gen rfl (PySem.W.codeRec_of KX hcd) (hb _ _ _ _ ?_)
  refine wpAny_newFunctionEnv_cells S.kind hkind fun env he s1 x => ?_
  subst he
  refine ⟨lim.keeps x.toInCall.keep, codeAny_func ?_⟩
  obtain ⟨t, ht, hq⟩ := hbody A outer s H vs Q E (hr.deeper _) hsp
  have I : Inv (cxOf CX P w K mg base N qual scope f cdv A outer s H E) [] (start N vs) H s1 := inv_start S hr.hd e0 hl r x
  refine wpAny_mono (ht [] s1 (start N vs) H _ I hq) (fun fl s' hs => ?_) fun e s' hs => hs
  have fin : ∀ {σ' : St} {H' : Hp} {v : V} {u : Value}, Inv (cxOf CX P w K mg base N qual scope f cdv A outer s H E) [] σ' H' s' → RelV v u → Q v H' → CE outer P w H s Q u s' :=
    fun {σ' H' v u} J rv q => ⟨v, H', J.os, J.bare, J.base, J.hok, rv, q⟩
  cases fl with
  | ret u =>
    obtain ⟨v, σ', H', J, rv, q⟩ := hs
    exact fin J rv q
  | next =>
    obtain ⟨σ', H', J, q⟩ := hs
    exact fin (v := V.non) (u := Value.none) J rfl q
  | brk =>
    obtain ⟨_, _, _, q⟩ := hs
    exact False.elim q
  | cont =>
    obtain ⟨_, _, _, q⟩ := hs
    exact False.elim q
end L2

namespace L2
open PySem PySem.Spec PyProof.Rows
section
variable {X : Cx} {x : Str} {p pos : Pos} {e : Expr} {es : List Expr} {t : TA} {id T : String} {r : List V → Hp → VK → Prop}

def tCB (r : List V → Hp → VK → Prop) (t : TA) : TE := fun σ H Q => t σ H fun vs H1 => r vs H1 Q
/-- f(e, ..), f a built-in function -/
theorem pe_callB (hc : CallR X (.builtin id) r) (hg : Gl X x) (hm : X.mg x = none) (hv : bootBuiltins x = some (.builtin id)) (ha : PA X (e :: es) t) (hn : x ≠ "__name__" := by decide) (hdb : (x == ("__debug__" : Str)) = false := by decide)
    (he : starEach (e :: es) X.env = (false, eval e X.env) :: starEach es X.env := by rfl) (hpl : (backTo pos (starEach es X.env)).any (·.1) = false := by rfl) : PE X (.Call (.Name x p) (e :: es) [] pos) (tCB r t) := by
  intro pins s σ H Q I h
  refine wpAny_Call_Name_kw (ld_blt I hg hm hv ?_ hn hdb)
  exact PyProof.Rows.callWith_builtin1 (thn (ha pos pins s σ H _ I h) fun us s1 ⟨vs, H1, I1, r1, q1⟩ => hc pins s1 σ H1 vs us Q I1 r1 q1) he hpl
/-- T(e, ..), T a built-in type -/
theorem pe_callTy (hc : CallR X (.type T) r) (hg : Gl X x) (hm : X.mg x = none) (hv : bootBuiltins x = some (.type T)) (ha : PA X (e :: es) t) (hn : x ≠ "__name__" := by decide) (hdb : (x == ("__debug__" : Str)) = false := by decide)
    (he : starEach (e :: es) X.env = (false, eval e X.env) :: starEach es X.env := by rfl) (hpl : (backTo pos (starEach es X.env)).any (·.1) = false := by rfl) : PE X (.Call (.Name x p) (e :: es) [] pos) (tCB r t) := by
  intro pins s σ H Q I h
  refine wpAny_Call_Name_kw (ld_blt I hg hm hv ?_ hn hdb)
  exact PyProof.Rows.callWith_type1 (thn (ha pos pins s σ H _ I h) fun us s1 ⟨vs, H1, I1, r1, q1⟩ => hc pins s1 σ H1 vs us Q I1 r1 q1) he hpl
/-- T() -/
theorem pe_callTy0 (hc : CallR X (.type T) r) (hg : Gl X x) (hm : X.mg x = none) (hv : bootBuiltins x = some (.type T)) (hn : x ≠ "__name__" := by decide) (hdb : (x == ("__debug__" : Str)) = false := by decide) :
    PE X (.Call (.Name x p) [] [] pos) (tCB r tNil) := by
  intro pins s σ H Q I h
  refine wpAny_Call_Name_kw (ld_blt I hg hm hv ?_ hn hdb)
  exact PyProof.Rows.callWith_type0 (hc pins s σ H [] [] Q I .nil h)
end
end L2

namespace HT
open PySem PyProof.Rows

/-- t < u of tuples of ints -/
def lexLt : List Int → List Int → Bool
  | [], [] => false
  | [], _ :: _ => true
  | _ :: _, [] => false
  | x :: xs, y :: ys => if x = y then lexLt xs ys else decide (x < y)
theorem lexLt_cons (x y : Int) (xs ys : List Int) : lexLt (x :: xs) (y :: ys) = if x = y then lexLt xs ys else decide (x < y) := rfl
theorem lexLt_nil_nil : lexLt [] [] = false := rfl
theorem lexLt_nil_cons (y : Int) (ys : List Int) : lexLt [] (y :: ys) = true := rfl
theorem lexLt_cons_nil (x : Int) (xs : List Int) : lexLt (x :: xs) [] = false := rfl

theorem eqAt_int (A : Around) (s : Shared) (a : Int) (t : Tok) (c : Int) (u : Tok) : ∃ e, SeqAt.EqAt A s (.int a t) (.int c u) e ∧ (e = true ↔ a = c) :=
  ⟨(a == c), SeqAt.EqAt.int_int a t c u, by simp⟩
theorem rcLt_int (A : Around) (s : Shared) (a : Int) (t : Tok) (c : Int) (u : Tok) (prog : Program) (w : World) (E : Value → Shared → Prop) (Q : Value → Shared → Prop) (h : Q (.bool (decide (a < c))) s) :
    wpAny (model prog w) A (richCompare .Lt (.int a t) (.int c u)) Q E s :=
  (PyProof.Rows.lt_int h : wpAny (model prog w) A (compareOp .Lt (.int a t) (.int c u)) Q E s)

section
open PySem.SeqAt
open PySem.AutoSeq1 (wpAny_loadPart')
open PySem.MeetsSeq PySem.MeetsSeq2 PySem.MeetsSeq3

theorem tuple_lt_ints (l b : Addr) (items items2 : Array Value) (n n2 : Nat) (dd dd2 : Option Addr) (sl sl2 : Array (Option Value)) (ns ms : List Int) (hi : IntsAre items.toList ns) (hj : IntsAre items2.toList ms) :
    Meets (Builtin.«tuple.__lt__» ⟨[.ref l, .ref b], []⟩)
      (fun _ R s => s.heap.get? l = some { cls := .type "tuple", dict := dd, data := .seq items n, slots := sl } ∧ s.heap.get? b = some { cls := .type "tuple", dict := dd2, data := .seq items2 n2, slots := sl2 } ∧
        R (.ok (.ret (.bool (lexLt ns ms)))) s) :=
  .of_wp fun prog w A R s h => by
    obtain ⟨hp, g, d, tk, os⟩ := s; obtain ⟨hl, hb, h⟩ := h
    have f2 := AutoSeq1.sub_tuple_tuple
    have z1 : items.size = ns.length := by rw [← hi.length]; simp
    have z2 : items2.size = ms.length := by rw [← hj.length]; simp
    wp_walk using wpAny_loadPart' hl, wpAny_loadPart' hb, wpAny_forIn_list _ (fun rest b s' => b.1 = none ∧ s' = ⟨hp, g, d, tk, os⟩ ∧ ∃ (vs ws : List Value) (ns' ms' : List Int), rest = vs.zip ws ∧
      IntsAre vs ns' ∧ IntsAre ws ms' ∧ ns'.length + items2.size = ms'.length + items.size ∧ R (.ok (.ret (.bool (lexLt ns' ms')))) ⟨hp, g, d, tk, os⟩) _
    case turn =>
      rintro ⟨y, x⟩ rest b s' ⟨hb', rfl, vs, ws, ns', ms', hz, hvi, hwi, hlen, hR⟩
      cases hvi with
      | nil => rw [List.zip_nil_left] at hz; cases hz
      | cons a t hvi' =>
        cases hwi with
        | nil => rw [List.zip_nil_right] at hz; cases hz
        | cons c u hwi' =>
          rw [List.zip_cons_cons] at hz
          injection hz with hyx hrest
          injection hyx with hy hx
          subst hy hx
          rw [lexLt_cons] at hR
          simp only [List.length_cons] at hlen
          obtain ⟨e, he, hiff⟩ := eqAt_int A.in1 ⟨hp, g, d, tk, os⟩ a t c u
          refine wpAny_bind (he prog w _ _ ?_)
          cases e with
          | true =>
            rw [if_pos (hiff.mp rfl)] at hR
            wp_walk
            exact ⟨rfl, rfl, _, _, _, _, hrest, hvi', hwi', by omega, hR⟩
          | false =>
            rw [if_neg (fun q => absurd (hiff.mpr q) Bool.false_ne_true)] at hR
            have hri := rcLt_int A.in1 ⟨hp, g, d, tk, os⟩ a t c u prog w
            wp_walk using hri
            exact ⟨_, rfl, by simpa using hR⟩
    case fin =>
      rintro ⟨b1, b2⟩ s' ⟨hb', rfl, vs, ws, ns', ms', hz, hvi, hwi, hlen, hR⟩
      simp only at hb'
      subst hb'
      have hv : lexLt ns' ms' = decide (items.size < items2.size) := by
        cases hvi with
        | nil =>
          cases hwi with
          | nil =>
            simp only [List.length_nil] at hlen
            rw [lexLt_nil_nil]
            exact (decide_eq_false (by omega)).symm
          | cons c u hw =>
            simp only [List.length_nil, List.length_cons] at hlen
            rw [lexLt_nil_cons]
            exact (decide_eq_true (by omega)).symm
        | cons a t hv =>
          cases hwi with
          | nil =>
            simp only [List.length_nil, List.length_cons] at hlen
            rw [lexLt_cons_nil]
            exact (decide_eq_false (by omega)).symm
          | cons c u hw =>
            rw [List.zip_cons_cons] at hz
            cases hz
      rw [hv] at hR
      wp_walk
      exact ⟨_, rfl, by simpa [Builtin.Tuple.tupleCompareSizes] using hR⟩
    case h =>
      exact ⟨rfl, rfl, items.toList, items2.toList, ns, ms, rfl, hi, hj, by omega, h⟩
end

section
variable {prog : Program} {w : World} {A : Around} {E : Value → Shared → Prop} {s : Shared}

theorem lt_tupInts {l b : Addr} {items items2 : Array Value} {ns ms : List Int} {Q : Value → Shared → Prop} (hl : IsTup s.heap l items) (hb : IsTup s.heap b items2) (hi : IntsAre items.toList ns) (hj : IntsAre items2.toList ms)
    (hu : A.units < cLine) (h : Q (.bool (lexLt ns ms)) s) : wpAny (model prog w) A (compareOp .Lt (.ref l) (.ref b)) Q E s := by
  obtain ⟨⟨cls, dd, data, sl⟩, ho, hc, n, hd⟩ := id hl
  obtain ⟨⟨cls2, dd2, data2, sl2⟩, ho2, hc2, n2, hd2⟩ := id hb
  simp only at hc hd hc2 hd2
  subst hc hd hc2 hd2
  exact richCompare_meets_room (op := .Lt) ⟨_, ho, rfl⟩ ⟨_, ho2, rfl⟩ PySem.F.slot_tuple_lt PySem.F.entry_tuple_lt (PySem.F.args_tuple_lt_2 _ _) (tuple_lt_ints l b items items2 n n2 dd dd2 sl sl2 ns ms hi hj)
    ⟨ho, ho2, show Value.bool (lexLt ns ms) ≠ Value.notImplemented ∧ Q (.bool (lexLt ns ms)) s from ⟨(fun x => nomatch x), h⟩⟩ hu

/-- t + u, t not empty -/
theorem cat_tup {t b : Addr} {vs ws : List Value} {Q : Value → Shared → Prop} (ht : IsTup s.heap t vs.toArray) (hb : IsTup s.heap b ws.toArray) (hv : vs ≠ [])
    (h1 : ws = [] → Q (.ref t) s) (h2 : ws ≠ [] → Q (.ref s.heap.objs.size) { s with heap := s.heap.push { cls := .type "tuple", data := .seq (vs ++ ws).toArray } })
    (hsz : vs.length + ws.length ≤ sizeLine) : wpAny (model prog w) A (binaryOp .Add (.ref t) (.ref b)) Q E s := by
  obtain ⟨⟨cls, dd, data, sl⟩, ho, hc, n, hd⟩ := id ht
  obtain ⟨⟨cls2, dd2, data2, sl2⟩, ho2, hc2, n2, hd2⟩ := id hb
  simp only at hc hd hc2 hd2
  subst hc hd hc2 hd2
  have e : vs.toArray ++ ws.toArray = (vs ++ ws).toArray := by simp
  by_cases hw : ws = []
  · exact concat_meets ⟨_, ho, rfl⟩ ⟨_, ho2, rfl⟩ noFill_tuple_add seq_tuple_add PySem.F.slot_tuple_add PySem.F.entry_tuple_add (PySem.F.args_tuple_add_2 _ _)
      (tuple_addW1 t b vs.toArray ws.toArray n n2 dd dd2 sl sl2 (by simpa using hv) (by simp [hw])) ⟨ho, ho2, h1 hw⟩
  · refine concat_meets ⟨_, ho, rfl⟩ ⟨_, ho2, rfl⟩ noFill_tuple_add seq_tuple_add PySem.F.slot_tuple_add PySem.F.entry_tuple_add (PySem.F.args_tuple_add_2 _ _)
      (tuple_addW2 t b vs.toArray ws.toArray n n2 dd dd2 sl sl2 (by simpa using hv) (by simpa using hw) (by rw [List.size_toArray, List.size_toArray]; exact hsz)) ⟨ho, ho2, ?_⟩
    rw [e]
    exact h2 hw

/-! ### t[a:b], not the whole -/
/-- a slice's bound as a place among n (d where it is left out) -/
def sIx (n d : Nat) : Option Int → Nat
  | none => d
  | some v => if v < 0 then (v + (n : Int)).toNat else min v.toNat n
theorem sIx_none (n d : Nat) : sIx n d none = d := rfl
theorem sIx_nat (n d k : Nat) : sIx n d (some (k : Int)) = min k n := by
  show (if (k : Int) < 0 then ((k : Int) + (n : Int)).toNat else min (k : Int).toNat n) = min k n
  rw [if_neg (by omega), Int.toNat_natCast]
theorem sIx_le (n d : Nat) (hd : d ≤ n) (o : Option Int) : sIx n d o ≤ n := by
  cases o with
  | none => exact hd
  | some v =>
    show (if v < 0 then (v + (n : Int)).toNat else min v.toNat n) ≤ n
    by_cases hv : v < 0
    · rw [if_pos hv]; omega
    · rw [if_neg hv]; exact Nat.min_le_right _ _
theorem clip_eq (v : Int) (n d : Nat) : (if v < 0 then max (v + (n : Int)) 0 else min v (n : Int)) = ((sIx n d (some v) : Nat) : Int) := by
  show (if v < 0 then max (v + (n : Int)) 0 else min v (n : Int)) = (((if v < 0 then (v + (n : Int)).toNat else min v.toNat n) : Nat) : Int)
  by_cases hv : v < 0
  · simp only [if_pos hv]; omega
  · simp only [if_neg hv]; omega
theorem adjust_gen (lo hi : Option Int) (n : Nat) : Builtin.Slice.sliceAdjust lo hi 1 (n : Int) = (((sIx n 0 lo : Nat) : Int), ((sIx n n hi : Nat) : Int)) := by
  have h1 : ¬ ((1 : Int) < 0) := by omega
  unfold Builtin.Slice.sliceAdjust
  simp only [h1, if_false]
  refine Prod.ext ?_ ?_
  · cases lo with
    | none => rfl
    | some v => exact clip_eq v n 0
  · cases hi with
    | none => rfl
    | some v => exact clip_eq v n n
theorem places_gen (i j : Nat) : Builtin.Slice.slicePlaces (i : Int) (j : Int) 1 = j - i := by
  unfold Builtin.Slice.slicePlaces
  have h1 : (1 : Int) > 0 := by omega
  simp only [h1, if_true, Int.ediv_one]
  split <;> omega
theorem slicePart_ {v : Value} {o : Option Int} {Q : Option Int → Shared → Prop} (p : IsPart v o) (h : Q o s) : wpAny (model prog w) A (Builtin.Slice.slicePartIndex v) Q E s := by
  cases p with
  | none => exact slicePart_none h
  | int i t => exact slicePart_int h
theorem sliceApplied_gen {sl : Addr} {vl vu : Value} {lo hi : Option Int} {n : Nat} {Q : Int × Int × Nat → Shared → Prop} (hs : s.heap.IsSliceOf sl vl vu .none) (pl : IsPart vl lo) (pu : IsPart vu hi)
    (h : Q (((sIx n 0 lo : Nat) : Int), 1, sIx n n hi - sIx n 0 lo) s) : wpAny (model prog w) A (Builtin.Slice.sliceApplied (.ref sl) (pure (n : Int))) Q E s := by
  obtain ⟨os, hos, hcs, hds⟩ := id hs
  unfold Builtin.Slice.sliceApplied Builtin.Slice.sliceFields
  refine wpAny_bind (wpAny_bind (wpAny_field hos hds (x := vl) rfl (wpAny_bind (wpAny_field hos hds (x := vu) rfl (wpAny_bind (wpAny_field hos hds (x := .none) rfl (wpAny_pure ?_)))))))
  refine wpAny_bind (slicePart_none ?_)
  show wpAny _ _ (if ((1 : Int) == 0) = true then _ else _) _ _ s
  rw [if_neg (by decide)]
  refine wpAny_bind (slicePart_ pl (wpAny_bind (slicePart_ pu (wpAny_bind (wpAny_pure ?_)))))
  show wpAny _ _ (match Builtin.Slice.sliceAdjust lo hi 1 (n : Int) with | (lo, hi) => pure (lo, (1 : Int), Builtin.Slice.slicePlaces lo hi 1)) _ _ s
  rw [adjust_gen lo hi n]
  show wpAny _ _ (pure (((sIx n 0 lo : Nat) : Int), (1 : Int), Builtin.Slice.slicePlaces ((sIx n 0 lo : Nat) : Int) ((sIx n n hi : Nat) : Int) 1)) _ _ s
  rw [places_gen]
  exact wpAny_pure h
theorem pick_gen (xs : Array Value) (i k : Nat) : ((List.range k).filterMap fun (m : Nat) => xs[((i : Int) + (m : Int) * 1).toNat]?).toArray = ((xs.toList.drop i).take k).toArray := by
  have e : (fun (m : Nat) => xs[((i : Int) + (m : Int) * 1).toNat]?) = fun m => xs[i + m]? := by
    funext m
    have : ((i : Int) + (m : Int) * 1).toNat = i + m := by omega
    rw [this]
  rw [e]
  have := pick_run xs i k
  rw [List.filterMap_map] at this
  have e2 : ((fun x => xs[x]?) ∘ fun x => i + x) = fun m => xs[i + m]? := rfl
  rw [e2] at this
  rw [this]

theorem getItem_tuple_cut {t sl : Addr} {items : Array Value} {vl vu : Value} {lo hi : Option Int} {Q : Value → Shared → Prop} (ht : IsTup s.heap t items) (hs : s.heap.IsSliceOf sl vl vu .none) (pl : IsPart vl lo) (pu : IsPart vu hi)
    (hw : ¬ (sIx items.size 0 lo = 0 ∧ sIx items.size items.size hi = items.size))
    (h : Q (.ref s.heap.objs.size) { s with heap := s.heap.push { cls := .type "tuple", data := .seq ((items.toList.drop (sIx items.size 0 lo)).take (sIx items.size items.size hi - sIx items.size 0 lo)).toArray } })
    (hsz : items.size ≤ sizeLine) : wpAny (model prog w) A (getItem (.ref t) (.ref sl)) Q E s := by
  have htake : sizeOk (.seq ((items.toList.drop (sIx items.size 0 lo)).take (sIx items.size items.size hi - sIx items.size 0 lo)).toArray) := by
    show ((items.toList.drop (sIx items.size 0 lo)).take (sIx items.size items.size hi - sIx items.size 0 lo)).toArray.size ≤ sizeLine
    rw [List.size_toArray, List.length_take, List.length_drop, Array.length_toList]
    omega
  have hj : sIx items.size items.size hi ≤ items.size := sIx_le _ _ (Nat.le_refl _) hi
  obtain ⟨os, hos, hcs, hds⟩ := id hs
  have hTs : s.TypeIs (.ref sl) "slice" := ⟨os, hos, hcs⟩
  unfold getItem
  try with_reducible refine wpAny_holding ?_
  first | refine wpAny_bind (wpAny_pure ?_) | skip
  refine wpAny_bind (wpAny_sequenceKey ht.typeIs (by decide) ?_)
  refine wpAny_bind (wpAny_callSpecial?_slot (name := Str.ofString "__getitem__") ht.typeIs PyProof.Rows.slot_tuple_getitem
    (wpAny_call_entry PyProof.Rows.slot_tuple_getitem ht.typeIs entry_tuple_getitem ?_ (args_tuple_getitem _ _)))
  show wpAny _ _ (Builtin.Tuple.tupleItemsOf (.ref t) >>= _) _ _ s
  refine wpAny_bind (tupleItemsOf_ ht ?_)
  refine wpAny_bind (wpAny_typeOf hTs ?_)
  rw [if_pos (by decide)]
  refine wpAny_bind (sliceApplied_gen hs pl pu ?_)
  have hno : ¬ ((((sIx items.size 0 lo : Nat) : Int) == 0 && (1 : Int) == 1 && (sIx items.size items.size hi - sIx items.size 0 lo) == items.size) = true) := by
    intro q
    rw [Bool.and_eq_true, Bool.and_eq_true] at q
    have q1 : ((sIx items.size 0 lo : Nat) : Int) = 0 := eq_of_beq q.1.1
    have q2 : sIx items.size items.size hi - sIx items.size 0 lo = items.size := eq_of_beq q.2
    exact hw ⟨by omega, by omega⟩
  show wpAny _ _ (if (((sIx items.size 0 lo : Nat) : Int) == 0 && (1 : Int) == 1 && (sIx items.size items.size hi - sIx items.size 0 lo) == items.size) = true then _ else _) _ _ s
  rw [if_neg hno, pick_gen]
  first
    | exact wpAny_bind (m := Builtin.Tuple.tupleExact _) (wpAny_newObj_type (wpAny_pure ⟨_, rfl, wpAny_pure h⟩) htake)
    | exact wpAny_bind (m := Builtin.Tuple.tupleExact _) (wpAny_newObj_type (wpAny_bind (wpAny_pure (wpAny_pure ⟨_, rfl, wpAny_pure h⟩))) htake)
    | exact wpAny_bind (wpAny_bind (m := Builtin.Tuple.tupleExact _) (wpAny_newObj_type (wpAny_pure (wpAny_pure ⟨_, rfl, wpAny_pure h⟩)) htake))
    | exact wpAny_bind (wpAny_bind (m := Builtin.Tuple.tupleExact _) (wpAny_newObj_type (wpAny_pure ⟨_, rfl, wpAny_pure h⟩) htake))
end
end HT

namespace L2
open PySem PySem.Spec PyProof.Rows

/-! ### the parts of a slice -/
abbrev TO := St → Hp → (Option Int → Hp → Prop) → Prop
/-- a slice's part (left out, or an int) -/
def PO (X : Cx) (e : Option Expr) (t : TO) : Prop :=
  ∀ (pins : List (Addr × Obj)) (s : Shared) (σ : St) (H : Hp) (Q : Option Int → Hp → Prop), Inv X pins σ H s → t σ H Q →
    wpAny (model X.prog X.w) X.A (evalPart e X.env) (fun u s' => ∃ o H', Inv X pins σ H' s' ∧ IsPart u o ∧ Q o H') X.xe s
def tNoPart : TO := fun _ H Q => Q none H
def tPart (t : TE) : TO := fun σ H Q => t σ H fun x H1 => ∃ i, x = .int i ∧ Q (some i) H1

theorem intsAre_of {ns : List Int} : ∀ {us : List Value}, Vals (ns.map V.int) us → IntsAre us ns := by
  induction ns with
  | nil => intro us r; rw [List.map_nil] at r; cases r; exact .nil
  | cons n ns ih =>
    intro us r
    rw [List.map_cons] at r
    cases r with
    | cons r1 r2 =>
      obtain ⟨t, e⟩ := r1
      subst e
      exact .cons n t (ih r2)

section
variable {X : Cx} {e : Expr} {te : TE} {lo hi : Option Expr} {tl th : TO} {pos p2 : Pos}

theorem po_none : PO X none tNoPart := by
  intro pins s σ H Q I h
  rw [evalPart_none]
  exact wpAny_pure ⟨none, H, I, .none, h⟩
theorem po_some (h : PE X e te) : PO X (some e) (tPart te) := by
  intro pins s σ H Q I hw
  rw [evalPart_some]
  refine thn (h pins s σ H _ I hw) fun u s1 ⟨x, H1, I1, r1, q1⟩ => ?_
  obtain ⟨i, rfl, q⟩ := q1
  obtain ⟨t, rfl⟩ := r1
  exact ⟨some i, H1, I1, .int i t, q⟩

/-- what a slice of a value is, by values: the slice object stands at sl -/
def SlR (X : Cx) (r : V → Option Int → Option Int → Hp → VK → Prop) : Prop :=
  ∀ (pins : List (Addr × Obj)) (s : Shared) (σ : St) (H : Hp) (x : V) (v vl vu : Value) (lo hi : Option Int) (sl : Addr) (Q : VK), Inv X pins σ H s → RelV x v → s.heap.IsSliceOf sl vl vu .none → IsPart vl lo → IsPart vu hi → r x lo hi H Q →
    ∃ T id, typeLookup (.type T) "__getitem__" = pure (some (.builtin id)) ∧ s.TypeIs v T ∧ wpAny (model X.prog X.w) X.A (getItem v (.ref sl)) (EP X pins σ Q) X.xe s
theorem SlR.or {r r' : V → Option Int → Option Int → Hp → VK → Prop} (h : SlR X r) (h' : SlR X r') : SlR X (fun x lo hi H Q => r x lo hi H Q ∨ r' x lo hi H Q) := by
  intro pins s σ H x v vl vu lo hi sl Q I rx hs pl pu q
  rcases q with q | q
  · exact h pins s σ H x v vl vu lo hi sl Q I rx hs pl pu q
  · exact h' pins s σ H x v vl vu lo hi sl Q I rx hs pl pu q
def tSl (r : V → Option Int → Option Int → Hp → VK → Prop) (te : TE) (tl th : TO) : TE := fun σ H Q => te σ H fun x H1 => tl σ H1 fun l H2 => th σ H2 fun u H3 => r x l u H3 Q
/-- a[lo:hi], any a -/
theorem pe_slice {r : V → Option Int → Option Int → Hp → VK → Prop} (hr : SlR X r) (he : PE X e te) (hl : PO X lo tl) (hu : PO X hi th) : PE X (.Subscript e (.Slice lo hi none p2) pos) (tSl r te tl th) := by
  intro pins s σ H Q I h
  refine Subscript_ (thn (he pins s σ H _ I h) fun v s1 ⟨x, H1, I1, r1, q1⟩ => ?_)
  refine wpAny_Slice (thn (hl pins s1 σ H1 _ I1 q1) fun vl s2 ⟨l, H2, I2, pl, q2⟩ => thn (hu pins s2 σ H2 _ I2 q2) fun vu s3 ⟨u, H3, I3, pu, q3⟩ => ?_)
  rw [evalPart_none]
  refine wpAny_pure ?_
  have I4 : Inv X pins σ H3 { s3 with heap := s3.heap.push { cls := .type "slice", data := .fields #[vl, vu, .none] } } := I3.kept (t' := s3.toks) fun b ob q => Heap.get?_push_of_some _ q
  obtain ⟨T, id, hT, ht, hg⟩ := hr pins { s3 with heap := s3.heap.push { cls := .type "slice", data := .fields #[vl, vu, .none] } } σ H3 x v vl vu l u s3.heap.objs.size Q I4 r1 (Heap.IsSliceOf.new ..) pl pu q3
  show wpAny (model X.prog X.w) X.A (subscriptTail e (.Slice lo hi none p2) v (.ref s3.heap.objs.size)) (EP X pins σ Q) X.xe { s3 with heap := s3.heap.push { cls := .type "slice", data := .fields #[vl, vu, .none] } }
  exact tail_any (ops := [.ref s3.heap.objs.size, v]) ht hT hg (by with_unfolding_all rfl)

/-- the items of xs[lo:hi] -/
def cutV (xs : List V) (lo hi : Option Int) : List V := (xs.drop (HT.sIx xs.length 0 lo)).take (HT.sIx xs.length xs.length hi - HT.sIx xs.length 0 lo)
theorem cutV_length (xs : List V) (lo hi : Option Int) : (cutV xs lo hi).length ≤ xs.length := by
  unfold cutV
  rw [List.length_take, List.length_drop]
  omega
/-- t[lo:hi], not the whole of it (the whole would be t itself) -/
def rSlT (K : PySem.W.Frag) : V → Option Int → Option Int → Hp → VK → Prop := fun x lo hi H Q => ∃ a xs, x = .ref a ∧ SqT K H a xs ∧
  ¬ (HT.sIx xs.length 0 lo = 0 ∧ HT.sIx xs.length xs.length hi = xs.length) ∧ ∀ p, H p = none → Q (.ref p) (upd H p (.tup (cutV xs lo hi)))
theorem sl_tup : SlR X (rSlT X.K) := by
  intro pins s σ H x v vl vu lo hi sl Q I rx hs pl pu h
  obtain ⟨a, xs, rfl, hx, hw, q⟩ := h
  cases rx
  obtain ⟨its, r, ht, hz⟩ := I.tuple hx
  have hlen : its.toArray.size = xs.length := by rw [List.size_toArray]; exact r.length.symm
  refine ⟨"tuple", _, PyProof.Rows.slot_tuple_getitem.lookup, ht.typeIs, ?_⟩
  refine HT.getItem_tuple_cut ht hs pl pu (by rw [hlen]; exact hw) ?_ (by rw [hlen]; exact hz)
  rw [hlen]
  refine ⟨.ref s.heap.objs.size, _, I.laid (t' := s.toks) (o := .tup (cutV xs lo hi)) (fun b ob q => Heap.get?_push_of_some _ q) (Nat.le_refl _) ?_, rfl, q _ (I.hok.fresh (Nat.le_refl _))⟩
  exact ⟨Nat.le_trans (cutV_length xs lo hi) hz, _, (r.drop (HT.sIx xs.length 0 lo)).take (HT.sIx xs.length xs.length hi - HT.sIx xs.length 0 lo), IsTup.new _ _⟩

/-! ### t < u, t + u -/
def rLtT (K : PySem.W.Frag) : R2 := fun x y H Q => ∃ a b ns ms, x = .ref a ∧ y = .ref b ∧ SqT K H a (ns.map V.int) ∧ SqT K H b (ms.map V.int) ∧ Q (.bl (HT.lexLt ns ms)) H
theorem op_ltT (hu : X.A.units < cLine) : OpR X (compareOp .Lt) (rLtT X.K) := by
  intro pins s σ H x y v u Q I rx ry h
  obtain ⟨a, b, ns, ms, rfl, rfl, ha, hb, q⟩ := h
  cases rx
  cases ry
  obtain ⟨its, r1, p1, _⟩ := I.tuple ha
  obtain ⟨its2, r2, p2, _⟩ := I.tuple hb
  have i1 : IntsAre its.toArray.toList ns := intsAre_of r1
  have i2 : IntsAre its2.toArray.toList ms := intsAre_of r2
  exact HT.lt_tupInts p1 p2 i1 i2 hu ⟨.bl (HT.lexLt ns ms), H, I, rfl, q⟩
/-- t + u, t not empty: u empty gives t itself -/
def rCatT (K : PySem.W.Frag) : R2 := fun x y H Q => ∃ a b xs ys, x = .ref a ∧ y = .ref b ∧ SqT K H a xs ∧ SqT K H b ys ∧ xs ≠ [] ∧ xs.length + ys.length ≤ sizeLine ∧
  (ys = [] → Q (.ref a) H) ∧ (ys ≠ [] → ∀ p, H p = none → Q (.ref p) (upd H p (.tup (xs ++ ys))))
theorem Vals.nil_iff {xs : List V} {us : List Value} (r : Vals xs us) : us = [] ↔ xs = [] := by
  cases r with
  | nil => simp
  | cons _ _ => simp
theorem op_catT : OpR X (binaryOp .Add) (rCatT X.K) := by
  intro pins s σ H x y v u Q I rx ry h
  obtain ⟨a, b, xs, ys, rfl, rfl, ha, hb, hx, hz, q1, q2⟩ := h
  cases rx
  cases ry
  obtain ⟨its, r1, p1, _⟩ := I.tuple ha
  obtain ⟨its2, r2, p2, _⟩ := I.tuple hb
  refine HT.cat_tup p1 p2 (fun z => hx (r1.nil_iff.mp z)) (fun z => ⟨.ref a, H, I, rfl, q1 (r2.nil_iff.mp z)⟩) (fun z => ?_) (by rw [← r1.length, ← r2.length]; exact hz)
  refine ⟨.ref s.heap.objs.size, _, I.laid (t' := s.toks) (o := .tup (xs ++ ys)) (fun b ob q => Heap.get?_push_of_some _ q) (Nat.le_refl _) ?_, rfl, q2 (fun w => z (r2.nil_iff.mpr w)) _ (I.hok.fresh (Nat.le_refl _))⟩
  exact ⟨by rw [List.length_append]; exact hz, _, r1.append r2, IsTup.new _ _⟩
/-- tuple(t) -/
theorem call_tupleT : CallR X (.type "tuple") (fun xs H Q => ∃ a ys, xs = [.ref a] ∧ SqT X.K H a ys ∧ Q (.ref a) H) := by
  intro pins s σ H xs us Q I r h
  obtain ⟨a, ys, rfl, ha, q⟩ := h
  obtain ⟨u, rfl, ru⟩ := vals1 r
  cases ru
  obtain ⟨its, _, p1, _⟩ := I.tuple ha
  exact call_tuple_same (items := its.toArray) p1 ⟨.ref a, H, I, rfl, q⟩
end
end L2

namespace L2
open PySem PySem.Spec PyProof.Rows

/-! ### places -/
/-- the place that an index of any sign means -/
def ixN (n : Nat) (i : Int) : Option Nat := if 0 ≤ i then (if i < n then some i.toNat else none) else if -(n : Int) ≤ i then some (i + n).toNat else none
def atI {α : Type} (xs : List α) (i : Int) : Option α := (ixN xs.length i).bind fun j => xs[j]?
theorem ixN_seq {n : Nat} {i : Int} {j : Nat} (h : ixN n i = some j) : seqIndex? i n = some j ∧ j < n ∧ -(n : Int) ≤ i ∧ i < n := by
  unfold ixN at h
  by_cases h0 : 0 ≤ i
  · rw [if_pos h0] at h
    by_cases h1 : i < n
    · rw [if_pos h1] at h
      have e : i.toNat = j := Option.some.inj h
      exact ⟨by rw [seqIndex_of h0 h1, e], by omega, by omega, h1⟩
    · rw [if_neg h1] at h; cases h
  · rw [if_neg h0] at h
    by_cases h1 : -(n : Int) ≤ i
    · rw [if_pos h1] at h
      have e : (i + n).toNat = j := Option.some.inj h
      exact ⟨by rw [seqIndex_neg (by omega) h1, e], by omega, h1, by omega⟩
    · rw [if_neg h1] at h; cases h
theorem atI_get {α : Type} {xs : List α} {i : Int} {v : α} (h : atI xs i = some v) : ∃ j, seqIndex? i xs.length = some j ∧ xs[j]? = some v ∧ j < xs.length ∧ -(xs.length : Int) ≤ i ∧ i < xs.length := by
  unfold atI at h
  cases e : ixN xs.length i with
  | none => rw [e] at h; cases h
  | some j =>
    rw [e] at h
    obtain ⟨h1, h2, h3, h4⟩ := ixN_seq e
    exact ⟨j, h1, h, h2, h3, h4⟩
theorem atI_nat {α : Type} {xs : List α} {j : Nat} {v : α} (h : xs[j]? = some v) : atI xs (j : Int) = some v := by
  have hj : j < xs.length := (List.getElem?_eq_some_iff.mp h).1
  have e : ixN xs.length (j : Int) = some j := by
    unfold ixN
    rw [if_pos (by omega), if_pos (by omega)]; simp
  unfold atI; rw [e]; exact h
theorem atI_last {α : Type} (xs : List α) (v : α) : atI (xs ++ [v]) (-1) = some v := by
  have hl : (xs ++ [v]).length = xs.length + 1 := by simp
  have e : ixN (xs ++ [v]).length (-1) = some xs.length := by
    unfold ixN
    rw [hl, if_neg (by decide), if_pos (by omega)]
    congr 1
    omega
  unfold atI
  rw [e]
  show (xs ++ [v])[xs.length]? = some v
  simp

/-! ### what may be subscripted -/
/-- what stands as an index of a plain subscript -/
def PlainIx (b : Expr) : Prop := ∀ o i, subscripted b false o i = operate [o, i] (getItem o i)
/-- a subscript by values -/
def IxR (X : Cx) (r : R2) : Prop :=
  ∀ (value slice : Expr) (pins : List (Addr × Obj)) (s : Shared) (σ : St) (H : Hp) (x y : V) (v u : Value) (Q : VK), Inv X pins σ H s → RelV x v → RelV y u → r x y H Q →
    subscripted slice false v u = operate [v, u] (getItem v u) → wpAny (model X.prog X.w) X.A (subscriptTail value slice v u) (EP X pins σ Q) X.xe s
/-- a call of a builtin's method by values: the receiver, the arguments -/
def MtR (X : Cx) (id : String) (r : V → List V → Hp → VK → Prop) : Prop :=
  ∀ (pins : List (Addr × Obj)) (s : Shared) (σ : St) (H : Hp) (x : V) (xs : List V) (v : Value) (us : List Value) (Q : VK), Inv X pins σ H s → RelV x v → Vals xs us → r x xs H Q →
    wpAny (model X.prog X.w) X.A (call (.builtin id) (v :: us)) (EP X pins σ Q) X.xe s
section
variable {X : Cx} {a b : Expr} {ta tb : TE} {pos : Pos}
theorem IxR.or {r r' : R2} (h : IxR X r) (h' : IxR X r') : IxR X (fun x y H Q => r x y H Q ∨ r' x y H Q) := by
  intro value slice pins s σ H x y v u Q I rx ry q hs
  rcases q with q | q
  · exact h value slice pins s σ H x y v u Q I rx ry q hs
  · exact h' value slice pins s σ H x y v u Q I rx ry q hs
theorem MtR.or {id : String} {r r' : V → List V → Hp → VK → Prop} (h : MtR X id r) (h' : MtR X id r') : MtR X id (fun x xs H Q => r x xs H Q ∨ r' x xs H Q) := by
  intro pins s σ H x xs v us Q I rx rs q
  rcases q with q | q
  · exact h pins s σ H x xs v us Q I rx rs q
  · exact h' pins s σ H x xs v us Q I rx rs q
/-- a[b] -/
theorem pe_ix {r : R2} (hr : IxR X r) (ha : PE X a ta) (hb : PE X b tb) (hs : PlainIx b) : PE X (.Subscript a b pos) (tOp r ta tb) := by
  intro pins s σ H Q I h
  exact Subscript_ (binT ha hb I h fun v u s2 x y H2 I2 rx ry q => hr a b pins s2 σ H2 x y v u Q I2 rx ry q (hs _ _))

def rIxL (K : PySem.W.Frag) : R2 := fun x y H Q => ∃ p xs i v, x = .ref p ∧ y = .int i ∧ SqL K H p xs ∧ atI xs i = some v ∧ Q v H
def rIxT (K : PySem.W.Frag) : R2 := fun x y H Q => ∃ p xs i v, x = .ref p ∧ y = .int i ∧ SqT K H p xs ∧ atI xs i = some v ∧ Q v H
def rIxS : R2 := fun x y H Q => ∃ z i c, x = .str z ∧ y = .int i ∧ z.length ≤ sizeLine ∧ atI z.cps.toList i = some c ∧ Q (.str ⟨#[c]⟩) H
theorem ix_list : IxR X (rIxL X.K) := by
  intro value slice pins s σ H x y v u Q I rx ry h hs
  obtain ⟨p, xs, i, z, rfl, rfl, hq, he, q⟩ := h
  cases rx
  obtain ⟨t, rfl⟩ := ry
  obtain ⟨its, r, pl, hz⟩ := I.list hq
  obtain ⟨j, h1, h2, h3, h4, h5⟩ := atI_get he
  obtain ⟨w, ew, rw'⟩ := r.get h2
  have hl := r.length
  have hn := line63
  have fin : EP X pins σ Q w s := ⟨z, H, I, rw', q⟩
  by_cases h0 : 0 ≤ i
  · have hj : i.toNat = j := by
      rw [seqIndex_of h0 h5] at h1
      exact Option.some.inj h1
    exact item_listR pl.isList h0 (by omega) (by rw [hj]; simpa using ew) fin hs
  · have hj : (i + (its.toArray.size : Int)).toNat = j := by
      rw [seqIndex_neg (by omega) h4] at h1
      rw [List.size_toArray, ← hl]
      exact Option.some.inj h1
    exact subscriptTail_builtinR (x := w) pl.isList.typeIs slot_list_getitem.lookup
      (wpAny_getItem_list_neg (Q := fun r s' => r = w ∧ EP X pins σ Q r s') pl.isList (by omega) (by rw [List.size_toArray] <;> omega) (by omega) (by rw [hj]; simpa using ew) ⟨rfl, fin⟩) hs
theorem ix_tup : IxR X (rIxT X.K) := by
  intro value slice pins s σ H x y v u Q I rx ry h hs
  obtain ⟨p, xs, i, z, rfl, rfl, hq, he, q⟩ := h
  cases rx
  obtain ⟨t, rfl⟩ := ry
  obtain ⟨its, r, pl, hz⟩ := I.tuple hq
  obtain ⟨j, h1, h2, h3, h4, h5⟩ := atI_get he
  obtain ⟨w, ew, rw'⟩ := r.get h2
  have hl := r.length
  have hn := line63
  have fin : EP X pins σ Q w s := ⟨z, H, I, rw', q⟩
  exact subscriptTail_builtinR (x := w) pl.typeIs slot_tuple_getitem.lookup
    (getItem_tuple (j := j) (Q := fun r s' => r = w ∧ EP X pins σ Q r s') pl (by omega) (by omega) (by rw [List.size_toArray, ← hl]; exact h1) (by simpa using ew) ⟨rfl, fin⟩) hs
theorem ix_str : IxR X rIxS := by
  intro value slice pins s σ H x y v u Q I rx ry h hs
  obtain ⟨z, i, c, rfl, rfl, hz, he, q⟩ := h
  obtain ⟨t, rfl⟩ := rx
  obtain ⟨t', rfl⟩ := ry
  obtain ⟨j, h1, h2, h3, h4, h5⟩ := atI_get he
  have hl : z.cps.toList.length = z.length := by simp [Str.length]
  rw [hl] at h1 h4 h5
  have hn := line63
  exact tail_any (typeIs_str s z t) slot_str_getitem.lookup (getItem_str (c := c) (by
    have e1 : decide (i < -(2 ^ 63 : Int)) = false := decide_eq_false (by omega)
    have e2 : decide (i ≥ 2 ^ 63) = false := decide_eq_false (by omega)
    rw [e1, e2, Bool.or_false]) (by rw [h1]; simpa using h2) ⟨.str ⟨#[c]⟩, H, I.tok _, ⟨_, rfl⟩, q⟩) hs
/-- list, tuple or str -/
def rIx (K : PySem.W.Frag) : R2 := fun x y H Q => rIxL K x y H Q ∨ rIxT K x y H Q ∨ rIxS x y H Q
theorem ix_seq : IxR X (rIx X.K) := ix_list.or (ix_tup.or ix_str)

/-! ### xs[i] = v, any sign -/
/-- the list's object behind a store -/
theorem mapSeq_set (its : List Value) (n j : Nat) (u : Value) : Obj.mapSeq (·.setIfInBounds j u) { cls := .type "list", data := .seq its.toArray n } = { cls := .type "list", data := .seq (its.set j u).toArray n } := by
  simp [Obj.mapSeq]
theorem Inv.lst {pins : List (Addr × Obj)} {σ : St} {H : Hp} {s : Shared} {p : Addr} {xs : List V} (I : Inv X pins σ H s) (h : H p = some (.lst xs)) :
    ∃ (its : List Value) (n : Nat), Vals xs its ∧ s.heap.get? p = some { cls := .type "list", data := .seq its.toArray n } ∧ xs.length ≤ sizeLine := by
  obtain ⟨z, its, n, r, e⟩ := I.hok p _ h
  exact ⟨its, n, r, e, z⟩
/-- the list at p is written by an update of its object -/
theorem Inv.lstUpd {pins : List (Addr × Obj)} {σ : St} {H : Hp} {s : Shared} {p : Addr} {xs ys : List V} {its its' : List Value} {n n' : Nat} {f : Obj → Obj} (I : Inv X pins σ H s) (h : H p = some (.lst xs))
    (ho : s.heap.get? p = some { cls := .type "list", data := .seq its.toArray n }) (hf : f { cls := .type "list", data := .seq its.toArray n } = { cls := .type "list", data := .seq its'.toArray n' }) (r : Vals ys its') (hz : ys.length ≤ sizeLine) (t : Nat) :
    Inv X pins σ (upd H p (.lst ys)) { s with heap := s.heap.update p f, toks := t } := by
  have e : (s.heap.update p f).get? p = some { cls := .type "list", data := .seq its'.toArray n' } := by
    rw [Heap.get?_update_self f ho (by rw [hf] <;> rfl), hf]
  refine I.write (x := p) (e := p) (by rw [h]; trivial) (.inl rfl) (fun b u hb q => (Heap.get?_update_other _ _ (Ne.symm hb)).trans q) ⟨_, e⟩ ?_
  exact ⟨hz, its', n', r, e⟩
def rSetL : V → V → V → Hp → (Hp → Prop) → Prop := fun o i v H Q => ∃ p xs k j, o = .ref p ∧ i = .int k ∧ H p = some (.lst xs) ∧ ixN xs.length k = some j ∧ Q (upd H p (.lst (xs.set j v)))
theorem set_list : PSet X rSetL := by
  intro pins s σ H o i v ov iv u Q I ro ri rv h
  obtain ⟨p, xs, k, j, rfl, rfl, hp, hj, q⟩ := h
  cases ro
  obtain ⟨t, rfl⟩ := ri
  obtain ⟨its, n, r, ho, hz⟩ := I.lst hp
  obtain ⟨h1, h2, h3, h4⟩ := ixN_seq hj
  have hl := r.length
  have hn := line63
  have I' : Inv X pins σ (upd H p (.lst (xs.set j v))) { s with heap := s.heap.update p (Obj.mapSeq (·.setIfInBounds j u)) } :=
    I.lstUpd hp ho (mapSeq_set its n j u) (r.set rv j) (by rw [List.length_set]; exact hz) s.toks
  by_cases h0 : 0 ≤ k
  · have hk : k.toNat = j := by
      rw [seqIndex_of h0 h4] at h1
      exact Option.some.inj h1
    exact PySem.W.ki_setAt ho h0 (by omega) (by rw [List.size_toArray, ← hl]; exact h4) (by rw [hk]; exact ⟨_, I', q⟩)
  · have hk : (k + (its.toArray.size : Int)).toNat = j := by
      rw [seqIndex_neg (by omega) h3] at h1
      rw [List.size_toArray, ← hl]
      exact Option.some.inj h1
    exact PySem.W.ki_setBack ho (by omega) (by rw [List.size_toArray, ← hl]; exact h3) (by omega) (by rw [hk]; exact ⟨_, I', q⟩)

/-! ### slices -/
theorem slice_bounds (lo hi : Option Int) (n : Nat) : (sliceBounds lo hi none n).1 = ((HT.sIx n 0 lo : Nat) : Int) ∧ (sliceBounds lo hi none n).2.1 = ((HT.sIx n n hi : Nat) : Int) ∧ (sliceBounds lo hi none n).2.2 = 1 := by
  refine ⟨?_, ?_, rfl⟩
  · cases lo with
    | none => simp [sliceBounds, HT.sIx]
    | some i =>
      simp only [sliceBounds, HT.sIx, Option.getD_none, show (1 : Int) > 0 by decide, if_true]
      by_cases h : i < 0
      · simp only [h, if_true] <;> omega
      · simp only [h, if_false] <;> omega
  · cases hi with
    | none => simp [sliceBounds, HT.sIx]
    | some i =>
      simp only [sliceBounds, HT.sIx, Option.getD_none, show (1 : Int) > 0 by decide, if_true]
      by_cases h : i < 0
      · simp only [h, if_true] <;> omega
      · simp only [h, if_false] <;> omega
theorem slicePick_cut (its : List Value) (lo hi : Option Int) : slicePick its.toArray lo hi none = ((its.drop (HT.sIx its.length 0 lo)).take (HT.sIx its.length its.length hi - HT.sIx its.length 0 lo)).toArray := by
  obtain ⟨h1, h2, h3⟩ := slice_bounds lo hi its.toArray.size
  unfold slicePick
  rw [h1, h2, h3]
  simp only [sliceRange_one, pick_run, List.size_toArray] <;> rfl
/-- xs[lo:hi] of a list: a new list -/
def rSlL (K : PySem.W.Frag) : V → Option Int → Option Int → Hp → VK → Prop := fun x lo hi H Q => ∃ a xs, x = .ref a ∧ SqL K H a xs ∧ ∀ p, H p = none → Q (.ref p) (upd H p (.lst (cutV xs lo hi)))
theorem sl_list : SlR X (rSlL X.K) := by
  intro pins s σ H x v vl vu lo hi sl Q I rx hs pl pu h
  obtain ⟨a, xs, rfl, hx, q⟩ := h
  cases rx
  obtain ⟨its, r, ht, hz⟩ := I.list hx
  have hlen := r.length
  refine ⟨"list", _, slot_list_getitem.lookup, ht.isList.typeIs, ?_⟩
  refine wpAny_getItem_list_slice ht.isList hs pl pu .none (by simp) ?_ (by rw [List.size_toArray] <;> omega)
  rw [slicePick_cut, ← hlen]
  refine ⟨.ref s.heap.objs.size, _, I.laid (t' := s.toks) (o := .lst (cutV xs lo hi)) (fun b ob q => Heap.get?_push_of_some _ q) (Nat.le_refl _) ?_, rfl, q _ (I.hok.fresh (Nat.le_refl _))⟩
  exact ⟨Nat.le_trans (cutV_length xs lo hi) hz, _, 0, (r.drop (HT.sIx xs.length 0 lo)).take (HT.sIx xs.length xs.length hi - HT.sIx xs.length 0 lo), Heap.get?_push_size _ rfl⟩

/-! ### in, not in: flat items -/
def flatV : V → Bool
  | .non => true
  | .bl _ => true
  | .int _ => true
  | .str _ => true
  | _ => false
/-- == of flat values -/
def eqV : V → V → Bool
  | .non, .non => true
  | .bl a, .bl b => a == b
  | .bl a, .int b => (if a then 1 else 0) == b
  | .int a, .bl b => a == (if b then 1 else 0)
  | .int a, .int b => a == b
  | .str a, .str b => a == b
  | _, _ => false
theorem eqAt_V {A : Around} {s : Shared} {y x : V} {u v : Value} (ry : RelV y u) (rx : RelV x v) (fy : flatV y = true) (fx : flatV x = true) : SeqAt.EqAt A s u v (eqV y x) := by
  cases y with
  | non =>
    cases ry
    cases x with
    | non => cases rx; exact SeqAt.EqAt.same _
    | bl b => cases rx; exact SeqAt.EqAt.none_bool b
    | int b => obtain ⟨t, rfl⟩ := rx; exact SeqAt.EqAt.none_int b t
    | str b => obtain ⟨t, rfl⟩ := rx; exact SeqAt.EqAt.none_str b t
    | _ => exact absurd (show false = true from fx) Bool.false_ne_true
  | bl a =>
    cases ry
    cases x with
    | non => cases rx; exact SeqAt.EqAt.bool_none a
    | bl b => cases rx; exact SeqAt.EqAt.bool_bool a b
    | int b => obtain ⟨t, rfl⟩ := rx; exact SeqAt.EqAt.bool_int a b t
    | str b => obtain ⟨t, rfl⟩ := rx; exact SeqAt.EqAt.bool_str a b t
    | _ => exact absurd (show false = true from fx) Bool.false_ne_true
  | int a =>
    obtain ⟨t', rfl⟩ := ry
    cases x with
    | non => cases rx; exact SeqAt.EqAt.int_none a t'
    | bl b => cases rx; exact SeqAt.EqAt.int_bool a t' b
    | int b => obtain ⟨t, rfl⟩ := rx; exact SeqAt.EqAt.int_int a t' b t
    | str b => obtain ⟨t, rfl⟩ := rx; exact SeqAt.EqAt.int_str a t' b t
    | _ => exact absurd (show false = true from fx) Bool.false_ne_true
  | str a =>
    obtain ⟨t', rfl⟩ := ry
    cases x with
    | non => cases rx; exact SeqAt.EqAt.str_none a t'
    | bl b => cases rx; exact SeqAt.EqAt.str_bool a t' b
    | int b => obtain ⟨t, rfl⟩ := rx; exact SeqAt.EqAt.str_int a t' b t
    | str b => obtain ⟨t, rfl⟩ := rx; exact SeqAt.EqAt.str_str a t' b t
    | _ => exact absurd (show false = true from fx) Bool.false_ne_true
  | _ => exact absurd (show false = true from fy) Bool.false_ne_true
/-- the items' answers, read off the values (a value's own answer does not lean on its token) -/
def eqU (x : V) (u : Value) : Bool := match u with
  | .none => eqV .non x
  | .bool b => eqV (.bl b) x
  | .int i _ => eqV (.int i) x
  | .str z _ => eqV (.str z) x
  | _ => false
theorem eqU_of {x y : V} {u : Value} (r : RelV y u) (f : flatV y = true) : eqU x u = eqV y x := by
  cases y with
  | non => cases r; rfl
  | bl b => cases r; rfl
  | int i => obtain ⟨t, rfl⟩ := r; rfl
  | str z => obtain ⟨t, rfl⟩ := r; rfl
  | _ => exact absurd (show false = true from f) Bool.false_ne_true
theorem any_eqU {x : V} : ∀ {xs : List V} {us : List Value}, Vals xs us → xs.all flatV = true → us.any (eqU x) = xs.any fun y => eqV y x
  | _, _, .nil, _ => rfl
  | y :: xs, u :: us, .cons r t, f => by
    rw [List.all_cons, Bool.and_eq_true] at f
    rw [List.any_cons, List.any_cons, eqU_of r f.1, any_eqU t f.2]
theorem mem_eqAt {A : Around} {s : Shared} {x : V} {v : Value} (rx : RelV x v) (fx : flatV x = true) : ∀ {xs : List V} {us : List Value}, Vals xs us → xs.all flatV = true → ∀ u ∈ us, SeqAt.EqAt A s u v (eqU x u)
  | _, _, .nil, _ => fun u hu => by cases hu
  | y :: xs, u :: us, .cons r t, f => fun u' hu => by
    rw [List.all_cons, Bool.and_eq_true] at f
    rcases List.mem_cons.mp hu with rfl | hu
    · rw [eqU_of r f.1]; exact eqAt_V r rx f.1 fx
    · exact mem_eqAt rx fx t f.2 u' hu
def inV (x : V) (xs : List V) : Bool := xs.any fun y => eqV y x
/-- x in a list or tuple of flat items -/
def rIn (K : PySem.W.Frag) (neg : Bool) : R2 := fun x y H Q => ∃ p xs, y = .ref p ∧ (SqL K H p xs ∨ SqT K H p xs) ∧ flatV x = true ∧ xs.all flatV = true ∧ Q (.bl (if neg then !inV x xs else inV x xs)) H
theorem op_in_seq : OpR X (compareOp .In) (rIn X.K false) := by
  intro pins s σ H x y v u Q I rx ry h
  obtain ⟨p, xs, rfl, hq, fx, fs, q⟩ := h
  cases ry
  rcases hq with hq | hq
  · obtain ⟨its, r, pl, hz⟩ := I.list hq
    refine SeqAt.in_listAt (eqU x) pl.isList (fun w hw => mem_eqAt rx fx r fs w (by simpa using hw)) ⟨.bl _, H, I, rfl, ?_⟩
    rw [show its.toArray.any (eqU x) = its.any (eqU x) by simp, any_eqU r fs]
    exact q
  · obtain ⟨its, r, pl, hz⟩ := I.tuple hq
    refine SeqAt.in_tupleAt (eqU x) pl (fun w hw => mem_eqAt rx fx r fs w (by simpa using hw)) ⟨.bl _, H, I, rfl, ?_⟩
    rw [show its.toArray.any (eqU x) = its.any (eqU x) by simp, any_eqU r fs]
    exact q
theorem op_notIn_seq : OpR X (compareOp .NotIn) (rIn X.K true) := by
  intro pins s σ H x y v u Q I rx ry h
  obtain ⟨p, xs, rfl, hq, fx, fs, q⟩ := h
  cases ry
  rcases hq with hq | hq
  · obtain ⟨its, r, pl, hz⟩ := I.list hq
    refine SeqAt.notIn_listAt (eqU x) pl.isList (fun w hw => mem_eqAt rx fx r fs w (by simpa using hw)) ⟨.bl _, H, I, rfl, ?_⟩
    rw [show its.toArray.any (eqU x) = its.any (eqU x) by simp, any_eqU r fs]
    exact q
  · obtain ⟨its, r, pl, hz⟩ := I.tuple hq
    refine SeqAt.notIn_tupleAt (eqU x) pl (fun w hw => mem_eqAt rx fx r fs w (by simpa using hw)) ⟨.bl _, H, I, rfl, ?_⟩
    rw [show its.toArray.any (eqU x) = its.any (eqU x) by simp, any_eqU r fs]
    exact q
theorem op_notIn_str : OpR X (compareOp .NotIn) (fun x y H Q => ∃ i j, x = .str i ∧ y = .str j ∧ Q (.bl (!(!(Builtin.Str.occurrences j i 0 j.length 1).isEmpty))) H) := by
  intro pins s σ H x y v u Q I rx ry h
  obtain ⟨i, j, rfl, rfl, q⟩ := h
  obtain ⟨t, rfl⟩ := rx
  obtain ⟨t', rfl⟩ := ry
  exact notIn_str ⟨.bl _, H, I, rfl, q⟩

/-! ### len, list(x), tuple(x) of any list or tuple that is read -/
theorem call_len_seq : CallR X (.builtin "len") (fun xs H Q => ∃ p ys, xs = [.ref p] ∧ (SqL X.K H p ys ∨ SqT X.K H p ys) ∧ Q (.int ys.length) H) := by
  intro pins s σ H xs us Q I r h
  obtain ⟨p, ys, rfl, hq, q⟩ := h
  obtain ⟨u, rfl, rx⟩ := vals1 r
  cases rx
  have hn := line63
  rcases hq with hq | hq
  · obtain ⟨its, r', pl, hz⟩ := I.list hq
    have hlen := r'.length
    exact Calls.call_len_list pl.isList (by simp only [List.size_toArray] <;> omega) ⟨.int ys.length, H, I.tok _, ⟨s.toks + 1, by rw [List.size_toArray, hlen]⟩, q⟩
  · obtain ⟨its, r', pl, hz⟩ := I.tuple hq
    have hlen := r'.length
    exact len_tuple pl (by simp only [List.size_toArray] <;> omega) ⟨.int ys.length, H, I.tok _, ⟨s.toks + 1, by rw [List.size_toArray, hlen]⟩, q⟩
theorem call_len_str : CallR X (.builtin "len") (fun xs H Q => ∃ z, xs = [.str z] ∧ z.length ≤ sizeLine ∧ Q (.int z.length) H) := by
  intro pins s σ H xs us Q I r h
  obtain ⟨z, rfl, hz, q⟩ := h
  obtain ⟨u, rfl, t, rfl⟩ := vals1 r
  have hn := line63
  exact len_str (by omega) ⟨.int z.length, H, I.tok _, ⟨_, rfl⟩, q⟩
theorem CallR.or {f : Value} {r r' : List V → Hp → VK → Prop} (h : CallR X f r) (h' : CallR X f r') : CallR X f (fun xs H Q => r xs H Q ∨ r' xs H Q) := by
  intro pins s σ H xs us Q I rs q
  rcases q with q | q
  · exact h pins s σ H xs us Q I rs q
  · exact h' pins s σ H xs us Q I rs q
theorem call_list_of : CallR X (.type "list") (fun xs H Q => ∃ p ys, xs = [.ref p] ∧ (SqL X.K H p ys ∨ SqT X.K H p ys) ∧ ∀ l, H l = none → Q (.ref l) (upd H l (.lst ys))) := by
  intro pins s σ H xs us Q I r h
  obtain ⟨p, ys, rfl, hq, q⟩ := h
  obtain ⟨u, rfl, rx⟩ := vals1 r
  cases rx
  have fin : ∀ (its : List Value), Vals ys its → ys.length ≤ sizeLine → ∀ (h' : Heap) (c' : Nat), (∀ b o', s.heap.get? b = some o' → h'.get? b = some o') →
      h'.get? s.heap.objs.size = some { cls := .type "list", dict := none, data := .seq its.toArray c', slots := #[] } → EP X pins σ Q (.ref s.heap.objs.size) { s with heap := h' } := fun its r' hz h' c' kp e =>
    ⟨.ref s.heap.objs.size, _, I.laid (t' := s.toks) kp (Nat.le_refl _) (show ObjOk X.prog X.w _ h' _ (.lst ys) from ⟨hz, its, c', r', e⟩), rfl, q _ (I.hok.fresh (Nat.le_refl _))⟩
  rcases hq with hq | hq
  · obtain ⟨its, r', pl, hz⟩ := I.list hq
    have hlen := r'.length
    obtain ⟨o, ho, hc, n, hd⟩ := pl.isList
    exact call_list_seq p (.inl rfl) ho hc hd (fun h' c' kp e => fin its r' hz h' c' kp e) (by simp only [List.size_toArray] <;> omega)
  · obtain ⟨its, r', pl, hz⟩ := I.tuple hq
    have hlen := r'.length
    obtain ⟨o, ho, hc, n, hd⟩ := pl
    exact call_list_seq p (.inr rfl) ho hc hd (fun h' c' kp e => fin its r' hz h' c' kp e) (by simp only [List.size_toArray] <;> omega)
theorem call_tuple_of : CallR X (.type "tuple") (fun xs H Q => ∃ p ys, xs = [.ref p] ∧ ((SqL X.K H p ys ∧ ∀ l, H l = none → Q (.ref l) (upd H l (.tup ys))) ∨ (SqT X.K H p ys ∧ Q (.ref p) H))) := by
  intro pins s σ H xs us Q I r h
  obtain ⟨p, ys, rfl, h⟩ := h
  obtain ⟨u, rfl, rx⟩ := vals1 r
  cases rx
  rcases h with ⟨hq, q⟩ | ⟨hq, q⟩
  · obtain ⟨its, r', pl, hz⟩ := I.list hq
    have hlen := r'.length
    refine call_tuple_list pl.isList (fun h' kp => ?_) (by simp only [List.size_toArray] <;> omega)
    have I1 : Inv X pins σ H { s with heap := h' } := I.kept (t' := s.toks) kp
    have I2 : Inv X pins σ (upd H h'.objs.size (.tup ys)) { s with heap := h'.push { cls := .type "tuple", data := .seq its.toArray } } :=
      I1.laid (t' := s.toks) (fun b o e => Heap.get?_push_of_some _ e) (Nat.le_refl _) (show ObjOk X.prog X.w _ _ _ (.tup ys) from ⟨hz, its, r', IsTup.new _ _⟩)
    exact ⟨.ref h'.objs.size, _, I2, rfl, q _ (I1.hok.fresh (Nat.le_refl _))⟩
  · obtain ⟨its, r', pl, hz⟩ := I.tuple hq
    exact call_tuple_same pl ⟨.ref p, H, I, rfl, q⟩

/-! ### the call of a builtin's method: o.m(..) -/
/-- the value is of that builtin type -/
def tyV (K : PySem.W.Frag) (T : String) (x : V) (H : Hp) : Prop := match x with
  | .str _ => T = "str"
  | .int _ => T = "int"
  | .ref p => (T = "list" ∧ ∃ xs, SqL K H p xs) ∨ (T = "tuple" ∧ ∃ o, K.lookup p = some o ∧ o.cls = .type "tuple" ∧ o.dict = none) ∨
      (T = "dict" ∧ ((∃ kvs, H p = some (.dK kvs)) ∨ ∃ kvs, H p = some (.dT kvs))) ∨ (T = "set" ∧ ∃ S n, H p = some (.set S n))
  | _ => False
theorem tyV_is {pins : List (Addr × Obj)} {σ : St} {H : Hp} {s : Shared} {T : String} {x : V} {v : Value} (I : Inv X pins σ H s) (r : RelV x v) (ty : tyV X.K T x H) :
    s.TypeIs v T ∧ ∀ a, v = .ref a → ∃ ob, s.heap.get? a = some ob ∧ ob.dict = none := by
  cases x with
  | str z =>
    obtain ⟨t, rfl⟩ := r
    cases (show T = "str" from ty)
    exact ⟨typeIs_str s z t, fun _ e => nomatch e⟩
  | int i =>
    obtain ⟨t, rfl⟩ := r
    cases (show T = "int" from ty)
    exact ⟨typeIs_int s i t, fun _ e => nomatch e⟩
  | ref p =>
    cases r
    rcases ty with ⟨rfl, xs, hq⟩ | ⟨rfl, o, hk, hc, hd⟩ | ⟨rfl, hk⟩ | ⟨rfl, S, n, hk⟩
    · obtain ⟨its, _, pl, _⟩ := I.list hq
      refine ⟨pl.isList.typeIs, fun a e => ?_⟩
      cases e
      obtain ⟨o, n, e, c, hd, _⟩ := pl
      exact ⟨o, e, hd⟩
    · refine ⟨⟨o, I.kIn p o hk, hc⟩, fun a e => ?_⟩
      cases e
      exact ⟨o, I.kIn _ o hk, hd⟩
    · have z : ∃ o, s.heap.get? p = some o ∧ o.ExactDict := by
        rcases hk with ⟨kvs, hk⟩ | ⟨kvs, hk⟩
        · obtain ⟨_, _, _, _, o, _, _, e, ex, _⟩ := I.hok p _ hk
          exact ⟨o, e, ex⟩
        · obtain ⟨_, _, _, _, o, _, _, e, ex, _⟩ := I.hok p _ hk
          exact ⟨o, e, ex⟩
      obtain ⟨o, e, ex⟩ := z
      refine ⟨⟨o, e, ex.1⟩, fun a e2 => ?_⟩
      cases e2
      exact ⟨o, e, ex.2.1⟩
    · obtain ⟨o, _, _, _, e, ex, _⟩ := I.hok p _ hk
      refine ⟨⟨o, e, ex.1⟩, fun a e2 => ?_⟩
      cases e2
      exact ⟨o, e, ex.2.1⟩
  | _ => exact False.elim ty
def tBM0 (K : PySem.W.Frag) (T : String) (r : V → List V → Hp → VK → Prop) (to : TE) : TE := fun σ H Q => to σ H fun x H1 => tyV K T x H1 ∧ r x [] H1 Q
def tBM (K : PySem.W.Frag) (T : String) (r : V → List V → Hp → VK → Prop) (to : TE) (t : TA) : TE := fun σ H Q => to σ H fun x H1 => tyV K T x H1 ∧ t σ H1 fun xs H2 => r x xs H2 Q
variable {o e : Expr} {es : List Expr} {to : TE} {t : TA} {name : Str} {apos cpos : Pos} {T id : String} {r : V → List V → Hp → VK → Prop}
theorem pe_bm0 (pa : PlainAttrs T) (slot : Slot T name id) (hty : typeOf (.builtin id) = pure (.type "method_descriptor")) (hm : MtR X id r) (ho : PE X o to)
    (hbase : attributeBase o name X.env (eval o X.env) = eval o X.env := by rfl) (hline : (apos.endLine == cpos.line) = true := by rfl) : PE X (.Call (.Attribute o name apos) [] [] cpos) (tBM0 X.K T r to) := by
  intro pins s σ H Q I h
  refine wpAny_Call_method0_late hbase hline (thn (ho pins s σ H _ I h) fun v s1 ⟨x, H1, I1, r1, ty, q1⟩ => ?_)
  obtain ⟨h1, h2⟩ := tyV_is I1 r1 ty
  exact ⟨T, id, pa, slot, hty, h1, h2, Calls.callWith_builtin rfl (PySem.evalArgs_none (hm pins s1 σ H1 x [] v [] Q I1 r1 .nil q1))⟩
theorem pe_bm (pa : PlainAttrs T) (slot : Slot T name id) (hty : typeOf (.builtin id) = pure (.type "method_descriptor")) (hm : MtR X id r) (ho : PE X o to) (ha : PA X (e :: es) t)
    (hbase : attributeBase o name X.env (eval o X.env) = eval o X.env := by rfl)
    (hfew : ((backTo cpos (starEach (e :: es) X.env)).all (fun x => !x.1) && (backToKw cpos (keywordEach [] X.env)).all (fun x => x.1.isSome)
      && decide ((e :: es).length + ([] : List Keyword).length + (if ([] : List Keyword).isEmpty then 0 else 1) < 30)) = true := by rfl)
    (hline : (apos.endLine == cpos.line) = true := by rfl) (hs : starEach (e :: es) X.env = (false, eval e X.env) :: starEach es X.env := by rfl) (hplain : (backTo cpos (starEach es X.env)).any (·.1) = false := by rfl) :
    PE X (.Call (.Attribute o name apos) (e :: es) [] cpos) (tBM X.K T r to t) := by
  intro pins s σ H Q I h
  refine wpAny_Call_method_late hbase hfew hline rfl (thn (ho pins s σ H _ I h) fun v s1 ⟨x, H1, I1, r1, ty, q1⟩ => ?_)
  obtain ⟨h1, h2⟩ := tyV_is I1 r1 ty
  refine ⟨T, id, pa, slot, hty, h1, h2, ?_⟩
  have hA := ha cpos pins s1 σ H1 _ I1 q1
  rw [hs] at hA ⊢
  refine Calls.callWith_builtin (by show (false || (backTo cpos (starEach es X.env)).any (·.1)) = false; rw [hplain] <;> rfl) (Calls.evalArgs_plain ?_)
  exact thn hA fun us s2 ⟨vs, H2, I2, r2, q2⟩ => hm pins s2 σ H2 x vs v us Q I2 r1 r2 q2
/- xs.append(e), list.index on a module's tuple .. are MtR facts of 06m -/
end
end L2

namespace L2
open PySem PySem.Spec PyProof.Rows

def MtM (X : Cx) (id : String) (r : V → List V → Hp → VK → Prop) : Prop :=
  ∀ (pins : List (Addr × Obj)) (s : Shared) (σ : St) (H : Hp) (x : V) (xs : List V) (v : Value) (us : List Value) (Q : VK), Inv X pins σ H s → RelV x v → Vals xs us → r x xs H Q →
    wpAny (model X.prog X.w) X.A (call (.builtin id) (v :: us)) (EP X pins σ Q) X.xe s

/-! ### lists of values -/
theorem Vals.one : ∀ {x : V} {us : List Value}, Vals [x] us → ∃ u, us = [u] ∧ RelV x u
  | _, _, .cons r .nil => ⟨_, rfl, r⟩
theorem Vals.two : ∀ {x y : V} {us : List Value}, Vals [x, y] us → ∃ u v, us = [u, v] ∧ RelV x u ∧ RelV y v
  | _, _, _, .cons r (.cons q .nil) => ⟨_, _, rfl, r, q⟩
theorem Vals.zero : ∀ {us : List Value}, Vals [] us → us = []
  | _, .nil => rfl
theorem Vals.dropLast {xs : List V} {us : List Value} (h : Vals xs us) : Vals xs.dropLast us.dropLast := by
  induction h with
  | nil => exact .nil
  | cons r t ih =>
    cases t with
    | nil => exact .nil
    | cons q t' => exact .cons r ih
theorem Vals.eraseIdx : ∀ {xs : List V} {us : List Value} (i : Nat), Vals xs us → Vals (xs.eraseIdx i) (us.eraseIdx i)
  | _, _, _, .nil => .nil
  | _, _, 0, .cons _ t => t
  | _, _, i + 1, .cons r t => .cons r (Vals.eraseIdx i t)
theorem Vals.reverse {xs : List V} {us : List Value} (h : Vals xs us) : Vals xs.reverse us.reverse := by
  induction h with
  | nil => exact .nil
  | cons r t ih => rw [List.reverse_cons, List.reverse_cons]; exact Vals.append ih (.cons r .nil)
theorem Vals.rep {xs : List V} {us : List Value} (h : Vals xs us) : ∀ k : Nat, Vals (List.replicate k xs).flatten (List.replicate k us).flatten
  | 0 => .nil
  | k + 1 => by
    rw [List.replicate_succ, List.replicate_succ, List.flatten_cons, List.flatten_cons]
    exact Vals.append h (Vals.rep h k)
theorem erase_last {α : Type} (l : List α) : l.eraseIdx (l.length - 1) = l.dropLast := by
  induction l with
  | nil => rfl
  | cons a r ih =>
    cases r with
    | nil => rfl
    | cons b r =>
      have e : (a :: b :: r).length - 1 = ((b :: r).length - 1) + 1 := by
        have h1 : (a :: b :: r).length = r.length + 2 := rfl
        have h2 : (b :: r).length = r.length + 1 := rfl
        omega
      rw [e, List.eraseIdx_cons_succ, ih]
      all_goals rfl
theorem len_erase {α : Type} : ∀ (l : List α) (i : Nat), (l.eraseIdx i).length ≤ l.length
  | [], _ => Nat.le_refl _
  | _ :: _, 0 => Nat.le_succ _
  | _ :: r, i + 1 => Nat.succ_le_succ (len_erase r i)
theorem foldl_rep (its : List Value) : ∀ (k : Nat) (acc : List Value),
    List.foldl (fun x1 x2 => x1 ++ x2) acc.toArray (List.replicate k its.toArray) = (acc ++ (List.replicate k its).flatten).toArray
  | 0, acc => by simp
  | k + 1, acc => by
    have e : acc.toArray ++ its.toArray = (acc ++ its).toArray := by simp
    have e2 : (acc ++ its) ++ (List.replicate k its).flatten = acc ++ (List.replicate (k + 1) its).flatten := by
      rw [List.replicate_succ, List.flatten_cons, List.append_assoc]
    rw [← e2, ← foldl_rep its k (acc ++ its), ← e, List.replicate_succ, List.foldl_cons]

section
variable {X : Cx} {pins : List (Addr × Obj)} {σ : St} {H : Hp} {s : Shared} {l b : Addr} {xs ys zs : List V}

/-! ### the two steps: a tracked list is rewritten, a new list is laid -/
theorem Inv.lset {its its' : List Value} {n : Nat} {f : Array Value → Array Value} {t' : Nat} (I : Inv X pins σ H s) (hH : H l = some (.lst xs))
    (e : s.heap.get? l = some { cls := .type "list", data := .seq its.toArray n }) (hf : f its.toArray = its'.toArray) (hv : Vals ys its') (hz : ys.length ≤ sizeLine) :
    Inv X pins σ (upd H l (.lst ys)) { s with heap := s.heap.update l (Obj.mapSeq f), toks := t' } := by
  have q := PySem.IsL.update e f
  rw [hf] at q
  refine I.write (x := l) (e := l) (by rw [hH]; exact trivial) (.inl rfl) (fun b' u hb hu => (Heap.get?_update_other s.heap (Obj.mapSeq f) (Ne.symm hb)).trans hu) ⟨_, q⟩ ?_
  exact ⟨hz, its', _, hv, q⟩
theorem Inv.lnew {its : List Value} {t' : Nat} (I : Inv X pins σ H s) (hv : Vals ys its) (hz : ys.length ≤ sizeLine) :
    Inv X pins σ (upd H s.heap.objs.size (.lst ys)) { s with heap := s.heap.push { cls := .type "list", data := .seq its.toArray }, toks := t' } :=
  I.laid (fun _ _ q => Heap.get?_push_of_some _ q) (Nat.le_refl _) ⟨hz, its, 0, hv, Heap.get?_push_size _ rfl⟩
theorem Inv.fresh (I : Inv X pins σ H s) : H s.heap.objs.size = none := I.hok.fresh (Nat.le_refl _)
theorem Inv.lstM (I : Inv X pins σ H s) (hH : H l = some (.lst xs)) : xs.length ≤ sizeLine ∧ ∃ (its : List Value) (n : Nat), Vals xs its ∧ xs.length = its.length ∧ s.heap.get? l = some { cls := .type "list", data := .seq its.toArray n } := by
  obtain ⟨z, its, n, r, e⟩ := I.hok l _ hH
  exact ⟨z, its, n, r, r.length, e⟩

theorem notLongL {n : Nat} (h : n ≤ sizeLine) : Builtin.List.listTooLong n = false := by
  unfold Builtin.List.listTooLong
  exact decide_eq_false (by omega)
end

section
variable {X : Cx}

/-! ### methods -/
def rAppend : V → List V → Hp → VK → Prop := fun x vs H Q => ∃ l xs y, x = .ref l ∧ vs = [y] ∧ H l = some (.lst xs) ∧ xs.length < sizeLine ∧ Q .non (upd H l (.lst (xs ++ [y])))
theorem mt_append : MtM X "list.append" rAppend := by
  intro pins s σ H x vs v us Q I rx rv h
  obtain ⟨l, xs, y, rfl, rfl, hH, hz, q⟩ := h
  cases rx
  obtain ⟨u, rfl, ru⟩ := rv.one
  obtain ⟨z, its, n, r, hl, e⟩ := I.lstM hH
  refine call_meets F.slot_list_append ⟨_, e, rfl⟩ F.entry_list_append (F.args_list_append_2 _ _) (PySem.list_append l its.toArray n u (by rw [List.size_toArray]; omega)) ⟨e, ?_⟩
  refine ⟨.non, _, I.lset (its' := its ++ [u]) hH e (by simp) (r.append (.cons ru .nil)) ?_, rfl, q⟩
  rw [List.length_append, List.length_singleton]
  omega

def rExtend : V → List V → Hp → VK → Prop := fun x vs H Q => ∃ l b xs zs, x = .ref l ∧ vs = [.ref b] ∧ H l = some (.lst xs) ∧ H b = some (.lst zs) ∧ xs.length + zs.length ≤ sizeLine ∧ Q .non (upd H l (.lst (xs ++ zs)))
theorem mt_extend : MtM X "list.extend" rExtend := by
  intro pins s σ H x vs v us Q I rx rv h
  obtain ⟨l, b, xs, zs, rfl, rfl, hH, hB, hz, q⟩ := h
  cases rx
  obtain ⟨u, rfl, ru⟩ := rv.one
  cases ru
  obtain ⟨z, its, n, r, hl, e⟩ := I.lstM hH
  obtain ⟨z2, its2, n2, r2, hl2, e2⟩ := I.lstM hB
  have hsz : its.toArray.size + its2.toArray.size ≤ sizeLine := by rw [List.size_toArray, List.size_toArray]; omega
  have hlong : ¬ (!its.toArray.isEmpty && Builtin.List.listTooLong (its.toArray.size + its2.toArray.size)) = true := by
    rw [notLongL hsz, Bool.and_false]
    exact Bool.false_ne_true
  refine call_meets F.slot_list_extend ⟨_, e, rfl⟩ F.entry_list_extend (F.args_list_extend_2 _ _)
    (AutoSeq1.list_extend_list_list_0 l its.toArray n b its2.toArray n2 hlong (by rw [List.size_toArray]; omega) (by omega)) ⟨e, e2, ?_⟩
  refine ⟨.non, _, I.lset (its' := its ++ its2) hH e (by simp) (r.append r2) ?_, rfl, q⟩
  rw [List.length_append]
  omega

def rPop : V → List V → Hp → VK → Prop := fun x vs H Q => ∃ l xs y, x = .ref l ∧ vs = [] ∧ H l = some (.lst xs) ∧ xs[xs.length - 1]? = some y ∧ Q y (upd H l (.lst xs.dropLast))
theorem mt_pop : MtM X "list.pop" rPop := by
  intro pins s σ H x vs v us Q I rx rv h
  obtain ⟨l, xs, y, rfl, rfl, hH, hy, q⟩ := h
  cases rx
  have hus := rv.zero
  subst hus
  obtain ⟨z, its, n, r, hl, e⟩ := I.lstM hH
  obtain ⟨u, hu, ru⟩ := r.get hy
  have hy' : its.toArray[its.toArray.size - 1]? = some u := by
    show its.toArray[its.length - 1]? = some u
    rw [← Array.getElem?_toList, ← hl]
    exact hu
  refine call_meets F.slot_list_pop ⟨_, e, rfl⟩ F.entry_list_pop (F.args_list_pop_1 _) (MeetsSeq.list_pop_last l its.toArray n u hy' (by rw [List.size_toArray]; omega)) ⟨e, ?_⟩
  refine ⟨y, _, I.lset (its' := its.dropLast) hH e ?_ r.dropLast ?_, ru, q⟩
  · show its.toArray.eraseIdxIfInBounds (its.toArray.size - 1) = its.dropLast.toArray
    rw [List.size_toArray, List.eraseIdxIfInBounds_toArray, erase_last]
  · rw [List.length_dropLast]
    omega

def rPopAt : V → List V → Hp → VK → Prop := fun x vs H Q => ∃ l xs i k y, x = .ref l ∧ vs = [.int i] ∧ H l = some (.lst xs) ∧ -(2 ^ 63) ≤ i ∧ i < 2 ^ 63 ∧ seqIndex? i xs.length = some k ∧ xs[k]? = some y ∧ Q y (upd H l (.lst (xs.eraseIdx k)))
theorem mt_popAt : MtM X "list.pop" rPopAt := by
  intro pins s σ H x vs v us Q I rx rv h
  obtain ⟨l, xs, i, k, y, rfl, rfl, hH, h1, h2, hk, hy, q⟩ := h
  cases rx
  obtain ⟨u, rfl, ru⟩ := rv.one
  obtain ⟨t, rfl⟩ := ru
  obtain ⟨z, its, n, r, hl, e⟩ := I.lstM hH
  obtain ⟨w, hw, rw'⟩ := r.get hy
  refine call_meets F.slot_list_pop ⟨_, e, rfl⟩ F.entry_list_pop (F.args_list_pop_2 _ _)
    (MeetsSeq.list_pop_at l its.toArray n i t k w (fitsIndex_both h1 h2) (by rw [List.size_toArray, ← hl]; exact hk) (by rw [← Array.getElem?_toList]; exact hw) (by rw [List.size_toArray]; omega)) ⟨e, ?_⟩
  refine ⟨y, _, I.lset (its' := its.eraseIdx k) hH e ?_ (r.eraseIdx k) ?_, rw', q⟩
  · show its.toArray.eraseIdxIfInBounds k = (its.eraseIdx k).toArray
    rw [List.eraseIdxIfInBounds_toArray]
  · have := len_erase xs k
    omega

def rReverse : V → List V → Hp → VK → Prop := fun x vs H Q => ∃ l xs, x = .ref l ∧ vs = [] ∧ H l = some (.lst xs) ∧ Q .non (upd H l (.lst xs.reverse))
theorem mt_reverse : MtM X "list.reverse" rReverse := by
  intro pins s σ H x vs v us Q I rx rv h
  obtain ⟨l, xs, rfl, rfl, hH, q⟩ := h
  cases rx
  have hus := rv.zero
  subst hus
  obtain ⟨z, its, n, r, hl, e⟩ := I.lstM hH
  refine call_meets F.slot_list_reverse ⟨_, e, rfl⟩ F.entry_list_reverse (F.args_list_reverse_1 _) (AutoSeq1.list_reverse_list_0 l its.toArray n (by rw [List.size_toArray]; omega)) ⟨e, ?_⟩
  refine ⟨.non, _, I.lset (its' := its.reverse) hH e (by simp) r.reverse ?_, rfl, q⟩
  rw [List.length_reverse]
  omega

def rClear : V → List V → Hp → VK → Prop := fun x vs H Q => ∃ l xs, x = .ref l ∧ vs = [] ∧ H l = some (.lst xs) ∧ Q .non (upd H l (.lst []))
theorem mt_clear : MtM X "list.clear" rClear := by
  intro pins s σ H x vs v us Q I rx rv h
  obtain ⟨l, xs, rfl, rfl, hH, q⟩ := h
  cases rx
  have hus := rv.zero
  subst hus
  obtain ⟨z, its, n, r, hl, e⟩ := I.lstM hH
  refine call_meets F.slot_list_clear ⟨_, e, rfl⟩ F.entry_list_clear (F.args_list_clear_1 _) (AutoSeq1.list_clear_list_0 l its.toArray n (by rw [List.size_toArray]; omega)) ⟨e, ?_⟩
  exact ⟨.non, _, I.lset (its' := []) (ys := []) hH e rfl .nil (Nat.zero_le _), rfl, q⟩

/-! ### list + list, list += list, list * int -/
def rCat : R2 := fun x y H Q => ∃ l b xs zs, x = .ref l ∧ y = .ref b ∧ H l = some (.lst xs) ∧ H b = some (.lst zs) ∧ xs.length + zs.length ≤ sizeLine ∧ ∀ p, H p = none → Q (.ref p) (upd H p (.lst (xs ++ zs)))
theorem op_cat : OpR X (binaryOp .Add) rCat := by
  intro pins s σ H x y v u Q I rx ry h
  obtain ⟨l, b, xs, zs, rfl, rfl, hH, hB, hz, q⟩ := h
  cases rx
  cases ry
  obtain ⟨z, its, n, r, hl, e⟩ := I.lstM hH
  obtain ⟨z2, its2, n2, r2, hl2, e2⟩ := I.lstM hB
  refine PySem.P.add_list e e2 ?_ (by rw [List.size_toArray, List.size_toArray]; omega)
  have ea : its.toArray ++ its2.toArray = (its ++ its2).toArray := by simp
  rw [ea]
  exact ⟨.ref _, _, I.lnew (t' := s.toks) (r.append r2) (by rw [List.length_append]; omega), rfl, q _ I.fresh⟩
/-- a list times an int (a negative one is nothing) -/
def rRep : R2 := fun x y H Q => ∃ l k xs, x = .ref l ∧ y = .int k ∧ H l = some (.lst xs) ∧ -(2 ^ 63) ≤ k ∧ k < 2 ^ 63 ∧ xs.length * k.toNat ≤ sizeLine ∧
  ∀ p, H p = none → Q (.ref p) (upd H p (.lst (List.replicate k.toNat xs).flatten))
theorem len_rep {α : Type} (xs : List α) (k : Nat) : (List.replicate k xs).flatten.length = k * xs.length := by
  induction k with
  | zero => simp
  | succ k ih => rw [List.replicate_succ, List.flatten_cons, List.length_append, ih, Nat.succ_mul, Nat.add_comm]
theorem op_rep : OpR X (binaryOp .Mult) rRep := by
  intro pins s σ H x y v u Q I rx ry h
  obtain ⟨l, k, xs, rfl, rfl, hH, h1, h2, hz, q⟩ := h
  cases rx
  obtain ⟨t, rfl⟩ := ry
  obtain ⟨z, its, n, r, hl, e⟩ := I.lstM hH
  have hlen : its.toArray.size * k.toNat ≤ sizeLine := by rw [List.size_toArray, ← hl]; exact hz
  have hcap : ¬ its.toArray.size * k.toNat > (2 ^ 63 - 1) / 8 := by
    have : (sizeLine : Nat) ≤ (2 ^ 63 - 1) / 8 := by decide
    omega
  have hfit : ¬ (!Builtin.List.listFitsIndex k) = true := by
    rw [fitsIndex_both h1 h2]
    exact Bool.false_ne_true
  have hlong : ¬ Builtin.List.listTooLong (its.toArray.size * k.toNat) = true := by
    rw [notLongL hlen]
    exact Bool.false_ne_true
  have hnew : List.foldl (fun x1 x2 => x1 ++ x2) #[] (List.replicate (if its.toArray.isEmpty = true then 0 else k.toNat) its.toArray) = (List.replicate k.toNat its).flatten.toArray := by
    have f0 : ∀ m : Nat, List.foldl (fun x1 x2 => x1 ++ x2) #[] (List.replicate m its.toArray) = (List.replicate m its).flatten.toArray := fun m => by
      have := foldl_rep its m []
      rw [List.nil_append] at this
      exact this
    rw [f0]
    cases its with
    | nil => simp
    | cons a r' => rw [if_neg (by simp)]
  refine wpAny_binaryOp_repeat_ref (T := "list") (U := "int") (by decide) ⟨_, e, rfl⟩ (fun s' => typeIs_int s' k t) noFill_list_mul F.fills_int_mul F.slot_int_rmul repeat_list F.slot_int_index.lookup
    (call_meets F.slot_int_rmul (typeIs_int s k t) F.entry_int_rmul (F.args_int_rmul_2 _ _) (int___rmul___int_list k t l its.toArray n)
      ⟨e, rfl, ⟨_, e, rfl⟩, call_meets F.slot_list_mul ⟨_, e, rfl⟩ F.entry_list_mul (F.args_list_mul_2 _ _) (AutoListH.list___mul___list_int_3 l its.toArray n k t hfit hcap hlong) ⟨e, ?_⟩⟩)
  rw [hnew]
  exact ⟨.ref _, _, I.lnew (t' := s.toks) (r.rep k.toNat) (by rw [len_rep, Nat.mul_comm]; exact hz), rfl, q _ I.fresh⟩

/-! ### del xs[i] -/
theorem del_list {pins : List (Addr × Obj)} {s : Shared} {σ : St} {H : Hp} {l : Addr} {xs : List V} {i : Int} {t : Tok} {k : Nat} {Q : Unit → Shared → Prop} (I : Inv X pins σ H s) (hH : H l = some (.lst xs))
    (h1 : -(2 ^ 63) ≤ i) (h2 : i < 2 ^ 63) (hk : seqIndex? i xs.length = some k) (h : ∀ s', Inv X pins σ (upd H l (.lst (xs.eraseIdx k))) s' → Q () s') :
    wpAny (model X.prog X.w) X.A (delItem (.ref l) (.int i t)) Q X.xe s := by
  obtain ⟨z, its, n, r, hl, e⟩ := I.lstM hH
  refine PySem.P.delItem_list (k := k) e (fitsIndex_both h1 h2) (by rw [List.size_toArray, ← hl]; exact hk) (h _ ?_) (by rw [List.size_toArray]; omega)
  refine I.lset (its' := its.eraseIdx k) (t' := s.toks) hH e ?_ (r.eraseIdx k) ?_
  · show its.toArray.eraseIdxIfInBounds k = (its.eraseIdx k).toArray
    rw [List.eraseIdxIfInBounds_toArray]
  · have := len_erase xs k
    omega
end

/-! ### xs[a:b] = ys -/
section
variable {prog : Program} {w : World} {A : Around} {E : Value → Shared → Prop} {s : Shared}
theorem splice_eq (its its2 : List Value) (a c : Nat) : its.toArray.extract 0 a ++ its2.toArray ++ its.toArray.extract c its.toArray.size = (its.take a ++ its2 ++ its.drop c).toArray := by
  apply Array.toList_inj.mp
  first
    | (simp
       exact List.take_of_length_le (by simp))
    | simp [List.take_of_length_le]
    | simp
theorem bounds_run {a c n : Nat} (hac : a ≤ c) (hc : c ≤ n) : sliceBounds (some (a : Int)) (some (c : Int)) none n = ((a : Int), (c : Int), 1) := by
  simp only [sliceBounds, Option.getD_none]
  have h1 : ¬ ((a : Int) < 0) := by omega
  have h2 : ¬ ((c : Int) < 0) := by omega
  simp only [h1, h2, if_false, show (1 : Int) > 0 by decide, if_true]
  congr 1
  · omega
  · congr 1; omega
set_option maxRecDepth 100000 in
/-- list.__setitem__ with a slice of step one and another list -/
theorem setItem_slice {l b sl : Addr} {items new : Array Value} {n n2 : Nat} {vl vu : Value} {a c : Nat} {Q : Unit → Shared → Prop}
    (e : s.heap.get? l = some { cls := .type "list", data := .seq items n }) (e2 : s.heap.get? b = some { cls := .type "list", data := .seq new n2 }) (hne : l ≠ b)
    (hs : s.heap.IsSliceOf sl vl vu .none) (pl : IsPart vl (some (a : Int))) (pu : IsPart vu (some (c : Int))) (hac : a ≤ c) (hc : c ≤ items.size)
    (hsz : items.size + new.size ≤ sizeLine) (h : Q () { s with heap := s.heap.update l (Obj.mapSeq fun xs => xs.extract 0 a ++ new ++ xs.extract c xs.size) }) :
    wpAny (model prog w) A (setItem (.ref l) (.ref sl) (.ref b)) Q E s := by
  have hl : s.heap.IsList l items := PySem.IsL.isList e
  have hb : s.heap.IsList b new := PySem.IsL.isList e2
  obtain ⟨os, hos, hcs, hds⟩ := id hs
  have hTs : s.TypeIs (.ref sl) "slice" := ⟨os, hos, hcs⟩
  have hstep : ¬ ((rawPart none == rawInt 0) = true) := Bool.false_ne_true
  have hsame : Builtin.List.listSameRef (.ref l) (.ref b) = false := by
    unfold Builtin.List.listSameRef
    exact beq_eq_false_iff_ne.mpr hne
  have hmax : (max (a : Int) (c : Int)).toNat = c := by omega
  have hz' : ((fun xs : Array Value => xs.extract 0 a ++ new ++ xs.extract c xs.size) items).size ≤ sizeLine + 1 := by
    simp only [Array.size_append, Array.size_extract]
    omega
  unfold setItem
  try with_reducible refine wpAny_holding ?_
  first | refine wpAny_bind (wpAny_pure ?_) | skip
  refine wpAny_bind (wpAny_sequenceKey hl.typeIs (by decide) ?_)
  refine wpAny_bind (wpAny_callSpecial?_slot (name := Str.ofString "__setitem__") hl.typeIs slot_list_setitem
    (wpAny_call_entry slot_list_setitem hl.typeIs entry_list_setitem ?_ (args_list_setitem _ _ _)))
  show wpAny _ _ (Builtin.List.listSubscript? (.ref sl) >>= _) _ _ s
  refine wpAny_bind ?_
  unfold Builtin.List.listSubscript?
  refine wpAny_bind (wpAny_specialOf hTs slice_no_index ?_)
  simp only [Option.isNone_none, if_true]
  refine wpAny_pure ?_
  show wpAny _ _ (typeOf (.ref sl) >>= _) _ _ s
  refine wpAny_bind (wpAny_typeOf hTs ?_)
  first
    | rw [if_neg (by decide)]
    | refine PySem.W.KFB.if_not (by decide) ?_
  rw [listSliceParts_eq]
  refine wpAny_bind (wpAny_bind (wpAny_field hos hds (x := .none) rfl (wpAny_bind (wpAny_listPart .none ?_))))
  rw [if_neg hstep]
  refine wpAny_bind (wpAny_field hos hds (x := vl) rfl (wpAny_bind (wpAny_listPart pl ?_)))
  refine wpAny_bind (wpAny_field hos hds (x := vu) rfl (wpAny_bind (wpAny_listPart pu (wpAny_pure ?_))))
  first
    | simp only [hsame, Bool.false_eq_true, if_false]
    | refine PySem.W.KFB.if_not hsame ?_
    | (dsimp only
       rw [if_neg (by rw [hsame]; exact Bool.false_ne_true)])
  refine wpAny_bind (m := Builtin.List.listAllItems (.ref b) "must assign iterable to extended slice") ?_
  unfold Builtin.List.listAllItems
  refine wpAny_bind (wpAny_typeOf hb.typeIs ?_)
  first
    | refine PySem.W.KFB.if_so (by decide) ?_
    | rw [if_pos (by decide)]
    | simp only [beq_self_eq_true, Bool.true_or, if_true]
  unfold Builtin.List.listItems
  refine wpAny_bind (wpAny_seqItems e2 rfl (wpAny_pure ?_))
  refine wpAny_bind (wpAny_bind (wpAny_seqItems e rfl (wpAny_pure ?_)))
  refine wpAny_bind (wpAny_of_eq ((sliceIndices_raw (some (a : Int)) (some (c : Int)) none items.size (by simp)).trans (congrArg (pure : Int × Int × Int → Sem (Int × Int × Int)) (bounds_run hac hc))) ?_)
  show wpAny _ _ (if ((1 : Int) == 1) = true then _ else _) _ _ s
  rw [if_pos (by decide)]
  refine wpAny_bind (wpAny_rule ?_)
  first
    | simp only [notLongL hsz, Bool.false_eq_true, if_false]
    | refine PySem.W.KFB.if_not (notLongL hsz) ?_
  first | refine wpAny_bind (wpAny_pure ?_) | skip
  show wpAny _ _ (updateSeq l (fun xs => xs.extract 0 ((a : Int)).toNat ++ new ++ xs.extract (max (a : Int) (c : Int)).toNat xs.size) >>= _) _ _ s
  rw [hmax, Int.toNat_natCast]
  refine wpAny_bind (wpAny_updateSeq (hz := Nat.le_trans (Nat.le_add_right _ _) hsz) (_hz' := hz') e rfl ?_)
  refine wpAny_bind (wpAny_letGo ?_)
  first
    | exact wpAny_bind (wpAny_pure (wpAny_pure ⟨.none, rfl, wpAny_pure h⟩))
    | exact wpAny_pure ⟨.none, rfl, wpAny_pure h⟩
end

section
variable {X : Cx}
/-- xs[a:c] = ys of another list, at the value level: sl is the slice object that was just made -/
theorem set_slice {pins : List (Addr × Obj)} {s : Shared} {σ : St} {H : Hp} {l b sl : Addr} {xs ys : List V} {a c : Int} {vl vu : Value} {Q : Unit → Shared → Prop} (I : Inv X pins σ H s)
    (hH : H l = some (.lst xs)) (hB : H b = some (.lst ys)) (hne : l ≠ b) (hs : s.heap.IsSliceOf sl vl vu .none) (ra : RelV (.int a) vl) (rc : RelV (.int c) vu) (h0 : 0 ≤ a) (hac : a ≤ c) (hc : c ≤ xs.length)
    (hz : xs.length + ys.length ≤ sizeLine) (h : ∀ s', Inv X pins σ (upd H l (.lst (xs.take a.toNat ++ ys ++ xs.drop c.toNat))) s' → Q () s') :
    wpAny (model X.prog X.w) X.A (setItem (.ref l) (.ref sl) (.ref b)) Q X.xe s := by
  obtain ⟨ta, rfl⟩ := ra
  obtain ⟨tc, rfl⟩ := rc
  obtain ⟨z, its, n, r, hl, e⟩ := I.lstM hH
  obtain ⟨z2, its2, n2, r2, hl2, e2⟩ := I.lstM hB
  obtain ⟨a', rfl⟩ := Int.eq_ofNat_of_zero_le h0
  obtain ⟨c', rfl⟩ := Int.eq_ofNat_of_zero_le (Int.le_trans h0 hac)
  simp only [Int.toNat_natCast] at h
  refine setItem_slice (a := a') (c := c') e e2 hne hs (.int _ _) (.int _ _) (by omega) (by rw [List.size_toArray]; omega) (by rw [List.size_toArray, List.size_toArray]; omega) (h _ ?_)
  refine I.lset (its' := its.take a' ++ its2 ++ its.drop c') (t' := s.toks) hH e ?_ (Vals.append (Vals.append (r.take _) r2) (r.drop _)) ?_
  · exact splice_eq its its2 a' c'
  · rw [List.length_append, List.length_append, List.length_take, List.length_drop]
    omega
end
end L2


namespace L2
open PySem PySem.Spec PyProof.Rows

/-! ### lists of pairs as tables -/
section
variable {κ : Type} [DecidableEq κ]
def valV (kvs : List (κ × V)) (k : κ) : Option V := (kvs.find? fun kv => decide (kv.1 = k)).map (·.2)
/-- in its place, or at the end -/
def putK (kvs : List (κ × V)) (k : κ) (v : V) : List (κ × V) :=
  if (kvs.any fun kv => decide (kv.1 = k)) = true then kvs.map (fun kv => if kv.1 = k then (kv.1, v) else kv) else kvs ++ [(k, v)]
def dropK (kvs : List (κ × V)) (k : κ) : List (κ × V) := kvs.filter fun kv => decide (kv.1 ≠ k)

theorem valV_nil {k : κ} : valV ([] : List (κ × V)) k = none := rfl
theorem valV_pos {p : κ × V} {r : List (κ × V)} {k : κ} (e : p.1 = k) : valV (p :: r) k = some p.2 := by simp [valV, List.find?_cons, e]
theorem valV_neg {p : κ × V} {r : List (κ × V)} {k : κ} (e : ¬ p.1 = k) : valV (p :: r) k = valV r k := by simp [valV, List.find?_cons, e]
theorem valV_any (k : κ) : ∀ kvs : List (κ × V), (kvs.any fun kv => decide (kv.1 = k)) = (valV kvs k).isSome
  | [] => rfl
  | p :: r => by
    rw [List.any_cons]
    by_cases e : p.1 = k
    · simp only [valV_pos e, decide_eq_true e, Bool.true_or, Option.isSome_some]
    · rw [valV_neg e, decide_eq_false e, Bool.false_or]; exact valV_any k r
theorem valV_map (k j : κ) (y : V) : ∀ kvs : List (κ × V), valV (kvs.map fun kv => if kv.1 = k then (kv.1, y) else kv) j = (valV kvs j).map fun x => if j = k then y else x
  | [] => rfl
  | p :: r => by
    have ih := valV_map k j y r
    rw [List.map_cons]
    by_cases h : p.1 = k
    · rw [if_pos h]
      by_cases e : p.1 = j
      · rw [valV_pos (p := (p.1, y)) e, valV_pos e, Option.map_some, if_pos (e.symm.trans h)]
      · rw [valV_neg (p := (p.1, y)) e, valV_neg e, ih]
    · rw [if_neg h]
      by_cases e : p.1 = j
      · rw [valV_pos (p := p) e, valV_pos e, Option.map_some, if_neg (fun z => h (e.trans z))]
      · rw [valV_neg (p := p) e, valV_neg e, ih]
theorem valV_snoc (k j : κ) (y : V) : ∀ kvs : List (κ × V), valV kvs k = none → valV (kvs ++ [(k, y)]) j = if j = k then some y else valV kvs j
  | [], _ => by
    by_cases e : k = j
    · rw [if_pos e.symm]; exact valV_pos (p := (k, y)) e
    · rw [if_neg (fun z => e z.symm)]; exact valV_neg (p := (k, y)) e
  | p :: r, hn => by
    rw [List.cons_append]
    have hk : ¬ p.1 = k := fun z => by rw [valV_pos z] at hn; cases hn
    rw [valV_neg hk] at hn
    have ih := valV_snoc k j y r hn
    by_cases e : p.1 = j
    · rw [valV_pos e, valV_pos e, if_neg (fun z => hk (e.trans z))]
    · rw [valV_neg e, valV_neg e, ih]
theorem valV_put (kvs : List (κ × V)) (k j : κ) (y : V) : valV (putK kvs k y) j = if j = k then some y else valV kvs j := by
  unfold putK
  by_cases a : (kvs.any fun kv => decide (kv.1 = k)) = true
  · rw [if_pos a, valV_map]
    rw [valV_any] at a
    by_cases e : j = k
    · obtain ⟨x, hx⟩ := Option.isSome_iff_exists.mp a
      rw [if_pos e, e, hx, Option.map_some, if_pos rfl]
    · rw [if_neg e]
      cases valV kvs j with
      | none => rfl
      | some x => rw [Option.map_some, if_neg e]
  · rw [if_neg a]
    refine valV_snoc k j y kvs ?_
    rw [valV_any] at a
    cases q : valV kvs k with
    | none => rfl
    | some x => rw [q] at a; exact (a rfl).elim
theorem length_putK (kvs : List (κ × V)) (k : κ) (v : V) : (putK kvs k v).length ≤ kvs.length + 1 := by
  unfold putK
  split
  · rw [List.length_map]; omega
  · rw [List.length_append, List.length_cons, List.length_nil]; omega
theorem putK_new {kvs : List (κ × V)} {k : κ} (v : V) (h : valV kvs k = none) : putK kvs k v = kvs ++ [(k, v)] := by
  unfold putK
  rw [valV_any, h]
  exact if_neg (by decide)

theorem RelO.isSome_eq {o : Option V} {u : Option Value} (r : RelO o u) : o.isSome = u.isSome := by
  cases o with
  | none => cases u with
    | none => rfl
    | some _ => exact (show False from r).elim
  | some _ => cases u with
    | none => exact (show False from r).elim
    | some _ => rfl
theorem RelO.getD {o : Option V} {u : Option Value} {d : V} {d' : Value} (r : RelO o u) (rd : RelV d d') : RelV (o.getD d) (u.getD d') := by
  cases o with
  | none => cases u with
    | none => exact rd
    | some _ => exact (show False from r).elim
  | some _ => cases u with
    | none => exact (show False from r).elim
    | some _ => exact r

/-- raw tables of the same keys -/
theorem KV.val {kvs : List (κ × V)} {vs : List (κ × Value)} (r : KV kvs vs) (k : κ) : RelO (valV kvs k) (valueAt vs k) := by
  unfold KV at r
  induction r with
  | nil => exact True.intro
  | @cons p q ps qs h t ih =>
    obtain ⟨h1, h2⟩ := h
    by_cases e : p.1 = k
    · have e' : q.1 = k := h1.symm.trans e
      have b : valueAt (q :: qs) k = some q.2 := by simp [valueAt, List.find?_cons, e']
      rw [valV_pos e, b]; exact h2
    · have e' : ¬ q.1 = k := fun z => e (h1.trans z)
      have b : valueAt (q :: qs) k = valueAt qs k := by simp [valueAt, List.find?_cons, e']
      rw [valV_neg e, b]; exact ih
theorem KV.any {kvs : List (κ × V)} {vs : List (κ × Value)} (r : KV kvs vs) (k : κ) : (kvs.any fun kv => decide (kv.1 = k)) = vs.any fun kv => decide (kv.1 = k) := by
  unfold KV at r
  induction r with
  | nil => rfl
  | cons h t ih => rw [List.any_cons, List.any_cons, ih, h.1]
theorem KV.repl {kvs : List (κ × V)} {vs : List (κ × Value)} (r : KV kvs vs) (k : κ) {y : V} {u : Value} (ry : RelV y u) :
    KV (kvs.map fun kv => if kv.1 = k then (kv.1, y) else kv) (vs.map fun kv => if kv.1 = k then (kv.1, u) else kv) := by
  unfold KV at r ⊢
  induction r with
  | nil => exact .nil
  | @cons p q ps qs h t ih =>
    rw [List.map_cons, List.map_cons]
    refine .cons ?_ ih
    obtain ⟨h1, h2⟩ := h
    by_cases e : p.1 = k
    · rw [if_pos e, if_pos (h1.symm.trans e)]; exact ⟨h1, ry⟩
    · rw [if_neg e, if_neg (fun z => e (h1.trans z))]; exact ⟨h1, h2⟩
theorem KV.put {kvs : List (κ × V)} {vs : List (κ × Value)} (r : KV kvs vs) (k : κ) {y : V} {u : Value} (ry : RelV y u) : KV (putK kvs k y) (stored vs k u) := by
  unfold putK stored
  rw [r.any k]
  by_cases e : (vs.any fun kv => decide (kv.1 = k)) = true
  · rw [if_pos e, if_pos e]; exact r.repl k ry
  · rw [if_neg e, if_neg e]; exact Paired.snoc r ⟨rfl, ry⟩
theorem KV.drop {kvs : List (κ × V)} {vs : List (κ × Value)} (r : KV kvs vs) (k : κ) : KV (dropK kvs k) (without vs k) := by
  unfold KV at r ⊢
  unfold dropK without
  induction r with
  | nil => exact .nil
  | @cons p q ps qs h t ih =>
    obtain ⟨h1, h2⟩ := h
    rw [List.filter_cons, List.filter_cons]
    by_cases e : p.1 = k
    · have a : ¬ decide (p.1 ≠ k) = true := by simp [e]
      have b : ¬ decide (q.1 ≠ k) = true := by simp [h1.symm.trans e]
      rw [if_neg a, if_neg b]; exact ih
    · have e' : ¬ q.1 = k := fun z => e (h1.trans z)
      have a : decide (p.1 ≠ k) = true := by simp [e]
      have b : decide (q.1 ≠ k) = true := by simp [e']
      rw [if_pos a, if_pos b]; exact .cons ⟨h1, h2⟩ ih
theorem KV.keys {kvs : List (κ × V)} {vs : List (κ × Value)} (r : KV kvs vs) : kvs.map (·.1) = vs.map (·.1) := by
  unfold KV at r
  induction r with
  | nil => rfl
  | cons h t ih => rw [List.map_cons, List.map_cons, ih, h.1]
theorem KV.length {kvs : List (κ × V)} {vs : List (κ × Value)} (r : KV kvs vs) : kvs.length = vs.length := Paired.length r
theorem dropK_le (kvs : List (κ × V)) (k : κ) : (dropK kvs k).length ≤ kvs.length := List.length_filter_le _ _
end


/-! ### a tracked dict, its keys ints and texts or tuples of these -/
theorem kV_is {P : Program} {w : World} {k : Key} {u : Value} (r : RelV (kV k) u) : (mixKind P w).is k u = true := by
  cases k with
  | inl i => obtain ⟨t, e⟩ := (show ∃ t, u = Value.int i t from r); subst e; exact mixKind_int P w i t
  | inr x => obtain ⟨t, e⟩ := (show ∃ t, u = Value.str x t from r); subst e; exact mixKind_str P w x t
theorem kV_inj {a b : Key} (e : kV a = kV b) : a = b := by
  cases a with
  | inl i => cases b with
    | inl j => have e' : V.int i = V.int j := e; injection e' with e'; rw [e']
    | inr y => exact nomatch (show V.int i = V.str y from e)
  | inr x => cases b with
    | inl j => exact nomatch (show V.str x = V.int j from e)
    | inr y => have e' : V.str x = V.str y := e; injection e' with e'; rw [e']
theorem kVs_inj : ∀ {a b : List Key}, a.map kV = b.map kV → a = b
  | [], [], _ => rfl
  | [], _ :: _, e => by simp at e
  | _ :: _, [], e => by simp at e
  | x :: xs, y :: ys, e => by
    rw [List.map_cons, List.map_cons] at e
    injection e with e1 e2
    rw [kV_inj e1, kVs_inj e2]
theorem items_are {P : Program} {w : World} : ∀ {ks : List Key} {us : List Value}, Vals (ks.map kV) us → ItemsAre (mixKind P w) ks us
  | [], _, r => by rw [List.map_nil] at r; cases r; exact .nil
  | k :: ks, _, r => by
    rw [List.map_cons] at r
    cases r with
    | cons h t => exact .cons (kV_is h) (items_are t)

/-- raw entries of a dict with tuple keys -/
abbrev KT (H : Hp) : List (List Key × V) → List (List Key × Addr × Value) → Prop := Paired fun p q => p.1 = q.1 ∧ H q.2.1 = some (.tup (p.1.map kV)) ∧ RelV p.2 q.2.2
theorem KT.val {H : Hp} {kvs : List (List Key × V)} {xs : List (List Key × Addr × Value)} (r : KT H kvs xs) (k : List Key) : RelO (valV kvs k) ((atKey xs k).map (·.2)) := by
  induction r with
  | nil => exact True.intro
  | @cons p q ps qs h t ih =>
    obtain ⟨h1, _, h2⟩ := h
    by_cases e : p.1 = k
    · have e' : q.1 = k := h1.symm.trans e
      have b : atKey (q :: qs) k = some q.2 := by simp [atKey, List.find?_cons, e']
      rw [valV_pos e, b]; exact h2
    · have e' : ¬ q.1 = k := fun z => e (h1.trans z)
      have b : atKey (q :: qs) k = atKey qs k := by simp [atKey, List.find?_cons, e']
      rw [valV_neg e, b]; exact ih
theorem KT.repl {H : Hp} {kvs : List (List Key × V)} {xs : List (List Key × Addr × Value)} (r : KT H kvs xs) (k : List Key) {y : V} {u : Value} (ry : RelV y u) :
    KT H (kvs.map fun kv => if kv.1 = k then (kv.1, y) else kv) (xs.map (putAt k u)) := by
  induction r with
  | nil => exact .nil
  | @cons p q ps qs h t ih =>
    rw [List.map_cons, List.map_cons]
    refine .cons ?_ ih
    obtain ⟨h1, h2, h3⟩ := h
    unfold putAt
    by_cases e : p.1 = k
    · rw [if_pos e, if_pos (h1.symm.trans e)]; exact ⟨h1, h2, ry⟩
    · rw [if_neg e, if_neg (fun z => e (h1.trans z))]; exact ⟨h1, h2, h3⟩
theorem KT.put {H : Hp} {kvs : List (List Key × V)} {xs : List (List Key × Addr × Value)} (r : KT H kvs xs) (k : List Key) {b : Addr} {y : V} {u : Value} (hb : H b = some (.tup (k.map kV))) (ry : RelV y u) :
    KT H (putK kvs k y) (storedH xs k b u) := by
  have e : (kvs.any fun kv => decide (kv.1 = k)) = (atKey xs k).isSome := by
    rw [valV_any, (r.val k).isSome_eq, Option.isSome_map]
  unfold putK storedH
  rw [e]
  by_cases q : (atKey xs k).isSome = true
  · rw [if_pos q, if_pos q]; exact r.repl k ry
  · rw [if_neg q, if_neg q]; exact Paired.snoc r ⟨rfl, hb, ry⟩
theorem KT.keeps {H H' : Hp} {kvs : List (List Key × V)} {xs : List (List Key × Addr × Value)} (r : KT H kvs xs) (ht : ∀ b ys, H b = some (.tup ys) → H' b = some (.tup ys)) : KT H' kvs xs :=
  Paired.mapP r fun _ _ z => ⟨z.1, ht _ _ z.2.1, z.2.2⟩

section
variable {P : Program} {w : World} {H : Hp} {h : Heap} {a : Addr}
theorem rd_of {u : HO} (ok : HOk P w H h) (e : Rd H a u) : ObjOk P w H h a u := e.ok ok
theorem dk_rd {kvs : List (Key × V)} (ok : HOk P w H h) (e : Rd H a (.dK kvs)) : kvs.length ≤ sizeLine ∧ (a == sysModules) = false ∧ ∃ vs, KV kvs vs ∧ h.DictOf (mixKind P w) a vs :=
  show ObjOk P w H h a (.dK kvs) from rd_of ok e
theorem dk_of {kvs : List (Key × V)} (ok : HOk P w H h) (e : H a = some (.dK kvs)) : kvs.length ≤ sizeLine ∧ (a == sysModules) = false ∧ ∃ vs, KV kvs vs ∧ h.DictOf (mixKind P w) a vs := dk_rd ok (.inl e)
/-- a tracked tuple of ints and texts is a key -/
theorem key_of {ks : List Key} (ok : HOk P w H h) (e : H a = some (.tup (ks.map kV))) : (tupleKind (mixKind P w)).is h ks a := by
  obtain ⟨_, its, r, o, h1, h2, n, h3⟩ := (show ObjOk P w H h a (.tup (ks.map kV)) from ok a _ e)
  exact ⟨o, its.toArray, n, h1, h2, h3, by simpa using items_are r⟩
theorem dt_rd {kvs : List (List Key × V)} (ok : HOk P w H h) (e : Rd H a (.dT kvs)) : kvs.length ≤ sizeLine ∧ (a == sysModules) = false ∧
    ∃ xs, KT H kvs xs ∧ h.DictOfH (tupleKind (mixKind P w)) a xs := by
  obtain ⟨z, y, xs, r, o, es, ep, h1, h2, h3, h4, h5⟩ := (show ObjOk P w H h a (.dT kvs) from rd_of ok e)
  refine ⟨z, y, xs, r, o, es, ep, h1, h2, h3, h4, fun x hx => ?_, h5⟩
  have all : ∀ {l : List (List Key × V)} {m : List (List Key × Addr × Value)}, KT H l m → ∀ x ∈ m, (tupleKind (mixKind P w)).is h x.1 x.2.1 := by
    intro l m q
    induction q with
    | nil => intro x hx; exact nomatch hx
    | @cons p q ps qs hq t ih =>
      intro x hx
      rcases List.mem_cons.mp hx with e | hx
      · subst e
        exact key_of ok (by rw [← hq.1]; exact hq.2.1)
      · exact ih x hx
  exact all r x hx
theorem dt_of {kvs : List (List Key × V)} (ok : HOk P w H h) (e : H a = some (.dT kvs)) : kvs.length ≤ sizeLine ∧ (a == sysModules) = false ∧
    ∃ xs, KT H kvs xs ∧ h.DictOfH (tupleKind (mixKind P w)) a xs := dt_rd ok (.inl e)
end

/-- what the dict at a holds at the key y -/
def DGet (H : Hp) (a : Addr) (y : V) (r : Option V) : Prop :=
  (∃ kvs k, Rd H a (.dK kvs) ∧ y = kV k ∧ r = valV kvs k) ∨ ∃ kvs k b, Rd H a (.dT kvs) ∧ y = .ref b ∧ H b = some (.tup (k.map kV)) ∧ r = valV kvs k
/-- the heap behind a[y] = v -/
def DPut (H : Hp) (a : Addr) (y v : V) (H' : Hp) : Prop :=
  (∃ kvs k, H a = some (.dK kvs) ∧ y = kV k ∧ kvs.length < sizeLine ∧ H' = upd H a (.dK (putK kvs k v))) ∨
  ∃ kvs k b, H a = some (.dT kvs) ∧ y = .ref b ∧ H b = some (.tup (k.map kV)) ∧ kvs.length < sizeLine ∧ H' = upd H a (.dT (putK kvs k v))
theorem DGet.k {H : Hp} {a : Addr} {kvs : List (Key × V)} {k : Key} (e : H a = some (.dK kvs)) : DGet H a (kV k) (valV kvs k) := .inl ⟨kvs, k, .inl e, rfl, rfl⟩
theorem DGet.t {H : Hp} {a b : Addr} {kvs : List (List Key × V)} {k : List Key} (e : H a = some (.dT kvs)) (eb : H b = some (.tup (k.map kV))) : DGet H a (.ref b) (valV kvs k) := .inr ⟨kvs, k, b, .inl e, rfl, eb, rfl⟩
theorem DPut.k {H : Hp} {a : Addr} {kvs : List (Key × V)} {k : Key} {v : V} (e : H a = some (.dK kvs)) (hl : kvs.length < sizeLine) : DPut H a (kV k) v (upd H a (.dK (putK kvs k v))) := .inl ⟨kvs, k, e, rfl, hl, rfl⟩
theorem DPut.t {H : Hp} {a b : Addr} {kvs : List (List Key × V)} {k : List Key} {v : V} (e : H a = some (.dT kvs)) (eb : H b = some (.tup (k.map kV))) (hl : kvs.length < sizeLine) :
    DPut H a (.ref b) v (upd H a (.dT (putK kvs k v))) := .inr ⟨kvs, k, b, e, rfl, eb, hl, rfl⟩


section
variable {X : Cx} {pins : List (Addr × Obj)} {σ : St} {H : Hp} {s : Shared} {a : Addr} {y v : V} {u r : Value} {o : Option V} {A : Around} {E : Value → Shared → Prop}

theorem Inv.big (I : Inv X pins σ H s) : sysModules < s.heap.objs.size := by
  have h : mainGlobals < s.heap.objs.size := (I.mod.glob.keeps I.bk).lt
  exact Nat.lt_trans (by decide) h

/-- d[y], there -/
theorem d_getItem {Q : Value → Shared → Prop} (hu : A.units + 1 < cLine) (I : Inv X pins σ H s) (g : DGet H a y (some v)) (ry : RelV y u) (h : ∀ w' s', Inv X pins σ H s' → RelV v w' → Q w' s') :
    wpAny (model X.prog X.w) A (getItem (.ref a) u) Q E s := by
  rcases g with ⟨kvs, k, e, ey, l⟩ | ⟨kvs, k, b, e, ey, eb, l⟩
  · subst ey
    obtain ⟨z, hd, vs, rel, dd⟩ := dk_rd I.hok e
    obtain ⟨w', hw, rw'⟩ := RelO.some_of (v := v) (o := valueAt vs k) (by rw [l]; exact rel.val k)
    exact wpAny_getItem_of (kV_is ry) dd.mapOf hw (h w' _ (I.tok _) rw')
  · subst ey
    cases (show u = Value.ref b from ry)
    obtain ⟨z, hd, xs, rel, dd⟩ := dt_rd I.hok e
    obtain ⟨w', hw, rw'⟩ := RelO.some_of (v := v) (o := (atKey xs k).map (·.2)) (by rw [l]; exact rel.val k)
    obtain ⟨p, hp, hp2⟩ := Option.map_eq_some_iff.mp hw
    refine wpAny_getItem_heap (tupleKind_room_in1 hu) (key_of I.hok eb) dd hp ?_
    rw [hp2]
    exact h w' _ (I.tok _) rw'
/-- y in d -/
theorem d_in {Q : Value → Shared → Prop} (hu : A.units + 1 < cLine) (I : Inv X pins σ H s) (g : DGet H a y o) (ry : RelV y u) (h : ∀ s', Inv X pins σ H s' → Q (.bool o.isSome) s') :
    wpAny (model X.prog X.w) A (compareOp .In u (.ref a)) Q E s := by
  rcases g with ⟨kvs, k, e, ey, l⟩ | ⟨kvs, k, b, e, ey, eb, l⟩
  · subst ey
    obtain ⟨z, hd, vs, rel, dd⟩ := dk_rd I.hok e
    refine wpAny_in_of (kV_is ry) hd dd.mapOf ?_
    rw [← (rel.val k).isSome_eq, ← l]
    exact h _ (I.tok _)
  · subst ey
    cases (show u = Value.ref b from ry)
    obtain ⟨z, hd, xs, rel, dd⟩ := dt_rd I.hok e
    refine wpAny_in_heap (tupleKind_room_in1 hu) (key_of I.hok eb) hd dd ?_
    have q := (rel.val k).isSome_eq
    rw [Option.isSome_map] at q
    rw [← q, ← l]
    exact h _ (I.tok _)
theorem d_notIn {Q : Value → Shared → Prop} (hu : A.units + 1 < cLine) (I : Inv X pins σ H s) (g : DGet H a y o) (ry : RelV y u) (h : ∀ s', Inv X pins σ H s' → Q (.bool (!o.isSome)) s') :
    wpAny (model X.prog X.w) A (compareOp .NotIn u (.ref a)) Q E s := by
  rcases g with ⟨kvs, k, e, ey, l⟩ | ⟨kvs, k, b, e, ey, eb, l⟩
  · subst ey
    obtain ⟨z, hd, vs, rel, dd⟩ := dk_rd I.hok e
    refine wpAny_notIn_of (kV_is ry) hd dd.mapOf ?_
    rw [← (rel.val k).isSome_eq, ← l]
    exact h _ (I.tok _)
  · subst ey
    cases (show u = Value.ref b from ry)
    obtain ⟨z, hd, xs, rel, dd⟩ := dt_rd I.hok e
    refine wpAny_notIn_heap (tupleKind_room_in1 hu) (key_of I.hok eb) hd dd ?_
    have q := (rel.val k).isSome_eq
    rw [Option.isSome_map] at q
    rw [← q, ← l]
    exact h _ (I.tok _)
/-- a dict's object is replaced -/
theorem d_write {h' : Heap} {t' : Nat} {ob : HO} (I : Inv X pins σ H s) (mu : Mut (H a)) (hs : Heap.SameBut a s.heap h') (he : ∃ q, h'.get? a = some q) (new : ObjOk X.prog X.w (upd H a ob) h' a ob) :
    Inv X pins σ (upd H a ob) { s with heap := h', toks := t' } :=
  I.write (x := a) (e := a) mu (.inl rfl) (fun b q hb z => (hs.2 b hb).trans z) he new
theorem dk_new {P : Program} {w : World} {H' : Hp} {h' : Heap} {kvs : List (Key × V)} {vs : List (Key × Value)} (z : kvs.length ≤ sizeLine) (hd : (a == sysModules) = false) (rel : KV kvs vs) (dd : h'.DictOf (mixKind P w) a vs) :
    ObjOk P w H' h' a (.dK kvs) := ⟨z, hd, vs, rel, dd⟩
/-- d[y] = v -/
theorem d_setItem {H' : Hp} {Q : Unit → Shared → Prop} (hu : A.units + 1 < cLine) (I : Inv X pins σ H s) (g : DPut H a y v H') (ry : RelV y u) (rv : RelV v r) (h : ∀ s', Inv X pins σ H' s' → Q () s') :
    wpAny (model X.prog X.w) A (setItem (.ref a) u r) Q E s := by
  rcases g with ⟨kvs, k, e, ey, l, eH⟩ | ⟨kvs, k, b, e, ey, eb, l, eH⟩
  · subst ey eH
    obtain ⟨z, hd, vs, rel, dd⟩ := dk_of I.hok e
    have hz : vs.length ≤ sizeLine := by rw [← rel.length]; exact z
    have hl : (putK kvs k v).length ≤ sizeLine := by have := length_putK kvs k v; omega
    refine wpAny_setItem_pairs (hsz := hz) (kV_is ry) dd fun h' dd' hs => h _ ?_
    have he : ∃ q, h'.get? a = some q := let ⟨q, _, _, hq, _⟩ := dd'; ⟨q, hq⟩
    exact d_write I (by rw [e]; exact True.intro) hs he (dk_new hl hd (rel.put k rv) dd')
  · subst ey eH
    cases (show u = Value.ref b from ry)
    obtain ⟨z, hd, xs, rel, dd⟩ := dt_of I.hok e
    have hz : xs.length ≤ sizeLine := by rw [← Paired.length rel]; exact z
    have hl : (putK kvs k v).length ≤ sizeLine := by have := length_putK kvs k v; omega
    refine wpAny_setItem_heap (hsz := hz) (tupleKind_room_in1 hu) (key_of I.hok eb) dd fun h' dd' hs => h _ ?_
    obtain ⟨q, es, ep, hq, h2, h3, h4, _, h5⟩ := dd'
    refine d_write I (by rw [e]; exact True.intro) hs ⟨q, hq⟩ ⟨hl, hd, _, (rel.put k eb rv).keeps fun c ys ec => ?_, q, es, ep, hq, h2, h3, h4, h5⟩
    rw [upd_ne (ne_of ec e (fun z => nomatch z))]
    exact ec
end

section
variable {X : Cx} {pins : List (Addr × Obj)} {σ : St} {H : Hp} {s : Shared} {a : Addr} {kvs : List (Key × V)} {k : Key} {u : Value} {A : Around} {E : Value → Shared → Prop}
/-- del d[k] -/
theorem d_delItem {Q : Unit → Shared → Prop} (I : Inv X pins σ H s) (e : H a = some (.dK kvs)) (ry : RelV (kV k) u) (l : (valV kvs k).isSome = true) (h : ∀ s', Inv X pins σ (upd H a (.dK (dropK kvs k))) s' → Q () s') :
    wpAny (model X.prog X.w) A (delItem (.ref a) u) Q E s := by
  obtain ⟨z, hd, vs, rel, dd⟩ := dk_of I.hok e
  refine wpAny_delItem_slot dd.typeIs (by decide) PySem.F.slot_dict_delitem
    (call_meetsIn PySem.F.slot_dict_delitem dd.typeIs PySem.F.entry_dict_delitem (PySem.F.args_dict_delitem_2 _ _) (meets_dict_delitem_pairs (mixKind X.prog X.w) a (kV_is ry)) ⟨vs, dd, by rw [← rel.length]; exact z, by rw [← (rel.val k).isSome_eq]; exact l, fun h' dd' hs => h _ ?_⟩)
  have he : ∃ q, h'.get? a = some q := let ⟨q, _, _, hq, _⟩ := dd'; ⟨q, hq⟩
  exact d_write I (by rw [e]; exact True.intro) hs he (dk_new (Nat.le_trans (dropK_le kvs k) z) hd (rel.drop k) dd')
/-- d.pop(k[, x]), there -/
theorem d_pop {v : V} {more : List Value} {Q : Value → Shared → Prop} (I : Inv X pins σ H s) (e : H a = some (.dK kvs)) (ry : RelV (kV k) u) (l : valV kvs k = some v) (hm : more = [] ∨ ∃ x, more = [x])
    (h : ∀ w' s', Inv X pins σ (upd H a (.dK (dropK kvs k))) s' → RelV v w' → Q w' s') : wpAny (model X.prog X.w) A (call (.builtin "dict.pop") (.ref a :: u :: more)) Q E s := by
  obtain ⟨z, hd, vs, rel, dd⟩ := dk_of I.hok e
  obtain ⟨w', hw, rw'⟩ := RelO.some_of (v := v) (o := valueAt vs k) (by rw [← l]; exact rel.val k)
  have hp : (keyPart u).isSome = true := by
    cases k with
    | inl i => obtain ⟨t, q⟩ := (show ∃ t, u = Value.int i t from ry); subst q; rfl
    | inr x => obtain ⟨t, q⟩ := (show ∃ t, u = Value.str x t from ry); subst q; rfl
  have ha : argsOk "dict.pop" ⟨.ref a :: u :: more, []⟩ := by
    rcases hm with q | ⟨x, q⟩
    · subst q; exact PySem.F.args_dict_pop_2 _ _
    · subst q; exact PySem.F.args_dict_pop_3 _ _ _
  refine call_meetsIn PySem.F.slot_dict_pop dd.typeIs PySem.F.entry_dict_pop ha (meets_dict_pop_there (mixKind X.prog X.w) a (kV_is ry) more hm hp)
    ⟨vs, w', dd, by rw [← rel.length]; exact z, hw, fun h' dd' hs => h w' _ ?_ rw'⟩
  have he : ∃ q, h'.get? a = some q := let ⟨q, _, _, hq, _⟩ := dd'; ⟨q, hq⟩
  exact d_write I (by rw [e]; exact True.intro) hs he (dk_new (Nat.le_trans (dropK_le kvs k) z) hd (rel.drop k) dd')
/-- d.pop(k, x), not there -/
theorem d_popD {r : Value} {Q : Value → Shared → Prop} (I : Inv X pins σ H s) (e : H a = some (.dK kvs)) (ry : RelV (kV k) u) (l : valV kvs k = none) (h : ∀ s', Inv X pins σ H s' → Q r s') :
    wpAny (model X.prog X.w) A (call (.builtin "dict.pop") [.ref a, u, r]) Q E s := by
  obtain ⟨z, hd, vs, rel, dd⟩ := dk_of I.hok e
  have hn : valueAt vs k = none := RelO.none_of (by rw [← l]; exact rel.val k)
  have hp : (keyPart u).isSome = true := by
    cases k with
    | inl i => obtain ⟨t, q⟩ := (show ∃ t, u = Value.int i t from ry); subst q; rfl
    | inr x => obtain ⟨t, q⟩ := (show ∃ t, u = Value.str x t from ry); subst q; rfl
  exact call_meetsIn PySem.F.slot_dict_pop dd.typeIs PySem.F.entry_dict_pop (PySem.F.args_dict_pop_3 _ _ _) (meets_dict_pop_default (mixKind X.prog X.w) a (kV_is ry) hd hp r) ⟨vs, dd, hn, h _ (I.tok _)⟩
/-- d.clear() -/
theorem d_clear {Q : Value → Shared → Prop} (I : Inv X pins σ H s) (e : H a = some (.dK kvs)) (h : ∀ s', Inv X pins σ (upd H a (.dK [])) s' → Q .none s') : wpAny (model X.prog X.w) A (call (.builtin "dict.clear") [.ref a]) Q E s := by
  obtain ⟨z, hd, vs, rel, dd⟩ := dk_of I.hok e
  refine call_meetsIn PySem.F.slot_dict_clear dd.typeIs PySem.F.entry_dict_clear (PySem.F.args_dict_clear_1 _) (meets_dict_clear (mixKind X.prog X.w) a) ⟨vs, dd, by rw [← rel.length]; exact z, fun h' dd' hs => h _ ?_⟩
  have he : ∃ q, h'.get? a = some q := let ⟨q, _, _, hq, _⟩ := dd'; ⟨q, hq⟩
  exact d_write (t' := s.toks) I (by rw [e]; exact True.intro) hs he (dk_new (Nat.zero_le _) hd .nil dd')
/-- len(d) -/
theorem d_len {Q : Value → Shared → Prop} (I : Inv X pins σ H s) (e : Rd H a (.dK kvs)) (h : ∀ t s', Inv X pins σ H s' → Q (.int kvs.length t) s') : wpAny (model X.prog X.w) A (call (.builtin "len") [.ref a]) Q E s := by
  obtain ⟨z, hd, vs, rel, dd⟩ := dk_rd I.hok e
  refine call_len_dict hd dd (by rw [← rel.length]; rw [sizeLine_eq] at z; omega) ?_
  rw [← rel.length]
  exact h _ _ (I.tok _)
/-- if d -/
theorem d_truth {Q : Bool → Shared → Prop} (I : Inv X pins σ H s) (e : Rd H a (.dK kvs)) (h : ∀ s', Inv X pins σ H s' → Q (!kvs.isEmpty) s') : wpAny (model X.prog X.w) A (truthy (.ref a)) Q E s := by
  obtain ⟨z, hd, vs, rel, dd⟩ := dk_rd I.hok e
  refine wpAny_truthy_dict hd dd (by rw [← rel.length]; rw [sizeLine_eq] at z; omega) ?_
  have q : kvs.isEmpty = vs.isEmpty := by cases rel <;> rfl
  rw [← q]
  exact h _ (I.tok _)
end


/-! ### readings and rules -/
/-- the element of a subscription, not a slice -/
def NoSl (i : Expr) : Prop := ∀ ov iv, subscripted i false ov iv = operate [ov, iv] (getItem ov iv)
theorem subD_of {prog : Program} {w : World} {A : Around} {E : Value → Shared → Prop} {s : Shared} {env : Env} {value slice : Expr} {pos : Pos} {T id : String} {Q : Value → Shared → Prop}
    (hl : typeLookup (.type T) "__getitem__" = pure (some (.builtin id))) (hs : NoSl slice)
    (h : wpAny (model prog w) A (eval value env) (fun o s₁ => wpAny (model prog w) A (eval slice env) (fun i s₂ => s₂.TypeIs o T ∧ wpAny (model prog w) A (getItem o i) Q E s₂) E s₁) E s) :
    wpAny (model prog w) A (eval (.Subscript value slice pos) env) Q E s := by
  refine Subscript_ (wpAny_mono h (fun o s₁ h₁ => wpAny_mono h₁ (fun i s₂ h₂ => ?_) fun _ _ x => x) fun _ _ x => x)
  obtain ⟨hT, h₂⟩ := h₂
  unfold subscriptTail
  refine wpAny_bind ?_
  rw [getitemInPython_of_ne hT.not_modules]
  refine wpAny_bind (wpAny_specialOf hT hl ?_)
  have fin : wpAny (model prog w) A (subscripted slice false o i) (fun r s₃ => wpAny (model prog w) A (letTemporaryGo value o r >>= fun _ => pure r) Q E s₃) E s₂ := by
    rw [hs o i]
    exact wpAny_operating (wpAny_mono h₂ (fun r s₃ h₃ => wpAny_bind (wpAny_letTemporaryGo (wpAny_pure h₃))) fun _ _ x => x)
  first
    | exact wpAny_pure (wpAny_bind fin)
    | exact wpAny_bind (wpAny_pure (wpAny_bind fin))
    | exact wpAny_bind fin

theorem dict_typeIs {X : Cx} {pins : List (Addr × Obj)} {σ : St} {H : Hp} {s : Shared} {a : Addr} {y : V} {o : Option V} (I : Inv X pins σ H s) (g : DGet H a y o) : s.TypeIs (.ref a) "dict" := by
  rcases g with ⟨kvs, k, e, _, _⟩ | ⟨kvs, k, b, e, _, _, _⟩
  · obtain ⟨_, _, vs, _, dd⟩ := dk_rd I.hok e
    exact dd.typeIs
  · obtain ⟨_, _, xs, _, dd⟩ := dt_rd I.hok e
    exact dd.typeIs
theorem dict_noDict {X : Cx} {pins : List (Addr × Obj)} {σ : St} {H : Hp} {s : Shared} {a : Addr} {y : V} {o : Option V} (I : Inv X pins σ H s) (g : DGet H a y o) :
    ∀ b, Value.ref a = .ref b → ∃ ob, s.heap.get? b = some ob ∧ ob.dict = none := fun b q => by
  cases q
  rcases g with ⟨kvs, k, e, _, _⟩ | ⟨kvs, k, b, e, _, _, _⟩
  · obtain ⟨_, _, vs, _, ob, _, _, h1, h2, _⟩ := dk_rd I.hok e
    exact ⟨ob, h1, h2.2.1⟩
  · obtain ⟨_, _, xs, _, ob, _, _, h1, h2, _⟩ := dt_rd I.hok e
    exact ⟨ob, h1, h2.2.1⟩

/-- d[y] -/
def tDGet (td ty : TE) : TE := fun σ H Q => td σ H fun x H1 => ty σ H1 fun y H2 => ∃ a v, x = .ref a ∧ DGet H2 a y (some v) ∧ Q v H2
/-- y in d, y not in d -/
def tDIn (ty td : TE) : TE := fun σ H Q => ty σ H fun y H1 => td σ H1 fun x H2 => ∃ a o, x = .ref a ∧ DGet H2 a y o ∧ Q (.bl o.isSome) H2
def tDNotIn (ty td : TE) : TE := fun σ H Q => ty σ H fun y H1 => td σ H1 fun x H2 => ∃ a o, x = .ref a ∧ DGet H2 a y o ∧ Q (.bl (!o.isSome)) H2
/-- d[y] = v -/
def sDPut (td ty tv : TE) : TS := fun D σ H => tv σ H fun v H1 => td σ H1 fun x H2 => ty σ H2 fun y H3 => ∃ a H4, x = .ref a ∧ DPut H3 a y v H4 ∧ D.nx σ H4
/-- d[y] op= v -/
def sDAug (td ty tv : TE) (rd : V → V → Hp → VK → Prop) : TS := fun D σ H => td σ H fun x H1 => ty σ H1 fun y H2 => ∃ a v, x = .ref a ∧ DGet H2 a y (some v) ∧
  tv σ H2 fun y2 H3 => rd v y2 H3 fun z H4 => ∃ H5, DPut H4 a y z H5 ∧ D.nx σ H5
/-- del d[y] -/
def sDDel (td ty : TE) : TS := fun D σ H => td σ H fun x H1 => ty σ H1 fun y H2 => ∃ a kvs k, x = .ref a ∧ H2 a = some (.dK kvs) ∧ y = kV k ∧ (valV kvs k).isSome = true ∧ D.nx σ (upd H2 a (.dK (dropK kvs k)))

section
variable {X : Cx} {o i e value : Expr} {pos pos' tpos : Pos} {td ty tv : TE}
theorem pe_dget (hu : X.A.units + 1 < cLine) (ho : PE X o td) (hi : PE X i ty) (hs : NoSl i) : PE X (.Subscript o i pos) (tDGet td ty) := by
  intro pins s σ H Q I h
  refine subD_of PySem.F.slot_dict_getitem.lookup hs (thn (ho pins s σ H _ I h) fun u s1 ⟨x, H1, I1, rx, q1⟩ => thn (hi pins s1 σ H1 _ I1 q1) fun iv s2 ⟨y, H2, I2, ry, a, v, ex, g, q2⟩ => ?_)
  subst ex
  obtain rfl : u = Value.ref a := rx
  exact ⟨dict_typeIs I2 g, d_getItem hu I2 g ry fun w' s3 I3 rw' => ⟨v, H2, I3, rw', q2⟩⟩
theorem pc_din (hu : X.A.units + 1 < cLine) (hi : PE X i ty) (ho : PE X o td) : PC X .In i o (tDIn ty td) := by
  intro pins s σ H Q I h
  refine thn (hi pins s σ H _ I h) fun iv s1 ⟨y, H1, I1, ry, q1⟩ => thn (ho pins s1 σ H1 _ I1 q1) fun u s2 ⟨x, H2, I2, rx, a, ov, ex, g, q2⟩ => ?_
  subst ex
  obtain rfl : u = Value.ref a := rx
  exact d_in hu I2 g ry fun s3 I3 => ⟨.bl ov.isSome, H2, I3, rfl, q2⟩
theorem pc_dnotin (hu : X.A.units + 1 < cLine) (hi : PE X i ty) (ho : PE X o td) : PC X .NotIn i o (tDNotIn ty td) := by
  intro pins s σ H Q I h
  refine thn (hi pins s σ H _ I h) fun iv s1 ⟨y, H1, I1, ry, q1⟩ => thn (ho pins s1 σ H1 _ I1 q1) fun u s2 ⟨x, H2, I2, rx, a, ov, ex, g, q2⟩ => ?_
  subst ex
  obtain rfl : u = Value.ref a := rx
  exact d_notIn hu I2 g ry fun s3 I3 => ⟨.bl (!ov.isSome), H2, I3, rfl, q2⟩
theorem ps_dput (hu : X.A.units + 1 < cLine) (ho : PE X o td) (hi : PE X i ty) (hv : PE X value tv) (hs : swapsWith value (some (.Subscript o i pos')) pos.line X.env = pure false) :
    PS X (.Assign [.Subscript o i pos'] value pos) (sDPut td ty tv) := by
  intro pins s σ H D I h
  refine wpAny_Assign_Subscript (thn (hv pins s σ H _ I h) fun r s1 ⟨v, H1, I1, rv, q1⟩ => thn (ho pins s1 σ H1 _ I1 q1) fun u s2 ⟨x, H2, I2, rx, q2⟩ => thn (hi pins s2 σ H2 _ I2 q2) fun iv s3 ⟨y, H3, I3, ry, a, H4, ex, g, q3⟩ => ?_) hs
  subst ex
  obtain rfl : u = Value.ref a := rx
  exact d_setItem hu I3 g ry rv fun s4 I4 => ⟨σ, H4, I4, q3⟩
theorem ps_daug {op : Operator} {rd : V → V → Hp → VK → Prop} (hu : X.A.units + 1 < cLine) (ho : PE X o td) (hi : PE X i ty) (hv : PE X value tv) (hop : InOp X op rd)
    (ha : ∀ ov iv new, augStore i ov iv new = (do holding [new, ov, iv] (setItem ov iv new); release [new, ov, iv] []; pure .next)) : PS X (.AugAssign (.Subscript o i tpos) op value pos) (sDAug td ty tv rd) := by
  intro pins s σ H D I h
  refine wpAny_AugAssign_SubscriptAny (thn (ho pins s σ H _ I h) fun u s1 ⟨x, H1, I1, rx, q1⟩ => thn (hi pins s1 σ H1 _ I1 q1) fun iv s2 ⟨y, H2, I2, ry, a, v, ex, g, q2⟩ => ?_) ha
  subst ex
  obtain rfl : u = Value.ref a := rx
  refine d_getItem hu I2 g ry fun w' s3 I3 rw' => thn (hv pins s3 σ H2 _ I3 q2) fun w2 s4 ⟨y2, H3, I4, ry2, q3⟩ => thn (hop pins s4 σ H3 v y2 w' w2 _ I4 rw' ry2 q3) fun w3 s5 ⟨z, H4, I5, rz, H5, g5, q4⟩ => ?_
  exact d_setItem hu I5 g5 ry rz fun s6 I6 => ⟨σ, H5, I6, q4⟩
theorem ps_ddel (ho : PE X o td) (hi : PE X i ty) : PS X (.Delete [.Subscript o i tpos] pos) (sDDel td ty) := by
  intro pins s σ H D I h
  refine wpAny_Delete (wpAny_deleteEach_cons (wpAny_delete_Subscript (thn (ho pins s σ H _ I h) fun u s1 ⟨x, H1, I1, rx, q1⟩ => thn (hi pins s1 σ H1 _ I1 q1) fun iv s2 ⟨y, H2, I2, ry, a, kvs, k, ex, e, ey, l, q2⟩ => ?_)))
  subst ex ey
  obtain rfl : u = Value.ref a := rx
  exact d_delItem I2 e ry l fun s3 I3 => wpAny_deleteEach_nil ⟨σ, _, I3, q2⟩
end


/-! ### displays -/
theorem dk_empty {P : Program} {w : World} {H : Hp} (h : Heap) (hb : sysModules < h.objs.size) : ObjOk P w H (h.push { cls := .type "dict", data := .dict #[] }) h.objs.size (.dK []) :=
  ⟨Nat.zero_le _, beq_eq_false_iff_ne.mpr (Ne.symm (Nat.ne_of_lt hb)), [], .nil, Heap.DictOf.new h⟩
theorem dt_empty {P : Program} {w : World} {H : Hp} (h : Heap) (hb : sysModules < h.objs.size) : ObjOk P w H (h.push { cls := .type "dict", data := .dict #[] }) h.objs.size (.dT []) :=
  ⟨Nat.zero_le _, beq_eq_false_iff_ne.mpr (Ne.symm (Nat.ne_of_lt hb)), [], .nil, _, #[], 0, Heap.get?_push_size _ rfl, ⟨rfl, rfl, rfl⟩, rfl, rfl, List.nodup_nil⟩
/-- {}, to be a dict of the kind that is wanted -/
def tDNewK : TE := fun _ H Q => ∀ p, H p = none → Q (.ref p) (upd H p (.dK []))
def tDNewT : TE := fun _ H Q => ∀ p, H p = none → Q (.ref p) (upd H p (.dT []))
section
variable {X : Cx} {pos : Pos}
theorem pe_dnewK : PE X (.Dict [] [] pos) tDNewK := fun pins s σ H Q I h =>
  wpAny_Dict_empty ⟨.ref s.heap.objs.size, _, I.laid (a := s.heap.objs.size) (o := .dK []) (t' := s.toks) (fun _ _ q => Heap.get?_push_of_some _ q) (Nat.le_refl _) (dk_empty s.heap I.big), rfl, h _ (I.hok.fresh (Nat.le_refl _))⟩
theorem pe_dnewT : PE X (.Dict [] [] pos) tDNewT := fun pins s σ H Q I h =>
  wpAny_Dict_empty ⟨.ref s.heap.objs.size, _, I.laid (a := s.heap.objs.size) (o := .dT []) (t' := s.toks) (fun _ _ q => Heap.get?_push_of_some _ q) (Nat.le_refl _) (dt_empty s.heap I.big), rfl, h _ (I.hok.fresh (Nat.le_refl _))⟩
end

/-- the pairs of a display, from the left -/
def tPairs : List (TE × TE) → St → Hp → (List (V × V) → Hp → Prop) → Prop
  | [], _, H, Q => Q [] H
  | (tk, tv) :: r, σ, H, Q => tk σ H fun x H1 => tv σ H1 fun y H2 => tPairs r σ H2 fun ps H3 => Q ((x, y) :: ps) H3
abbrev VV : List (V × V) → List (Value × Value) → Prop := Paired fun p q => RelV p.1 q.1 ∧ RelV p.2 q.2
def PPs (X : Cx) (pos : Pos) (keys : List (Option Expr)) (values : List Expr) (trs : List (TE × TE)) : Prop :=
  ∀ (pins : List (Addr × Obj)) (s : Shared) (σ : St) (H : Hp) (Q : List (V × V) → Hp → Prop), Inv X pins σ H s → tPairs trs σ H Q →
    wpAny (model X.prog X.w) X.A (evalPairs (pairTrees keys values X.env pos)) (fun vs s' => ∃ ps H', Inv X pins σ H' s' ∧ VV ps vs ∧ Q ps H') X.xe s
theorem pps_nil {X : Cx} {pos : Pos} : PPs X pos [] [] [] := fun pins s σ H Q I h => pairTrees_nil_walk ⟨[], H, I, .nil, h⟩
theorem pps_cons {X : Cx} {pos : Pos} {k v : Expr} {ks : List (Option Expr)} {vs : List Expr} {tk tv : TE} {trs : List (TE × TE)} (hk : PE X k tk) (hv : PE X v tv) (hr : PPs X pos ks vs trs) :
    PPs X pos (some k :: ks) (v :: vs) ((tk, tv) :: trs) := fun pins s σ H Q I h =>
  pairTrees_cons_walk (thn (hk pins s σ H _ I h) fun u s1 ⟨x, H1, I1, rx, q1⟩ => thn (hv pins s1 σ H1 _ I1 q1) fun w2 s2 ⟨y, H2, I2, ry, q2⟩ =>
    thn (hr pins s2 σ H2 _ I2 q2) fun ws s3 ⟨ps, H3, I3, rel, q3⟩ => ⟨(x, y) :: ps, H3, I3, .cons ⟨rx, ry⟩ rel, q3⟩)

def mergeK (kvs more : List (Key × V)) : List (Key × V) := more.foldl (fun acc kv => putK acc kv.1 kv.2) kvs
theorem KV.merge : ∀ {more : List (Key × V)} {rs : List (Key × Value)} {kvs : List (Key × V)} {vs : List (Key × Value)}, KV more rs → KV kvs vs → KV (mergeK kvs more) (merged vs rs) := by
  intro more rs kvs vs r
  unfold KV at r
  induction r generalizing kvs vs with
  | nil => intro q; exact q
  | @cons p q ps qs h t ih =>
    intro r0
    have e : KV (putK kvs p.1 p.2) (stored vs q.1 q.2) := by
      have := r0.put p.1 h.2
      rw [← h.1]; exact this
    exact ih e
theorem length_mergeK : ∀ (more kvs : List (Key × V)), (mergeK kvs more).length ≤ kvs.length + more.length
  | [], kvs => by show kvs.length ≤ kvs.length + 0; omega
  | p :: r, kvs => by
    have h1 := length_mergeK r (putK kvs p.1 p.2)
    have h2 := length_putK kvs p.1 p.2
    show (mergeK (putK kvs p.1 p.2) r).length ≤ _
    rw [List.length_cons]; omega
theorem carries_of {P : Program} {w : World} : ∀ {kvs : List (Key × V)} {ws : List (Value × Value)}, VV (kvs.map fun kv => (kV kv.1, kv.2)) ws → ∃ rs, Carries (mixKind P w) ws rs ∧ KV kvs rs
  | [], _, r => by rw [List.map_nil] at r; cases r; exact ⟨[], True.intro, .nil⟩
  | p :: kvs, _, r => by
    rw [List.map_cons] at r
    cases r with
    | @cons a b as bs h t =>
      obtain ⟨rs, c, q⟩ := carries_of (P := P) (w := w) t
      obtain ⟨b1, b2⟩ := b
      exact ⟨(p.1, b2) :: rs, ⟨kV_is h.1, rfl, c⟩, .cons ⟨rfl, h.2⟩ q⟩
/-- {k: v, ..} with keys ints and texts; the new dict stands empty while the pairs are made -/
def tDisp (trs : List (TE × TE)) : TE := fun σ H Q => ∀ p, H p = none → tPairs trs σ (upd H p (.dK [])) fun ps H2 => H2 p = some (.dK []) ∧ ∃ kvs : List (Key × V), ps = kvs.map (fun kv => (kV kv.1, kv.2)) ∧ kvs.length ≤ 15 ∧ Q (.ref p) (upd H2 p (.dK (mergeK [] kvs)))
theorem pe_disp {X : Cx} {pos : Pos} {keys : List (Option Expr)} {values : List Expr} {trs : List (TE × TE)} (h : PPs X pos keys values trs) (hall : keys.all (·.isSome) = true) (hl : keys.length = values.length) (h0 : keys ≠ [])
    (h15 : keys.length ≤ 15) : PE X (.Dict keys values pos) (tDisp trs) := by
  intro pins s σ H Q I q
  have hn := I.hok.fresh (Nat.le_refl s.heap.objs.size)
  have I1 := I.laid (a := s.heap.objs.size) (o := .dK []) (h' := s.heap.push { cls := .type "dict", data := .dict #[] }) (t' := s.toks) (fun _ _ q => Heap.get?_push_of_some _ q) (Nat.le_refl _) (dk_empty s.heap I.big)
  refine wpAny_Dict_walk (knd := mixKind X.prog X.w) hall hl h0 h15 (thn (h pins _ σ _ _ I1 (q _ hn)) fun ws s2 ⟨ps, H2, I2, rel, e, kvs, ep, lk, q2⟩ => ?_)
  subst ep
  obtain ⟨rs, c, rk⟩ := carries_of (P := X.prog) (w := X.w) rel
  obtain ⟨z, hd, vs0, r0, dd⟩ := dk_of I2.hok e
  cases r0
  refine ⟨rs, c, dd, fun h' dd' hs => ⟨.ref s.heap.objs.size, _, ?_, rfl, q2⟩⟩
  have hz : (mergeK [] kvs).length ≤ sizeLine := by
    have h1 := length_mergeK kvs []
    rw [List.length_nil] at h1
    rw [sizeLine_eq]; omega
  have he : ∃ q, h'.get? s.heap.objs.size = some q := let ⟨q, _, _, hq, _⟩ := dd'; ⟨q, hq⟩
  exact d_write I2 (by rw [e]; exact True.intro) hs he (dk_new hz hd (rk.merge .nil) dd')


/-! ### methods -/
/-- a method call o.m(e) of a built-in, with one argument: what must be seen of the text -/
structure M1 (X : Cx) (o : Expr) (m : Str) (apos : Pos) (e : Expr) (cpos : Pos) : Prop where
  base : attributeBase o m X.env (eval o X.env) = eval o X.env
  few : ((backTo cpos (starEach [e] X.env)).all (fun x => !x.1) && (backToKw cpos (keywordEach [] X.env)).all (fun x => x.1.isSome)
    && decide (([e] : List Expr).length + ([] : List Keyword).length + (if ([] : List Keyword).isEmpty then 0 else 1) < 30)) = true
  line : (apos.endLine == cpos.line) = true
  trees : backTo cpos (starEach [e] X.env) = [(false, eval e X.env)]
structure M2 (X : Cx) (o : Expr) (m : Str) (apos : Pos) (e f : Expr) (cpos : Pos) : Prop where
  base : attributeBase o m X.env (eval o X.env) = eval o X.env
  few : ((backTo cpos (starEach [e, f] X.env)).all (fun x => !x.1) && (backToKw cpos (keywordEach [] X.env)).all (fun x => x.1.isSome)
    && decide (([e, f] : List Expr).length + ([] : List Keyword).length + (if ([] : List Keyword).isEmpty then 0 else 1) < 30)) = true
  line : (apos.endLine == cpos.line) = true
  trees : backTo cpos (starEach [e, f] X.env) = [(false, eval e X.env), (false, eval f X.env)]

/-- a is a dict, whatever its keys -/
def IsD (H : Hp) (a : Addr) : Prop := (∃ kvs, Rd H a (.dK kvs)) ∨ ∃ kvs, Rd H a (.dT kvs)
theorem isD_at {X : Cx} {pins : List (Addr × Obj)} {σ : St} {H : Hp} {s : Shared} {a : Addr} (I : Inv X pins σ H s) (d : IsD H a) :
    s.TypeIs (.ref a) "dict" ∧ (∀ b, Value.ref a = .ref b → ∃ ob, s.heap.get? b = some ob ∧ ob.dict = none) ∧ (a == sysModules) = false := by
  rcases d with ⟨kvs, e⟩ | ⟨kvs, e⟩
  · obtain ⟨_, hd, vs, _, dd⟩ := dk_rd I.hok e
    refine ⟨dd.typeIs, fun b q => ?_, hd⟩
    cases q
    obtain ⟨ob, _, _, h1, h2, _⟩ := dd
    exact ⟨ob, h1, h2.2.1⟩
  · obtain ⟨_, hd, xs, _, dd⟩ := dt_rd I.hok e
    refine ⟨dd.typeIs, fun b q => ?_, hd⟩
    cases q
    obtain ⟨ob, _, _, h1, h2, _⟩ := dd
    exact ⟨ob, h1, h2.2.1⟩

section
variable {X : Cx} {pins : List (Addr × Obj)} {σ : St} {H : Hp} {s : Shared} {a : Addr} {y d : V} {u r : Value} {o : Option V} {A : Around} {E : Value → Shared → Prop}
/-- d.get(y) -/
theorem d_get1 {Q : Value → Shared → Prop} (hu : A.units + 1 < cLine) (I : Inv X pins σ H s) (g : DGet H a y o) (ry : RelV y u) (h : ∀ w' s', Inv X pins σ H s' → RelV (o.getD .non) w' → Q w' s') :
    wpAny (model X.prog X.w) A (call (.builtin "dict.get") [.ref a, u]) Q E s := by
  rcases g with ⟨kvs, k, e, ey, l⟩ | ⟨kvs, k, b, e, ey, eb, l⟩
  · subst ey
    obtain ⟨z, hd, vs, rel, dd⟩ := dk_rd I.hok e
    refine call_meetsIn PySem.F.slot_dict_get dd.typeIs PySem.F.entry_dict_get (PySem.F.args_dict_get_2 _ _) (meets_dict_get (mixKind X.prog X.w) a (kV_is ry) hd) ⟨_, dd.mapOf, h _ _ (I.tok _) ?_⟩
    rw [l]
    exact (rel.val k).getD rfl
  · subst ey
    cases (show u = Value.ref b from ry)
    obtain ⟨z, hd, xs, rel, dd⟩ := dt_rd I.hok e
    refine call_meetsIn PySem.F.slot_dict_get dd.typeIs PySem.F.entry_dict_get (PySem.F.args_dict_get_2 _ _) (meetsH_dict_get (tupleKind (mixKind X.prog X.w)) a b hd) ⟨tupleKind_room_in1 hu, k, xs, key_of I.hok eb, dd, h _ _ (I.tok _) ?_⟩
    rw [l]
    exact (rel.val k).getD rfl
/-- d.get(y, x) -/
theorem d_get2 {Q : Value → Shared → Prop} (hu : A.units + 1 < cLine) (I : Inv X pins σ H s) (g : DGet H a y o) (ry : RelV y u) (rd : RelV d r) (h : ∀ w' s', Inv X pins σ H s' → RelV (o.getD d) w' → Q w' s') :
    wpAny (model X.prog X.w) A (call (.builtin "dict.get") [.ref a, u, r]) Q E s := by
  rcases g with ⟨kvs, k, e, ey, l⟩ | ⟨kvs, k, b, e, ey, eb, l⟩
  · subst ey
    obtain ⟨z, hd, vs, rel, dd⟩ := dk_rd I.hok e
    refine call_meetsIn PySem.F.slot_dict_get dd.typeIs PySem.F.entry_dict_get (PySem.F.args_dict_get_3 _ _ _) (meets_dict_get_default (mixKind X.prog X.w) a (kV_is ry) hd r) ⟨_, dd.mapOf, h _ _ (I.tok _) ?_⟩
    rw [l]
    exact (rel.val k).getD rd
  · subst ey
    cases (show u = Value.ref b from ry)
    obtain ⟨z, hd, xs, rel, dd⟩ := dt_rd I.hok e
    refine call_meetsIn PySem.F.slot_dict_get dd.typeIs PySem.F.entry_dict_get (PySem.F.args_dict_get_3 _ _ _) (meetsH_dict_get_default (tupleKind (mixKind X.prog X.w)) a b hd r) ⟨tupleKind_room_in1 hu, k, xs, key_of I.hok eb, dd, h _ _ (I.tok _) ?_⟩
    rw [l]
    exact (rel.val k).getD rd
end

def tDGet1 (td ty : TE) : TE := fun σ H Q => td σ H fun x H1 => ∃ a, x = .ref a ∧ IsD H1 a ∧ ty σ H1 fun y H2 => ∃ o, DGet H2 a y o ∧ Q (o.getD .non) H2
def tDGet2 (td ty tx : TE) : TE := fun σ H Q => td σ H fun x H1 => ∃ a, x = .ref a ∧ IsD H1 a ∧ ty σ H1 fun y H2 => tx σ H2 fun z H3 => ∃ o, DGet H3 a y o ∧ Q (o.getD z) H3
/-- d.pop(k): there; d.pop(k, x): there or not -/
def tDPop1 (td ty : TE) : TE := fun σ H Q => td σ H fun x H1 => ∃ a, x = .ref a ∧ IsD H1 a ∧ ty σ H1 fun y H2 => ∃ kvs k v, H2 a = some (.dK kvs) ∧ y = kV k ∧ valV kvs k = some v ∧ Q v (upd H2 a (.dK (dropK kvs k)))
def tDPop2 (td ty tx : TE) : TE := fun σ H Q => td σ H fun x H1 => ∃ a, x = .ref a ∧ IsD H1 a ∧ ty σ H1 fun y H2 => tx σ H2 fun z H3 => ∃ kvs k, H3 a = some (.dK kvs) ∧ y = kV k ∧
  (∀ v, valV kvs k = some v → Q v (upd H3 a (.dK (dropK kvs k)))) ∧ (valV kvs k = none → Q z H3)
section
variable {X : Cx} {o e f : Expr} {apos cpos : Pos} {td ty tx : TE}
theorem pe_dget1 (hu : X.A.units + 1 < cLine) (ho : PE X o td) (he : PE X e ty) (m : M1 X o "get" apos e cpos) : PE X (.Call (.Attribute o "get" apos) [e] [] cpos) (tDGet1 td ty) := by
  intro pins s σ H Q I h
  refine wpAny_Call_method m.base m.few m.line PySem.F.plainAttrs_dict PySem.F.slot_dict_get PySem.F.type_dict_get (thn (ho pins s σ H _ I h) fun u s1 ⟨x, H1, I1, rx, a, ex, d, q1⟩ => ?_)
  subst ex
  obtain rfl : u = Value.ref a := rx
  obtain ⟨t1, t2, _⟩ := isD_at I1 d
  refine ⟨t1, t2, ?_⟩
  rw [m.trees]
  refine Calls.callWith_builtin rfl (Calls.evalArgs_plain (Calls.spliced_cons (thn (he pins s1 σ H1 _ I1 q1) fun iv s2 ⟨y, H2, I2, ry, ov, g, q2⟩ => Calls.spliced_nil ?_)))
  exact d_get1 hu I2 g ry fun w' s3 I3 rw' => ⟨_, H2, I3, rw', q2⟩
theorem pe_dget2 (hu : X.A.units + 1 < cLine) (ho : PE X o td) (he : PE X e ty) (hf : PE X f tx) (m : M2 X o "get" apos e f cpos) : PE X (.Call (.Attribute o "get" apos) [e, f] [] cpos) (tDGet2 td ty tx) := by
  intro pins s σ H Q I h
  refine wpAny_Call_method m.base m.few m.line PySem.F.plainAttrs_dict PySem.F.slot_dict_get PySem.F.type_dict_get (thn (ho pins s σ H _ I h) fun u s1 ⟨x, H1, I1, rx, a, ex, d, q1⟩ => ?_)
  subst ex
  obtain rfl : u = Value.ref a := rx
  obtain ⟨t1, t2, _⟩ := isD_at I1 d
  refine ⟨t1, t2, ?_⟩
  rw [m.trees]
  refine Calls.callWith_builtin rfl (Calls.evalArgs_plain (Calls.spliced_cons (thn (he pins s1 σ H1 _ I1 q1) fun iv s2 ⟨y, H2, I2, ry, q2⟩ =>
    Calls.spliced_cons (thn (hf pins s2 σ H2 _ I2 q2) fun fv s3 ⟨z, H3, I3, rz, ov, g, q3⟩ => Calls.spliced_nil ?_))))
  exact d_get2 hu I3 g ry rz fun w' s4 I4 rw' => ⟨_, H3, I4, rw', q3⟩
theorem pe_dpop1 (ho : PE X o td) (he : PE X e ty) (m : M1 X o "pop" apos e cpos) : PE X (.Call (.Attribute o "pop" apos) [e] [] cpos) (tDPop1 td ty) := by
  intro pins s σ H Q I h
  refine wpAny_Call_method m.base m.few m.line PySem.F.plainAttrs_dict PySem.F.slot_dict_pop PySem.F.type_dict_pop (thn (ho pins s σ H _ I h) fun u s1 ⟨x, H1, I1, rx, a, ex, d, q1⟩ => ?_)
  subst ex
  obtain rfl : u = Value.ref a := rx
  obtain ⟨t1, t2, _⟩ := isD_at I1 d
  refine ⟨t1, t2, ?_⟩
  rw [m.trees]
  refine Calls.callWith_builtin rfl (Calls.evalArgs_plain (Calls.spliced_cons (thn (he pins s1 σ H1 _ I1 q1) fun iv s2 ⟨y, H2, I2, ry, kvs, k, v, ea, ey, l, q2⟩ => Calls.spliced_nil ?_)))
  subst ey
  exact d_pop I2 ea ry l (.inl rfl) fun w' s3 I3 rw' => ⟨v, _, I3, rw', q2⟩
theorem pe_dpop2 (ho : PE X o td) (he : PE X e ty) (hf : PE X f tx) (m : M2 X o "pop" apos e f cpos) : PE X (.Call (.Attribute o "pop" apos) [e, f] [] cpos) (tDPop2 td ty tx) := by
  intro pins s σ H Q I h
  refine wpAny_Call_method m.base m.few m.line PySem.F.plainAttrs_dict PySem.F.slot_dict_pop PySem.F.type_dict_pop (thn (ho pins s σ H _ I h) fun u s1 ⟨x, H1, I1, rx, a, ex, d, q1⟩ => ?_)
  subst ex
  obtain rfl : u = Value.ref a := rx
  obtain ⟨t1, t2, _⟩ := isD_at I1 d
  refine ⟨t1, t2, ?_⟩
  rw [m.trees]
  refine Calls.callWith_builtin rfl (Calls.evalArgs_plain (Calls.spliced_cons (thn (he pins s1 σ H1 _ I1 q1) fun iv s2 ⟨y, H2, I2, ry, q2⟩ =>
    Calls.spliced_cons (thn (hf pins s2 σ H2 _ I2 q2) fun fv s3 ⟨z, H3, I3, rz, kvs, k, ea, ey, q3, q4⟩ => Calls.spliced_nil ?_))))
  subst ey
  cases l : valV kvs k with
  | some v => exact d_pop I3 ea ry l (.inr ⟨fv, rfl⟩) fun w' s4 I4 rw' => ⟨v, _, I4, rw', q3 v l⟩
  | none => exact d_popD I3 ea ry l fun s4 I4 => ⟨z, H3, I4, rz, q4 l⟩
end

/-! ### dict(d): a copy -/
section
variable {X : Cx} {pins : List (Addr × Obj)} {σ : St} {H : Hp} {s : Shared} {a : Addr} {kvs : List (Key × V)} {A : Around} {E : Value → Shared → Prop}
theorem d_copyOf {Q : Value → Shared → Prop} (I : Inv X pins σ H s) (e : Rd H a (.dK kvs)) (h : ∀ p s', H p = none → Inv X pins σ (upd H p (.dK kvs)) s' → Q (.ref p) s') : wpAny (model X.prog X.w) A (call (.type "dict") [.ref a]) Q E s := by
  obtain ⟨z, hd, vs, rel, dd⟩ := dk_rd I.hok e
  refine kt_call_dict hd dd (by rw [← rel.length]; exact z) fun h' dd' hs => ?_
  refine h _ _ (I.hok.fresh (Nat.le_refl _)) (I.laid (a := s.heap.objs.size) (o := .dK kvs) (t' := s.toks) (fun b q hq => ?_) (Nat.le_refl _) (dk_new z (beq_eq_false_iff_ne.mpr (Ne.symm (Nat.ne_of_lt I.big))) rel dd'))
  exact (hs.2 b (Nat.ne_of_lt (Heap.lt_size hq))).trans (Heap.get?_push_of_some _ hq)
end


section
variable {X : Cx} {pins : List (Addr × Obj)} {σ : St} {H : Hp} {s : Shared} {a : Addr} {y : V} {u : Value} {A : Around} {E : Value → Shared → Prop}
/-- d[y], not there: a KeyError -/
theorem d_missing {Q : Value → Shared → Prop} (hu : A.units + 1 < cLine) (hh : A.handled = none) (I : Inv X pins σ H s) (g : DGet H a y none) (ry : RelV y u)
    (h : ∀ h' e t', Heap.NewExc s.heap h' e "KeyError" → E (.ref e) { s with heap := h', toks := t' }) : wpAny (model X.prog X.w) A (getItem (.ref a) u) Q E s := by
  rcases g with ⟨kvs, k, e, ey, l⟩ | ⟨kvs, k, b, e, ey, eb, l⟩
  · subst ey
    obtain ⟨z, hd, vs, rel, dd⟩ := dk_rd I.hok e
    have hn : valueAt vs k = none := RelO.none_of (by rw [l]; exact rel.val k)
    exact wpAny_getItem_missing_of (kV_is ry) hd hh dd.mapOf hn fun h' ex ne => h h' ex _ ne
  · subst ey
    cases (show u = Value.ref b from ry)
    obtain ⟨z, hd, xs, rel, dd⟩ := dt_rd I.hok e
    have hn : (atKey xs k).map (·.2) = none := RelO.none_of (by rw [l]; exact rel.val k)
    exact wpAny_getItem_missing_heap (tupleKind_room_in1 hu) (key_of I.hok eb) hd hh dd (Option.map_eq_none_iff.mp hn) fun h' ex ne => h h' ex _ ne
end
end L2

namespace Att
open PySem PySem.W PySem.Calls PyProof.Rows

/-! ### the script -/
theorem ints_of_wellAll {P : Params} {h : Heap} : ∀ (ns : List Int) (vs : List Value), WellAll P h vs (ns.map WData.int) → IntsAre vs ns := by
  intro ns
  induction ns with
  | nil =>
    intro vs w
    rw [List.map_nil] at w
    cases w
    exact .nil
  | cons n ns ih =>
    intro vs w
    rw [List.map_cons] at w
    cases w with
    | cons a b =>
      cases a
      exact .cons _ _ (ih _ b)

theorem script_of {l : OpenLaw} {n : Nat} (hn : l.most = some n) {P : Params} {h : Heap} {args : List WData} {vals : List Value}
    (hpre : l.row.toRowW.claim.pre args = true) (hwl : WellAll P h vals args) :
    ∃ a vs ns, vals = [Value.ref a] ∧ args = [WData.list (ns.map WData.int)] ∧ h.get? a = some { cls := .type "list", data := .seq vs.toArray } ∧ IntsAre vs ns ∧ ns.length ≤ n := by
  have hsh : WShape.hasAll [] args [.list .int] = true := (pre_splitW hpre).1
  have hc : l.pre.holds [] { args := args } = true := (pre_splitW hpre).2
  obtain ⟨d, r, rfl, h1, h2⟩ := hasAllW_cons hsh
  obtain rfl := hasAllW_nil h2
  obtain ⟨xs, rfl, h3⟩ := hasW_list h1
  obtain ⟨ns, rfl⟩ := items_int h3
  have hlen : ns.length ≤ n := by
    unfold OpenLaw.pre at hc
    have h4 : (WTm.not (.lt (.lit (.int (n : Int))) (.len (.arg 0)))).holds [] { args := [.list (ns.map .int)] } = true := by
      have h4 := (holds_andW hc).1
      rw [hn] at h4
      exact h4
    have h5 := condW_of h4 (w_not (w_lt w_lit (w_len_list (w_arg rfl))))
    rw [List.length_map] at h5
    refine Nat.le_of_not_lt fun q => ?_
    have q' : (n : Int) < ((ns.length : Nat) : Int) := by omega
    first
      | (rw [decide_eq_true q'] at h5; exact absurd h5 (by decide))
      | (simp at h5; omega)
  cases hwl with
  | cons w1 w2 =>
    cases w2
    cases w1 with
    | list ho hall => exact ⟨_, _, ns, rfl, rfl, ho, ints_of_wellAll ns _ hall, hlen⟩

theorem post_true (l : OpenLaw) (args : List WData) : l.row.toRowW.claim.post args (.bool true) args = true :=
  postW_of (r := l.row.toRowW) (X := (true == true))
    (show WShape.has [] (.bool true) .bool = true by first | rfl | decide | simp [WShape.has, WShape.arms, WShape.armsAll])
    (show (WTm.eq .res (.lit (.bool true))).value [] { args := args, res := some (.bool true), after := args } = some (.bool (true == true)) from w_eq_bool (w_res rfl) w_lit) rfl

/-! ### the attachment: holds_open's last premise (the goal 'hc' behind k_head) from a wpAny of the law's body -/
theorem attach {l : OpenLaw} {n : Nat} {q : Program} {loose : List Str} {XP : (Str → Option Value) → Heap → Prop} {YP : World → Heap → Prop} {d : DefRec} {x : Str}
    (hn : l.most = some n) (hdf : d.params.defaults = [])
    (hbind : ∀ pm cd doc v : Value, bindArgs (docDef d.name d.params d.body d.scope pm cd doc) ⟨[v], []⟩ = pure [(x, v)])
    (hx : d.scope.names.lookup x = some .local ∨ d.scope.names.lookup x = some .cell)
    (hk : d.scope.kind = .function) (hco : d.scope.isCoroutine = false) (hgen : d.scope.isGenerator = false)
    (body : ∀ (w : World) (s₀ s₁ s : Shared) (mg mb : Str → Option Value) (fa : Addr) (o : Obj) (pm cd doc : Value) (a : Addr) (vs : List Value) (ns : List Int),
      Ground q loose [] XP w s₀ mg mb s₁.heap → YP w s₁.heap →
      s₁.heap.get? fa = some o → o.data = .func (docDef d.name d.params d.body d.scope pm cd doc) → s₁.heap.CodeRec cd d.name → mg d.name = some (.ref fa) →
      s₁.heap.get? a = some { cls := .type "list", data := .seq vs.toArray } → IntsAre vs ns → ns.length ≤ n →
      s.gens = #[] → s.os = s₁.os →
      Fr s₁.heap s₁.heap.objs.size s.heap (bindL (envOfC d.name d.scope s₁.heap.objs.size fa cd).kindOf [(x, .ref a)] fun _ => none) →
      Cl s₁.heap.objs.size (cellsFrom (s₁.heap.objs.size + 1) d.scope.names []) s.heap (bindC (envOfC d.name d.scope s₁.heap.objs.size fa cd).kindOf [(x, .ref a)] fun _ => none) →
      wpAny (model l.prog w) (callerA.deeper (envOfC d.name d.scope s₁.heap.objs.size fa cd)) (execs d.body (envOfC d.name d.scope s₁.heap.objs.size fa cd))
        (fun f s' => f = .ret (.bool true) ∧ OldK s₁.heap s'.heap ∧ s'.os = s₁.os ∧ AllBare s'.gens) (fun _ _ => False) s) :
    WalkO q loose XP YP l.row.toRowW d [] (fun f vs => PySem.call f vs) := by
  intro w s₀ s₁ mg mb G Y fa o pm cd doc dV kV ho hd hcd hD hmg hg args vals as hpre hlay hrd hwl hlo
  obtain rfl : dV = .none := Dflts.none hD hdf
  obtain rfl : kV = .none := Dflts.noKw hD
  obtain ⟨a, vs, ns, rfl, rfl, hobj, hints, hlen⟩ := script_of hn hpre hwl
  refine enter_call ?_
  refine call_cells_ret (o := o) (by rw [depth_caller]; decide) ho (fd_plain hd) G.T.nolimit hcd (hbind pm cd doc (.ref a)) (fun y hy => ?_) (fun h₁ tk F X => ?_) hco hgen hk
  · obtain rfl : y = (x, Value.ref a) := List.mem_singleton.mp hy
    rcases hx with e | e
    · exact .inl e
    · exact .inr ⟨e, cellsFrom_some _ _ _ (.inl e)⟩
  · refine wpAny_mono (body w s₀ s₁ { s₁ with heap := h₁, toks := tk } mg mb fa o pm cd doc a vs ns G Y ho (fd_plain hd) hcd hmg hobj hints hlen hg rfl F X) (fun f s' hq => ?_) (fun _ _ hq => hq)
    obtain ⟨rfl, h2, h3, h4⟩ := hq
    exact ⟨.inl ⟨.bool true, .bool true, [], rfl, fun _ => rfl, .bool true, post_true l _, fun _ => ⟨List.Pairwise.nil, fun _ hm => (nomatch hm)⟩⟩, h2, h3, h4⟩

/-- the same from a codeAny of the CALL (for a layer whose function contracts speak of calls) -/
theorem attach_call {l : OpenLaw} {n : Nat} {q : Program} {loose : List Str} {XP : (Str → Option Value) → Heap → Prop} {YP : World → Heap → Prop} {d : DefRec}
    (hn : l.most = some n) (hdf : d.params.defaults = [])
    (call : ∀ (w : World) (s₀ s₁ : Shared) (mg mb : Str → Option Value) (fa : Addr) (o : Obj) (pm cd doc : Value) (a : Addr) (vs : List Value) (ns : List Int),
      Ground q loose [] XP w s₀ mg mb s₁.heap → YP w s₁.heap →
      s₁.heap.get? fa = some o → o.data = .func (docDef d.name d.params d.body d.scope pm cd doc) → s₁.heap.CodeRec cd d.name → mg d.name = some (.ref fa) →
      s₁.heap.get? a = some { cls := .type "list", data := .seq vs.toArray } → IntsAre vs ns → ns.length ≤ n → s₁.gens = #[] →
      codeAny (model l.prog w) callerA (.call (.ref fa) ⟨[.ref a], []⟩) (fun r s' => r = .ok (.ret (.bool true)) ∧ OldK s₁.heap s'.heap ∧ s'.os = s₁.os ∧ AllBare s'.gens) s₁) :
    WalkO q loose XP YP l.row.toRowW d [] (fun f vs => PySem.call f vs) := by
  intro w s₀ s₁ mg mb G Y fa o pm cd doc dV kV ho hd hcd hD hmg hg args vals as hpre hlay hrd hwl hlo
  obtain rfl : dV = .none := Dflts.none hD hdf
  obtain rfl : kV = .none := Dflts.noKw hD
  obtain ⟨a, vs, ns, rfl, rfl, hobj, hints, hlen⟩ := script_of hn hpre hwl
  refine enter_call (codeAny_mono (call w s₀ s₁ mg mb fa o pm cd doc a vs ns G Y ho (fd_plain hd) hcd hmg hobj hints hlen hg) fun r s' hq => ?_)
  obtain ⟨rfl, h2, h3, h4⟩ := hq
  exact ⟨.inl ⟨.bool true, .bool true, [], rfl, fun _ => rfl, .bool true, post_true l _, fun _ => ⟨List.Pairwise.nil, fun _ hm => (nomatch hm)⟩⟩, h2, h3, h4⟩

/-- the same where the top left finished generators (o_head chose holds_openN): nothing may have changed at all and no generator may be left -/
theorem attachN {l : OpenLaw} {n : Nat} {q : Program} {loose : List Str} {XP : (Str → Option Value) → Heap → Prop} {YP : World → Heap → Prop} {d : DefRec} {x : Str}
    (hn : l.most = some n) (hdf : d.params.defaults = [])
    (hbind : ∀ pm cd doc v : Value, bindArgs (docDef d.name d.params d.body d.scope pm cd doc) ⟨[v], []⟩ = pure [(x, v)])
    (hx : d.scope.names.lookup x = some .local ∨ d.scope.names.lookup x = some .cell)
    (hk : d.scope.kind = .function) (hco : d.scope.isCoroutine = false) (hgen : d.scope.isGenerator = false)
    (body : ∀ (w : World) (s₀ s₁ s : Shared) (mg mb : Str → Option Value) (fa : Addr) (o : Obj) (pm cd doc : Value) (a : Addr) (vs : List Value) (ns : List Int),
      Ground q loose [] XP w s₀ mg mb s₁.heap → YP w s₁.heap →
      s₁.heap.get? fa = some o → o.data = .func (docDef d.name d.params d.body d.scope pm cd doc) → s₁.heap.CodeRec cd d.name → mg d.name = some (.ref fa) →
      s₁.heap.get? a = some { cls := .type "list", data := .seq vs.toArray } → IntsAre vs ns → ns.length ≤ n →
      s.gens = #[] → s.os = s₁.os →
      Fr s₁.heap s₁.heap.objs.size s.heap (bindL (envOfC d.name d.scope s₁.heap.objs.size fa cd).kindOf [(x, .ref a)] fun _ => none) →
      Cl s₁.heap.objs.size (cellsFrom (s₁.heap.objs.size + 1) d.scope.names []) s.heap (bindC (envOfC d.name d.scope s₁.heap.objs.size fa cd).kindOf [(x, .ref a)] fun _ => none) →
      wpAny (model l.prog w) (callerA.deeper (envOfC d.name d.scope s₁.heap.objs.size fa cd)) (execs d.body (envOfC d.name d.scope s₁.heap.objs.size fa cd))
        (fun f s' => f = .ret (.bool true) ∧ (∀ b o, s₁.heap.get? b = some o → s'.heap.get? b = some o) ∧ s'.os = s₁.os ∧ s'.gens = #[]) (fun _ _ => False) s) :
    WalkN q loose XP YP l.row.toRowW d [] (fun f vs => PySem.call f vs) := by
  intro w s₀ s₁ mg mb G Y fa o pm cd doc dV kV ho hd hcd hD hmg hg args vals as hpre hlay hrd hwl hlo
  obtain rfl : dV = .none := Dflts.none hD hdf
  obtain rfl : kV = .none := Dflts.noKw hD
  obtain ⟨a, vs, ns, rfl, rfl, hobj, hints, hlen⟩ := script_of hn hpre hwl
  refine enter_callW ?_
  refine call_cells_ret (o := o) (by rw [depth_caller]; decide) ho (fd_plain hd) G.T.nolimit hcd (hbind pm cd doc (.ref a)) (fun y hy => ?_) (fun h₁ tk F X => ?_) hco hgen hk
  · obtain rfl : y = (x, Value.ref a) := List.mem_singleton.mp hy
    rcases hx with e | e
    · exact .inl e
    · exact .inr ⟨e, cellsFrom_some _ _ _ (.inl e)⟩
  · refine wpAny_mono (body w s₀ s₁ { s₁ with heap := h₁, toks := tk } mg mb fa o pm cd doc a vs ns G Y ho (fd_plain hd) hcd hmg hobj hints hlen hg rfl F X) (fun f s' hq => ?_) (fun _ _ hq => hq)
    obtain ⟨rfl, h2, h3, h4⟩ := hq
    exact ⟨.inl ⟨.bool true, .bool true, [], rfl, fun _ => rfl, .bool true, post_true l _, fun _ => ⟨List.Pairwise.nil, fun _ hm => (nomatch hm)⟩⟩, h2, h3, h4⟩

/-! ### rules over ANY heap (no ledger) from facts about the written part K: the library's own take a ledger (News) for what they write -/
section
variable {prog : Program} {w : World} {A : Around} {E : Value → Shared → Prop} {s : Shared} {K : Frag}

/-- a def of the module, or a method (qual 'C.m'), entered: the frame is the next address; cells behind it -/
theorem call_fn {R : Result → Shared → Prop} {name qual : Str} {params : Arguments} {body : List Stmt} {scope : Scope} {dV kV doc pm cdv ct oc : Value} {an od : Option Addr} {osl : Array (Option Value)} {f : Addr} {args : Args} {binds : List (Str × Value)}
    (X : K.In s.heap) (hlim : s.heap.NoLimit) (ho : K.lookup f = some ⟨oc, od, .func (fnOf name qual params body scope dV kV doc pm an cdv ct), osl⟩) (hcd : codeIn K cdv qual = true) (hroom : A.depth < recursionLimit)
    (hbind : BindsTo s (fnOf name qual params body scope dV kV doc pm an cdv ct) args binds)
    (hkind : (binds.all fun y => scope.names.lookup y.1 == some .local || scope.names.lookup y.1 == some .cell) = true)
    (h : ∀ s₁, InCallC s s.heap.objs.size (bindL (envOfC qual scope s.heap.objs.size f cdv).kindOf binds fun _ => none) (cellsFrom (s.heap.objs.size + 1) scope.names [])
        (bindC (envOfC qual scope s.heap.objs.size f cdv).kindOf binds fun _ => none) s₁ →
      wpAny (model prog w) (A.deeper (envOfC qual scope s.heap.objs.size f cdv)) (execs body (envOfC qual scope s.heap.objs.size f cdv))
        (fun fl s' => R (.ok (.ret (match fl with | .ret v => v | _ => .none))) s')
        (fun e s' => wpAny (model prog w) (A.deeper (envOfC qual scope s.heap.objs.size f cdv)) (leaving (envOfC qual scope s.heap.objs.size f cdv) e) (fun _ s'' => R (.error e) s'') (fun e' s'' => R (.error e') s'') s') s₁)
    (hco : scope.isCoroutine = false) (hgen : scope.isGenerator = false) (hk : scope.kind = .function) : codeAny (model prog w) A (.call (.ref f) args) R s := by
  refine codeAny_call_function hroom (X _ _ ho) rfl hco hgen rfl (codeRec_of X hcd) (hbind _ _ _ _ ?_)
  refine wpAny_newFunctionEnv_cells hk (kindsX hkind _) fun env he s₁ x => ?_
  subst he
  exact ⟨hlim.keeps x.toInCall.keep, codeAny_func (h s₁ x)⟩

/-- C(..): dict at size, instance at size + 1, then __init__ -/
theorem make_obj {R : Result → Shared → Prop} {C fI : Addr} {rest : List Value} {kw : List (Str × Value)}
    (X : K.In s.heap) (hm : makesIn K C = true) (hi : findIn K (.ref C) "__init__" = some (some (.ref fI))) (hf : isFn K (.ref fI) = true)
    (h : codeAny (model prog w) (A.under (.builtin "type.__call__" ⟨.ref C :: rest, kw⟩)) (.call (.ref fI) ⟨.ref (s.heap.objs.size + 1) :: rest, kw⟩) (InitBack (s.heap.objs.size + 1) R)
      { s with heap := (s.heap.push emptyDict).push (instObj C s.heap.objs.size) }) : codeAny (model prog w) A (.call (.ref C) ⟨rest, kw⟩) R s := by
  obtain ⟨hh, g, d, t, os⟩ := s
  exact make_core (makes_of X hm) (looks_findIn X hi) (fun self => bind_fn X self (beq_iff_eq.mp hf)) (.inl rfl) h

/-- x.name where the instance's dict holds the name and the class does not -/
theorem get_field {x C : Addr} {ox : Obj} {es : List DictEntry} {n : Nat} {name : Str} {expr : Bool} {v : Value} {Q : Value → Shared → Prop}
    (X : K.In s.heap) (I : PySem.W.InstAt s.heap x ox C (some (dictOf es n))) (hg : plainGet K C name = true) (hh : hasDictIn K C = true) (ha : findIn K (.ref C) name = some none)
    (hl : getL name es = some (some v)) (hv : handedIn v = true) (h : Q v { s with toks := s.toks + 1 }) : wpAny (model prog w) A (getAttr (.ref x) name expr) Q E s :=
  get_value X I (plainGet_of hg).1 (findObj_own hh ha rfl hl) hv h

/-- x.m(..): the method found in the class -/
theorem get_method {x C f : Addr} {ox : Obj} {es : List DictEntry} {n : Nat} {name : Str} {pl : Sem Bool} {Q : Value × List Value → Shared → Prop}
    (X : K.In s.heap) (I : PySem.W.InstAt s.heap x ox C (some (dictOf es n))) (hg : plainGet K C name = true) (hf : findIn K (.ref C) name = some (some (.ref f))) (ht : isFn K (.ref f) = true)
    (hl : getL name es = some none) (h : Q (.ref f, [.ref x]) s) : wpAny (model prog w) A (getMethod (.ref x) name pl) Q E s :=
  method_fn X I (plainGet_of hg).1 (plainGet_of hg).2 hf (beq_iff_eq.mp ht) (by show (lookIn name (dictOf es n)).map _ = _; rw [lookIn_dict, hl]; rfl) h

/-! the whole heap as the ledger: makes every rule that writes through a ledger a rule over any heap -/
def noObjs (h : Heap) : Heap := { h with objs := #[] }
theorem noObjs_get (h : Heap) (b : Addr) : (noObjs h).get? b = none := by
  cases e : (noObjs h).get? b with
  | none => rfl
  | some o => exact absurd (Heap.lt_size e) (Nat.not_lt_zero _)
def ledger (h : Heap) (L d : Addr) : List (Addr × Obj) := (List.range h.objs.size).filterMap fun a => if a = L ∨ a = d then none else (h.get? a).map fun o => (a, o)
theorem mem_ledger {h : Heap} {L d a : Addr} {o : Obj} : (a, o) ∈ ledger h L d ↔ a ≠ L ∧ a ≠ d ∧ h.get? a = some o := by
  unfold ledger
  rw [List.mem_filterMap]
  constructor
  · rintro ⟨b, _, e⟩
    split at e
    · cases e
    · rename_i hb
      obtain ⟨o', ho, e'⟩ := Option.map_eq_some_iff.mp e
      cases e'
      exact ⟨fun q => hb (.inl q), fun q => hb (.inr q), ho⟩
  · rintro ⟨n1, n2, ho⟩
    refine ⟨a, List.mem_range.mpr (Heap.lt_size ho), ?_⟩
    rw [if_neg (show ¬ (a = L ∨ a = d) from fun q => q.elim n1 n2), ho] <;> rfl
theorem news_ledger {h : Heap} {L d : Addr} {od : Obj} (hne : d ≠ L) (ho : h.get? d = some od) : News (noObjs h) L h ([] ++ (d, od) :: ledger h L d) := by
  rintro ⟨a, o⟩ hp
  rcases List.mem_cons.mp hp with e | hp
  · cases e
    exact ⟨ho, hne, noObjs_get _ _⟩
  · obtain ⟨n1, n2, e⟩ := mem_ledger.mp hp
    exact ⟨e, n1, noObjs_get _ _⟩
theorem fr_all {h : Heap} {L : Addr} {m : Str → Option Value} (n : h.Ns L m) : Fr (noObjs h) L h m :=
  ⟨n, fun b o e => (by rw [noObjs_get] at e; cases e), Nat.zero_le _⟩
/-- Upd of the head entry (for append_K, setItem_K ..) -/
theorem upd_ledger {h : Heap} {L d : Addr} {o o' : Obj} : Upd d o o' ((d, o) :: ledger h L d) ((d, o') :: ledger h L d) :=
  .head fun ⟨_, _⟩ hp => (mem_ledger.mp hp).2.1

/-- x.name = v over any heap: L is any namespace of the heap (the frame's, say): its map stays, its object is not told; all else but the dict stays -/
theorem set_field {x C dx L : Addr} {ox : Obj} {m : Str → Option Value} {es es' : List DictEntry} {n n' : Nat} {name : Str} {v : Value} {Q : Unit → Shared → Prop}
    (X : K.In s.heap) (I : PySem.W.InstAt s.heap x ox C (some (dictOf es n))) (hd : ox.dict = some dx) (hL : s.heap.Ns L m) (hne : dx ≠ L)
    (hs : findIn K (.ref C) "__setattr__" = some (some (.builtin "object.__setattr__"))) (hp : plainOver K C = true) (ht : takerIn K C name = some none) (hh : hasDictIn K C = true) (hl : (getL name es).isSome = true)
    (e : (putL name (PyData.keyHash w.params name) (.str name (s.toks + 1)) v es, putN name es n) = (es', n')) (hz : es'.length ≤ 1000)
    (h : ∀ h' : Heap, h'.Ns L m → h'.get? dx = some (dictOf es' n') → (∀ b o, b ≠ dx → b ≠ L → s.heap.get? b = some o → h'.get? b = some o) → Q () { s with heap := h', toks := s.toks + 2 }) :
    wpAny (model prog w) A (setAttr (.ref x) name v) Q E s := by
  obtain ⟨e1, e2⟩ := Prod.mk.inj e
  have hdx : s.heap.get? dx = some (dictOf es n) := by
    have := I.dict
    rw [hd] at this
    exact this
  refine set_plain X I hs (osa_dict (s := { s with toks := s.toks + 1 }) (h₀ := noObjs s.heap) (L := L) (m := m) (od := dictOf es n) (od' := dictOf es' n') (es := es') (n := n') (pre := []) (post := ledger s.heap L dx)
    (fr_all hL) (news_ledger hne hdx) X I hd hp ht hh hl (fun _ q => nomatch q) (fun ⟨_, _⟩ q => (mem_ledger.mp q).2.1) (by rw [putName_dict, e1, e2]) rfl hz fun h' F' N' => ?_)
  exact h h' F'.ns (N'.get (List.Mem.head _)) fun b o n1 n2 ho => N'.get (List.Mem.tail _ (mem_ledger.mpr ⟨n2, n1, ho⟩))
end
end Att

namespace L2
open PySem PySem.Spec PyProof.Rows

theorem vals_ints : ∀ {vs : List Value} {ns : List Int}, IntsAre vs ns → Vals (ns.map V.int) vs
  | _, _, .nil => .nil
  | _, _, .cons n t h => .cons ⟨t, rfl⟩ (vals_ints h)

/-- nothing is tracked but the script, known to the object (or it is an object of the module) -/
def Only (H : Hp) : Prop := ∀ b, H b = none ∨ ∃ o xs, H b = some (.frz o (.lst xs))

/-- THE HEAD: the law's promise, at the heap behind the top. F, the promise of the law's def, may use that base is part of the heap (so K.In base, base.Ns mainGlobals mg stand in Mod) -/
theorem law_call {P : Program} {w : World} {K : PySem.W.Frag} {mg mb : Str → Option Value} {CX : CXT} {k : Nat} {fa a : Addr} {fd : FuncData} {x : Str} {sp : Sp} {s₁ : Shared} {vs : List Value} {ns : List Int}
    (KX : K.In s₁.heap) (hns : s₁.heap.Ns mainGlobals mg) (hb : s₁.heap.Ns builtinsNs mb) (hbb : ∀ x : Str, x ≠ "__name__" → mb x = bootBuiltins x) (hlim : s₁.heap.NoLimit) (hg : s₁.gens = #[])
    (ha : s₁.heap.get? a = some { cls := .type "list", data := .seq vs.toArray }) (hi : IntsAre vs ns) (hl : ns.length ≤ sizeLine) (hr : Room k callerA)
    (F : ∀ base : Heap, K.In base → base.Ns mainGlobals mg → FnOk P w K mg base CX k fa fd [x] sp) (hbind : ∀ (s : Shared) (u : Value), BindsTo s fd ⟨[u], []⟩ [(x, u)])
    (hsp : ∀ H : Hp, Only H → SqL K H a (ns.map V.int) → sp [.ref a] H (fun v _ => v = .bl true) fun _ _ _ => False)
    (hCX : ∀ H e s', CX [] H s₁ (fun _ _ _ => False) e s' → False) :
    codeAny (model P w) callerA (.call (.ref fa) ⟨[.ref a], []⟩) (fun r s' => r = .ok (.ret (.bool true)) ∧ OldK s₁.heap s'.heap ∧ s'.os = s₁.os ∧ AllBare s'.gens) s₁ := by
  have rv := vals_ints hi
  have lenV := hi.length
  -- from an abstract heap in which nothing but the script may be tracked
  have core : ∀ H : Hp, Only H → SqL K H a (ns.map V.int) → HOk P w H s₁.heap → (∀ b, H b ≠ none → b = a) → (H a ≠ none → K.lookup a = none) →
      codeAny (model P w) callerA (.call (.ref fa) ⟨[.ref a], []⟩) (fun r s' => r = .ok (.ret (.bool true)) ∧ OldK s₁.heap s'.heap ∧ s'.os = s₁.os ∧ AllBare s'.gens) s₁ := by
    intro H hO hS hok hA hK
    have base_of : ∀ {b : Addr} {o : Obj}, s₁.heap.get? b = some o → H b = none → (hidT s₁.heap H).get? b = some o := fun e n => hidT_get e n
    have noA : ∀ {b : Addr} {o : Obj} {es : Array DictEntry} {ep : Nat}, s₁.heap.get? b = some o → o.data = .dict es ep → H b = none := fun {b o es ep} e d => by
      cases q : H b with
      | none => rfl
      | some u =>
        have e' : b = a := hA b (by rw [q]; simp)
        subst e'
        rw [ha] at e; cases e
        have d' : Data.seq vs.toArray _ = Data.dict es ep := d
        cases d'
    have nsK : ∀ {b : Addr} {m : Str → Option Value}, s₁.heap.Ns b m → (hidT s₁.heap H).Ns b m := fun {b m} ⟨o, es, ep, e, d, r⟩ => ⟨o, es, ep, base_of e (noA e d), d, r⟩
    have hKb : K.In (hidT s₁.heap H) := fun b o e => base_of (KX b o e) (by
      cases q : H b with
      | none => rfl
      | some u =>
        have e' : b = a := hA b (by rw [q]; simp)
        subst e'
        rw [hK (by rw [q]; simp)] at e; cases e)
    have hM : Mod K mg (hidT s₁.heap H) := ⟨hKb, nsK hns, ⟨mb, nsK hb, hbb⟩, let ⟨mc, h1, h2⟩ := hlim; ⟨mc, nsK h1, h2⟩⟩
    have e0 : Env0 P w K mg (hidT s₁.heap H) callerA [] s₁ H := ⟨rfl, hM, fun b o e => of_hidT e, Nat.le_of_eq (hidT_size _ _), trivial, fun b hb => absurd (show b ∈ ([] : List Addr) from hb) (by simp), hok, .of_eq hg⟩
    refine codeAny_mono ((F _ hKb (nsK hns)).run callerA [] s₁ H ⟨[.ref a], []⟩ [.ref a] [.ref a] _ _ hr e0 (hbind s₁ (.ref a)) (.cons rfl .nil) (hsp H hO hS)) fun r s' h => ?_
    cases r with
    | error e => exact (hCX H e s' h).elim
    | ok fl =>
      cases fl with
      | next => exact False.elim h
      | brk => exact False.elim h
      | cont => exact False.elim h
      | ret u =>
        obtain ⟨v, H', os, bare, un, hok', r', q⟩ := h
        have q' : v = .bl true := q
        subst q'
        obtain rfl : u = Value.bool true := r'
        refine ⟨rfl, OldK.of_keep fun b o e => ?_, os, bare⟩
        cases q : H b with
        | none => exact un.keep b o e q (by intro z; exact absurd (show b ∈ ([] : List Addr) from z) (by simp)) (by simp)
        | some u =>
          rcases hO b with z | ⟨ob, xs, z⟩
          · rw [q] at z; cases z
          · have z2 := un.frzs b ob _ z
            obtain ⟨e1, _⟩ := hok b _ z
            obtain ⟨e2, _⟩ := hok' b _ z2
            rw [e] at e1; cases e1
            exact e2
  cases hk : K.lookup a with
  | some o =>
    -- the script is one of the module's own objects
    have e := KX a o hk
    rw [ha] at e
    cases e
    refine core (fun _ => none) (fun _ => .inl rfl) (.inr ⟨_, vs.toArray, _, hk, rfl, rfl, rfl, by rw [List.size_toArray, lenV]; exact hl, by simpa using rv⟩) (fun b u z => by have z' : (none : Option HO) = some u := z; cases z') (fun b z => absurd rfl z) fun z => absurd rfl z
  | none =>
    refine core (fun b => if b = a then some (.frz { cls := .type "list", data := .seq vs.toArray } (.lst (ns.map V.int))) else none) (fun b => ?_) (.inl (.inr ⟨{ cls := .type "list", data := .seq vs.toArray }, if_pos rfl⟩)) (fun b u z => ?_) (fun b z => ?_) fun _ => hk
    · by_cases hb : b = a
      · exact .inr ⟨_, _, if_pos hb⟩
      · exact .inl (if_neg hb)
    · by_cases hb : b = a
      · have z' := (if_pos hb).symm.trans z
        cases z'
        subst hb
        exact ⟨ha, by rw [List.length_map]; exact hl, vs, _, rv, ha⟩
      · have z' := (if_neg hb).symm.trans z
        cases z'
    · by_cases hb : b = a
      · exact hb
      · exact absurd (if_neg hb) z
end L2

namespace L2
open PySem PySem.Spec PyProof.Rows

abbrev KOf {K : PySem.W.Frag} {h : Heap} (_ : K.In h) : PySem.W.Frag := K

/-- the goal that k_head leaves (case hc), from the law's promise. F gives the function object fd (K's own) once, then the promise over every base -/
theorem walk_of {l : PySem.W.OpenLaw} {n k : Nat} {q : Program} {loose : List Str} {XP : (Str → Option Value) → Heap → Prop} {YP : World → Heap → Prop} {d : DefRec} {K : Params → PySem.W.Frag} {CX : World → CXT} {sp : World → Sp} {x : Str}
    (hn : l.most = some n) (hn2 : n ≤ sizeLine) (hdf : d.params.defaults = []) (hr : Room k callerA)
    (hY : ∀ (w : World) (h : Heap), YP w h → (K w.params).In h)
    (F : ∀ (w : World) (mg : Str → Option Value) (fa : Addr) (h : Heap), (K w.params).In h → h.Ns mainGlobals mg → mg d.name = some (.ref fa) →
      ∃ fd : FuncData, (∀ (s : Shared) (u : Value), BindsTo s fd ⟨[u], []⟩ [(x, u)]) ∧
        ∀ base : Heap, (K w.params).In base → base.Ns mainGlobals mg → FnOk l.prog w (K w.params) mg base (CX w) k fa fd [x] (sp w))
    (hsp : ∀ (w : World) (H : Hp) (a : Addr) (ns : List Int), ns.length ≤ n → Only H → SqL (K w.params) H a (ns.map V.int) → sp w [.ref a] H (fun v _ => v = .bl true) fun _ _ _ => False)
    (hCX : ∀ (w : World) (H : Hp) (s : Shared) (e : Value) (s' : Shared), CX w [] H s (fun _ _ _ => False) e s' → False) :
    PySem.W.WalkO q loose XP YP l.row.toRowW d [] (fun f vs => PySem.call f vs) := by
  refine Att.attach_call hn hdf fun w s₀ s₁ mg mb fa o pm cd doc a vs ns G Y ho hd hcd hmg hobj hints hlen hg => ?_
  have KX := hY w _ Y
  obtain ⟨fd, hb, hF⟩ := F w mg fa _ KX G.T.g hmg
  exact law_call KX G.T.g G.T.b G.T.builtins G.T.nolimit hg hobj hints (Nat.le_trans hlen hn2) hr hF hb (fun H hO hS => hsp w H a ns hlen hO hS) fun H e s' => hCX w H s₁ e s'
/-- the same where the promise hangs on the written part alone: (sp := My.sp_law), no hole under a binder -/
theorem walk_ofK {l : PySem.W.OpenLaw} {n k : Nat} {q : Program} {loose : List Str} {XP : (Str → Option Value) → Heap → Prop} {YP : World → Heap → Prop} {d : DefRec} {K : Params → PySem.W.Frag} {CX : CXT} {sp : PySem.W.Frag → Sp} {x : Str}
    (hn : l.most = some n) (hn2 : n ≤ sizeLine) (hdf : d.params.defaults = []) (hr : Room k callerA)
    (hY : ∀ (w : World) (h : Heap), YP w h → (K w.params).In h)
    (F : ∀ (w : World) (mg : Str → Option Value) (fa : Addr) (h : Heap), (K w.params).In h → h.Ns mainGlobals mg → mg d.name = some (.ref fa) →
      ∃ fd : FuncData, (∀ (s : Shared) (u : Value), BindsTo s fd ⟨[u], []⟩ [(x, u)]) ∧
        ∀ base : Heap, (K w.params).In base → base.Ns mainGlobals mg → FnOk l.prog w (K w.params) mg base CX k fa fd [x] (sp (K w.params)))
    (hsp : ∀ (K : PySem.W.Frag) (H : Hp) (a : Addr) (ns : List Int), ns.length ≤ n → Only H → SqL K H a (ns.map V.int) → sp K [.ref a] H (fun v _ => v = .bl true) fun _ _ _ => False)
    (hCX : ∀ (H : Hp) (s : Shared) (e : Value) (s' : Shared), CX [] H s (fun _ _ _ => False) e s' → False) :
    PySem.W.WalkO q loose XP YP l.row.toRowW d [] (fun f vs => PySem.call f vs) :=
  walk_of (K := K) (CX := fun _ => CX) (sp := fun w => sp (K w.params)) hn hn2 hdf hr hY F (fun w H a ns h1 h2 h3 => hsp (K w.params) H a ns h1 h2 h3) fun _ H s e s' => hCX H s e s'
end L2

/- THE LAST THEOREM (shape; LID, My.* are yours):
   My.Adr: a structure of the addresses that your layer names (classes, functions); My.Txt K t: a structure (Prop) of the equations over K;
   My.txt_mk : {K} {implicit addresses ..} (e1 : nsIn K mainGlobals "law" = some (some (.ref f))) (e2 : K.lookup f = some ⟨oc, od, .func (fnOf "law" "law" params body scope dV kV doc pm an cdv ct), sl⟩) (e3 : codeIn K cdv "law" = true) .. : ∃ t, My.Txt K t

set_option maxRecDepth 100000 in
set_option maxHeartbeats 0 in
theorem PySem.Challenge.cw_LID_holds : PySem.Challenge.rw_LID.Holds := by
  w_on; o_law; k_head; (case hw => w_witness2)
  k_fill
  refine L2.walk_of (l := PySem.Challenge.rw_LID) (n := 63) (k := 40) (x := "script") (CX := fun w => ..) (sp := fun _ => My.sp_law) rfl (by decide) rfl ⟨rfl, by decide, by decide⟩ (fun w h Y => PySem.W.kIn_of Y) ?F ?S ?C
  case F =>
    intro w mg fa h KX G hmg
    have T : ∃ t, My.Txt (L2.KOf KX) t := by
      dsimp only [L2.KOf]                          -- K must stand as «<heap const> w.params» for k_is
      refine' My.txt_mk ?e1 ?e2 ?e3 ..
      (case e1 => PySem.W.k_is)                    -- in the order: a name -> its address -> its object -> its parts
      (case e2 => PySem.W.k_is)
      ..
    obtain ⟨t, T⟩ := T
    have e0 := hmg.symm.trans (PySem.W.mg_of KX G T.law)
    cases e0                                       -- fa is the law's own address
    exact ⟨_, fun s u => .of_eq rfl, fun base kb nb => My.law_fn T kb nb⟩     -- if «.of_eq rfl» comes too early: refine' ⟨_, ?b, fun base kb nb => My.law_fn T kb nb⟩; exact fun s u => .of_eq rfl
  case S => exact fun w H a ns hl hO hS => ..
  case C => exact ..
(the tactic k_is has no namespace: write k_is) -/

/-! SHORT WORDS over the layer: a def of the text, its body, what a loop and a test want. -/
namespace L2
open PySem PySem.Spec PyProof.Rows

/-! ### the text by places -/
/-- the j-th statement of a class's body -/
def inClass (s : Stmt) (j : Nat) : Stmt := match s with
  | .ClassDef _ _ _ body _ _ _ _ _ _ _ => body.getD j (.Pass ⟨0, 0, 0, 0⟩)
  | _ => .Pass ⟨0, 0, 0, 0⟩
def defArgs (s : Stmt) : Arguments := match s with
  | .FunctionDef _ a _ _ _ _ _ _ _ _ => a
  | _ => { posonlyargs := [], args := [], vararg := none, kwonlyargs := [], kw_defaults := [], kwarg := none, defaults := [] }
def defBody (s : Stmt) : List Stmt := match s with
  | .FunctionDef _ _ b _ _ _ _ _ _ _ => b
  | _ => []
def defScope (s : Stmt) : Scope := match s with
  | .FunctionDef _ _ _ _ _ _ sc _ _ _ => sc
  | _ => { kind := .function, names := [], isGenerator := false, isCoroutine := false }

/-! ### no exception leaves a def -/
abbrev CX0 : CXT := fun _ _ _ _ _ _ => False
abbrev E0 : XK := fun _ _ _ => False
theorem pass0 {X : Cx} : Passes CX0 X E0 := fun _ _ _ _ _ _ _ h => h.elim

/-! ### a def (or method) of the text as it stands behind the top -/
structure Fun (K : PySem.W.Frag) (x qual : Str) (st : Stmt) (f : Addr) (fd : FuncData) : Prop where
  ex : ∃ (oc : Value) (od : Option Addr) (kV doc pm : Value) (an : Option Addr) (cdv ct : Value) (osl : Array (Option Value)),
    fd = PySem.W.fnOf x qual (defArgs st) (defBody st) (defScope st) .none kV doc pm an cdv ct ∧ K.lookup f = some ⟨oc, od, .func fd, osl⟩ ∧ PySem.W.codeIn K cdv qual = true
  kp : PySem.W.keepIn K (.ref f) = true
section
variable {P : Program} {w : World} {K : PySem.W.Frag} {mg : Str → Option Value} {base : Heap}
/-- THE RULE for a def: its body as a term of rules, and the reading of that term -/
theorem Fun.ok {x qual : Str} {st : Stmt} {f : Addr} {fd : FuncData} {N ps : List Str} {k : Nat} {sp : Sp} (F : Fun K x qual st f fd) (S : FnScope N ps (defScope st)) (len : ∀ vs H Q E, sp vs H Q E → vs.length = ps.length)
    (hbody : ∀ (cdv : Value) (A : Around) (outer : List Env) (s : Shared) (H : Hp) (vs : List V) (Q : VK) (E : XK), Room k (A.deeper (envOfC qual (defScope st) s.heap.objs.size f cdv)) → sp vs H Q E →
      ∃ t, PSs (cxOf CX0 P w K mg base N qual (defScope st) f cdv A outer s H E).nox (defBody st) t ∧ t { nx := fun _ H' => Q .non H', rt := Q } (start N vs) H) : FnOk P w K mg base CX0 (k + 1) f fd ps sp := by
  obtain ⟨oc, od, kV, doc, pm, an, cdv, ct, osl, rfl, lk, hcd⟩ := F.ex
  refine fn_of lk hcd S len fun A outer s H vs Q E hr hsp => ?_
  obtain ⟨t, h, q⟩ := hbody cdv A outer s H vs Q E hr hsp
  exact ⟨t, h.nox, q⟩
/-- how its arguments bind (no defaults): h is «fun _ _ _ _ _ _ us hl => match us, hl with | [_, _], _ => rfl», one _ a parameter -/
theorem Fun.binds {x qual : Str} {st : Stmt} {f : Addr} {fd : FuncData} {ps : List Str} (F : Fun K x qual st f fd)
    (h : ∀ (kV doc pm : Value) (an : Option Addr) (cdv ct : Value) (us : List Value), us.length = ps.length → bindArgs (PySem.W.fnOf x qual (defArgs st) (defBody st) (defScope st) .none kV doc pm an cdv ct) ⟨us, []⟩ = pure (ps.zip us)) : Binds K fd ps [] := by
  obtain ⟨oc, od, kV, doc, pm, an, cdv, ct, osl, rfl, lk, hcd⟩ := F.ex
  exact .all (h kV doc pm an cdv ct)
theorem fun_mk {x qual : Str} {st : Stmt} {f : Addr} {oc : Value} {od an : Option Addr} {osl : Array (Option Value)} {kV doc pm cdv ct : Value} (l : K.lookup f = some ⟨oc, od, .func (PySem.W.fnOf x qual (defArgs st) (defBody st) (defScope st) .none kV doc pm an cdv ct), osl⟩)
    (c : PySem.W.codeIn K cdv qual = true) (k : PySem.W.keepIn K (.ref f) = true) : Fun K x qual st f (PySem.W.fnOf x qual (defArgs st) (defBody st) (defScope st) .none kV doc pm an cdv ct) := ⟨⟨oc, od, kV, doc, pm, an, cdv, ct, osl, rfl, l, c⟩, k⟩
end
theorem hu_of {A : Around} {k : Nat} (hr : Room k A) : A.units + 1 < cLine := Nat.lt_of_le_of_lt (Nat.add_le_add_left (by decide : 1 ≤ 64) _) hr.units
theorem small1000 {n : Nat} (h : n ≤ 1000) : n < sizeLine := Nat.lt_of_le_of_lt h (by decide)

/-! ### expressions in short: the name that stands in the i-th slot -/
section
variable {X : Cx}
theorem pv (i : Nat) {x : Str} {pos : Pos} (hN : X.N[i]? = some x := by rfl) (hv : Vis X.env.scope x := by first | exact Or.inl rfl | exact Or.inr (Or.inl rfl) | exact Or.inr (Or.inr rfl)) (hd : (x == ("__debug__" : Str)) = false := by decide)
    (hcd : (x == ("__classdict__" : Str)) = false := by decide) : PE X (.Name x pos) (tVar i) := pe_var hN hv hd hcd
/-- len of a dict -/
theorem call_lenD : CallR X (.builtin "len") (fun xs H Q => ∃ a kvs, xs = [V.ref a] ∧ H a = some (.dK kvs) ∧ Q (.int kvs.length) H) := by
  intro pins s σ H xs us Q I r h
  obtain ⟨a, kvs, rfl, ha, q⟩ := h
  obtain ⟨u, rfl, ru⟩ := vals1 r
  cases ru
  exact d_len I (.inl ha) fun t s' I' => ⟨.int kvs.length, H, I', ⟨t, rfl⟩, q⟩
end

/-! ### tests -/
theorem iteF {A B : Prop} (h : B) : if false = true then A else B := by
  rw [if_neg Bool.false_ne_true]
  exact h
theorem iteT {A B : Prop} (h : A) : if true = true then A else B := by
  rw [if_pos rfl]
  exact h
theorem ite2 {c A B : Prop} [Decidable c] (h1 : c → A) (h2 : ¬ c → B) : if c then A else B := by
  by_cases h : c
  · rw [if_pos h]
    exact h1 h
  · rw [if_neg h]
    exact h2 h
theorem iteNS {c A B : Prop} [Decidable c] (hc : c) (h : B) : if (!decide c) = true then A else B := by
  rw [decide_eq_true hc]
  exact iteF h

/-! ### heaps -/
/-- all that was tracked is as it was -/
def Same (H H' : Hp) : Prop := ∀ b o, H b = some o → H' b = some o
theorem Same.refl (H : Hp) : Same H H := fun _ _ h => h
theorem Same.trans {H H1 H2 : Hp} (a : Same H H1) (b : Same H1 H2) : Same H H2 := fun c o h => b c o (a c o h)
theorem Same.free {H H' : Hp} (e : Same H H') {l : Addr} (h : H' l = Option.none) : H l = Option.none := by
  cases q : H l with
  | none => rfl
  | some o =>
    rw [e l o q] at h
    cases h
theorem Same.seq {K : PySem.W.Frag} {H H' : Hp} {a : Addr} {xs : List V} (e : Same H H') (h : SqL K H a xs) : SqL K H' a xs := by
  rcases h with (h | ⟨o, h⟩) | h
  · exact .inl (.inl (e _ _ h))
  · exact .inl (.inr ⟨o, e _ _ h⟩)
  · exact .inr h

/-! ### a dict's pairs: keys that differ -/
section
variable {κ : Type} [DecidableEq κ]
theorem valV_not {kvs : List (κ × V)} {k : κ} (h : valV kvs k = none) : ¬ k ∈ kvs.map (·.1) := by
  intro m
  obtain ⟨p, hp, e⟩ := List.mem_map.mp m
  have q : (kvs.any fun kv => decide (kv.1 = k)) = true := List.any_eq_true.mpr ⟨p, hp, decide_eq_true e⟩
  rw [valV_any, h] at q
  exact absurd q (by simp)
theorem valV_in {kvs : List (κ × V)} {k : κ} {v : V} (h : valV kvs k = some v) : k ∈ kvs.map (·.1) := by
  have q : (kvs.any fun kv => decide (kv.1 = k)) = true := by
    rw [valV_any, h]
    all_goals rfl
  obtain ⟨p, hp, e⟩ := List.any_eq_true.mp q
  exact List.mem_map.mpr ⟨p, hp, of_decide_eq_true e⟩
theorem nd_snoc : ∀ {l : List κ} {k : κ}, l.Nodup → ¬ k ∈ l → (l ++ [k]).Nodup
  | [], k, _, _ => by simp
  | a :: r, k, h, hk => by
    obtain ⟨h1, h2⟩ := List.nodup_cons.mp h
    show (a :: (r ++ [k])).Nodup
    refine List.nodup_cons.mpr ⟨fun m => ?_, nd_snoc h2 fun m => hk (List.mem_cons.mpr (Or.inr m))⟩
    rcases List.mem_append.mp m with q | q
    · exact h1 q
    · exact hk (List.mem_cons.mpr (Or.inl (List.mem_singleton.mp q).symm))
theorem nd_putK {kvs : List (κ × V)} {k : κ} (v : V) (hn : (kvs.map (·.1)).Nodup) (h : valV kvs k = none) : ((putK kvs k v).map (·.1)).Nodup := by
  rw [putK_new v h, List.map_append]
  exact nd_snoc hn (valV_not h)
theorem dropK_pos {p : κ × V} {r : List (κ × V)} {k : κ} (e : p.1 = k) : dropK (p :: r) k = dropK r k := by
  unfold dropK
  rw [List.filter_cons, if_neg (by simp [e])]
theorem dropK_neg {p : κ × V} {r : List (κ × V)} {k : κ} (e : ¬ p.1 = k) : dropK (p :: r) k = p :: dropK r k := by
  unfold dropK
  rw [List.filter_cons, if_pos (by simp [e])]
theorem dropK_no : ∀ {kvs : List (κ × V)} {k : κ}, ¬ k ∈ kvs.map (·.1) → dropK kvs k = kvs
  | [], _, _ => rfl
  | p :: r, k, h => by
    have h' : ¬ k ∈ r.map (·.1) := fun m => by
      obtain ⟨q, hq, e⟩ := List.mem_map.mp m
      exact h (List.mem_map.mpr ⟨q, List.mem_cons.mpr (Or.inr hq), e⟩)
    rw [dropK_neg fun e => h (List.mem_map.mpr ⟨p, List.mem_cons.mpr (Or.inl rfl), e⟩), dropK_no h']
theorem dropK_mem {kvs : List (κ × V)} {k : κ} {p : κ × V} (h : p ∈ dropK kvs k) : p ∈ kvs := (List.mem_filter.mp h).1
theorem nd_dropK : ∀ {kvs : List (κ × V)} {k : κ}, (kvs.map (·.1)).Nodup → ((dropK kvs k).map (·.1)).Nodup
  | [], _, _ => List.nodup_nil
  | p :: r, k, h => by
    have h : (p.1 :: r.map (·.1)).Nodup := h
    obtain ⟨h1, h2⟩ := List.nodup_cons.mp h
    by_cases e : p.1 = k
    · rw [dropK_pos e]
      exact nd_dropK h2
    · rw [dropK_neg e]
      show (p.1 :: (dropK r k).map (·.1)).Nodup
      refine List.nodup_cons.mpr ⟨fun m => h1 ?_, nd_dropK h2⟩
      obtain ⟨q, hq, eq⟩ := List.mem_map.mp m
      exact List.mem_map.mpr ⟨q, dropK_mem hq, eq⟩
theorem dropK_len : ∀ {kvs : List (κ × V)} {k : κ}, (kvs.map (·.1)).Nodup → k ∈ kvs.map (·.1) → (dropK kvs k).length + 1 = kvs.length
  | [], _, _, m => by simp at m
  | p :: r, k, h, m => by
    have h : (p.1 :: r.map (·.1)).Nodup := h
    have m : k = p.1 ∨ k ∈ r.map (·.1) := List.mem_cons.mp m
    obtain ⟨h1, h2⟩ := List.nodup_cons.mp h
    by_cases e : p.1 = k
    · subst e
      rw [dropK_pos rfl, dropK_no h1]
      all_goals rfl
    · have m' : k ∈ r.map (·.1) := m.resolve_left fun z => e z.symm
      have q := dropK_len h2 m'
      rw [dropK_neg e, List.length_cons, List.length_cons]
      omega
end
end L2

set_option maxHeartbeats 4000000
/-! A COMPREHENSION [elt for tg in iter if c] (one clause): the block as a context of its own -/
namespace L2
open PySem PySem.Spec PyProof.Rows

/-! ### the cells that the block takes over -/
def closL (cells : List (Str × Addr)) : List (Str × NameKind) → List (Str × Addr) → List (Str × Addr)
  | [], cs => cs
  | (n, k) :: r, cs => if (k == NameKind.free) = true then closL cells r ((n, (cells.lookup n).getD 0) :: cs) else closL cells r cs
theorem closL_mem {cells : List (Str × Addr)} : ∀ {names : List (Str × NameKind)} {cs : List (Str × Addr)}, (∀ x ∈ names, x.2 = .free → ∃ c, cells.lookup x.1 = some c) → (∀ p ∈ cs, cells.lookup p.1 = some p.2) →
    ∀ p ∈ closL cells names cs, cells.lookup p.1 = some p.2
  | [], _, _, h, p, hp => h p hp
  | (n, k) :: r, cs, hn, h, p, hp => by
    unfold closL at hp
    have hr : ∀ x ∈ r, x.2 = .free → ∃ c, cells.lookup x.1 = some c := fun x hx => hn x (List.mem_cons_of_mem _ hx)
    by_cases hk : (k == NameKind.free) = true
    · rw [if_pos hk] at hp
      refine closL_mem hr (fun q hq => ?_) p hp
      rcases List.mem_cons.mp hq with e | hq
      · obtain ⟨c, hc⟩ := hn (n, k) List.mem_cons_self (by simpa using hk)
        have hc' : cells.lookup n = some c := hc
        subst e
        show cells.lookup n = some ((cells.lookup n).getD 0)
        rw [hc']; rfl
      · exact h q hq
    · rw [if_neg hk] at hp
      exact closL_mem hr h p hp
theorem closL_keeps {cells : List (Str × Addr)} {p : Str × Addr} : ∀ {names : List (Str × NameKind)} {cs : List (Str × Addr)}, p ∈ cs → p ∈ closL cells names cs
  | [], _, h => h
  | (n, k) :: r, cs, h => by
    unfold closL
    split
    · exact closL_keeps (List.mem_cons_of_mem _ h)
    · exact closL_keeps h
theorem closL_has {cells : List (Str × Addr)} {x : Str} : ∀ {names : List (Str × NameKind)} {cs : List (Str × Addr)}, (x, NameKind.free) ∈ names → ∃ c, (x, c) ∈ closL cells names cs
  | [], _, h => nomatch h
  | (n, k) :: r, cs, h => by
    unfold closL
    rcases List.mem_cons.mp h with e | h
    · cases e
      rw [if_pos (show (NameKind.free == NameKind.free) = true from rfl)]
      exact ⟨_, closL_keeps List.mem_cons_self⟩
    · split
      · exact closL_has h
      · exact closL_has h
theorem lookup_of_mem {α β : Type} [BEq α] [LawfulBEq α] {x : α} {c : β} : ∀ {l : List (α × β)}, (x, c) ∈ l → ∃ d, l.lookup x = some d
  | [], h => nomatch h
  | (y, d) :: r, h => by
    rw [List.lookup_cons]
    cases e : x == y with
    | true => exact ⟨d, rfl⟩
    | false =>
      rcases List.mem_cons.mp h with z | h
      · cases z; rw [beq_self_eq_true] at e; cases e
      · exact lookup_of_mem h
theorem closureFor_closL {scope : Scope} {env : Env} (h : ∀ x ∈ scope.names, x.2 = .free → ∃ c, env.cells.lookup x.1 = some c) : closureFor scope env = pure (closL env.cells scope.names []) := by
  have key : ∀ (names : List (Str × NameKind)) (cs : List (Str × Addr)), (∀ x ∈ names, x.2 = .free → ∃ c, env.cells.lookup x.1 = some c) →
      (forIn names cs fun x r => if (x.2 == NameKind.free) = true then (do let c ← cellOf env x.1; pure (ForInStep.yield ((x.1, c) :: r))) else pure (ForInStep.yield r) : Sem (List (Str × Addr))) = pure (closL env.cells names cs) := by
    intro names
    induction names with
    | nil => intro cs _; rfl
    | cons x r ih =>
      intro cs hn
      obtain ⟨n, k⟩ := x
      rw [List.forIn_cons]
      unfold closL
      have hr : ∀ x ∈ r, x.2 = .free → ∃ c, env.cells.lookup x.1 = some c := fun x hx => hn x (List.mem_cons_of_mem _ hx)
      by_cases hk : (k == NameKind.free) = true
      · obtain ⟨c, hc⟩ := hn (n, k) List.mem_cons_self (by simpa using hk)
        have hc' : env.cells.lookup n = some c := hc
        have e : cellOf env n = pure c := by unfold cellOf; rw [hc']
        dsimp only
        rw [if_pos hk, if_pos hk, e, pure_bind, pure_bind, hc']
        exact ih _ hr
      · dsimp only
        rw [if_neg hk, if_neg hk, pure_bind]
        exact ih _ hr
  have e := key scope.names [] h
  simp only [closureFor, bind_pure]
  exact e

/-! ### names of the block -/
theorem lookup_relabel {env : Env} {x : Str} : ∀ (names : List (Str × NameKind)),
    (names.map fun (n, k) => if (k == NameKind.free && env.scope.kind == .function && env.kindOf n == some .cell) then (n, NameKind.cell) else (n, k)).lookup x =
      (names.lookup x).map fun k => if (k == NameKind.free && env.scope.kind == .function && env.kindOf x == some .cell) then NameKind.cell else k
  | [] => rfl
  | (n, k) :: r => by
    have ih := lookup_relabel (env := env) (x := x) r
    show List.lookup x ((if (k == NameKind.free && env.scope.kind == .function && env.kindOf n == some .cell) = true then (n, NameKind.cell) else (n, k)) :: _) = _
    cases hx : x == n with
    | true =>
      have e : x = n := eq_of_beq hx
      subst e
      by_cases hc : (k == NameKind.free && env.scope.kind == .function && env.kindOf x == some .cell) = true
      · rw [if_pos hc]; simp only [List.lookup_cons, hx, Option.map_some, hc, if_true]
      · rw [if_neg hc]; simp only [List.lookup_cons, hx, Option.map_some, hc]; rfl
    | false =>
      by_cases hc : (k == NameKind.free && env.scope.kind == .function && env.kindOf n == some .cell) = true
      · rw [if_pos hc]; simp only [List.lookup_cons, hx]; exact ih
      · rw [if_neg hc]; simp only [List.lookup_cons, hx]; exact ih
/-- own names first, then the outer ones; an outer one that is hidden has a name that nothing bears -/
def hid (xs : List Str) (y : Str) : Str := if xs.contains y then y ++ ("#" : Str) else y
def blkN (xs N : List Str) : List Str := xs ++ N.map (hid xs)
/-- what is asked of the block's scope (all by rfl or decide +kernel) -/
structure BlkScope (X : Cx) (xs : List Str) (sc : Scope) : Prop where
  kind : sc.kind = .function
  nocell : ∀ y ∈ sc.names, y.2 ≠ .cell
  locs : ∀ y ∈ sc.names, y.2 = .local → sc.names.lookup y.1 = some .local
  own : ∀ y ∈ sc.names, y.2 = .local → y.1 ∈ xs ∨ y.1 = (".0" : Str)
  free : ∀ y ∈ sc.names, y.2 = .free → X.env.kindOf y.1 = some .cell ∨ X.env.kindOf y.1 = some .free
  nohid : ∀ y ∈ X.N, sc.names.lookup (y ++ ("#" : Str)) = none
  nodot : (".0" : Str) ∉ X.N
def blk (X : Cx) (pins : List (Addr × Obj)) (xs : List Str) (sc : Scope) (C : Addr) (fp : List Addr) (s3 : Shared) (H3 : Hp) : Cx where
  prog := X.prog
  w := X.w
  K := X.K
  mg := X.mg
  base := X.base
  A := X.A
  N := blkN xs X.N
  s₀ := s3
  H₀ := H3
  env := compEnvC sc (closL X.env.cells sc.names []) C X.env
  outer := X.stack
  stack := X.stack
  ex := fp
  fn := fun _ => false
  calm := true
  pn := X.pn ++ pins
  xe := fun _ _ => False
def blkσ (xs : List Str) (σ : St) : St := List.replicate xs.length none ++ σ

theorem mem_of_lookup' {α β : Type} [BEq α] [LawfulBEq α] {x : α} {c : β} : ∀ {l : List (α × β)}, l.lookup x = some c → (x, c) ∈ l
  | [], h => nomatch h
  | (y, d) :: r, h => by
    rw [List.lookup_cons] at h
    cases e : x == y with
    | true => rw [e] at h; cases h; rw [eq_of_beq e]; exact List.mem_cons_self
    | false => rw [e] at h; exact List.mem_cons_of_mem _ (mem_of_lookup' h)

section
variable {X : Cx} {pins : List (Addr × Obj)} {xs : List Str} {sc : Scope} {σ : St} {H : Hp} {s : Shared}
theorem BlkScope.cells (B : BlkScope X xs sc) (ok : X.Ok) : ∀ y ∈ sc.names, y.2 = .free → ∃ c, X.env.cells.lookup y.1 = some c := fun y hy e => ok.has y.1 (B.free y hy e)
theorem BlkScope.sub (B : BlkScope X xs sc) (ok : X.Ok) {y : Str} {c : Addr} (h : (closL X.env.cells sc.names []).lookup y = some c) : X.env.cells.lookup y = some c :=
  closL_mem (cells := X.env.cells) (names := sc.names) (cs := []) (B.cells ok) (fun p hp => nomatch hp) (y, c) (mem_of_lookup' h)
/-- a name of the block that is free -/
theorem BlkScope.kindF (B : BlkScope X xs sc) {y : Str} (h : Vis (relabel sc X.env) y) : sc.names.lookup y = some .local ∨ sc.names.lookup y = some .free := by
  have e : (relabel sc X.env).names.lookup y = (sc.names.lookup y).map _ := lookup_relabel (env := X.env) (x := y) sc.names
  cases q : sc.names.lookup y with
  | none =>
    rw [q] at e
    rcases h with h | h | h <;> rw [e] at h <;> cases h
  | some k =>
    cases k with
    | «local» => exact .inl rfl
    | free => exact .inr rfl
    | cell => exact absurd rfl (B.nocell _ (mem_of_lookup' q))
    | globalImplicit => rw [q] at e; rcases h with h | h | h <;> rw [e] at h <;> cases h
    | globalExplicit => rw [q] at e; rcases h with h | h | h <;> rw [e] at h <;> cases h
theorem BlkScope.kindC (B : BlkScope X xs sc) {y : Str} (h : sc.names.lookup y = some .free) : (relabel sc X.env).names.lookup y = some .cell ∨ (relabel sc X.env).names.lookup y = some .free := by
  have e : (relabel sc X.env).names.lookup y = (sc.names.lookup y).map _ := lookup_relabel (env := X.env) (x := y) sc.names
  rw [h] at e
  by_cases hc : ((NameKind.free == NameKind.free) && X.env.scope.kind == .function && X.env.kindOf y == some .cell) = true
  · left; rw [e]; show some (if _ then _ else _) = _; rw [if_pos hc]
  · right; rw [e]; show some (if _ then _ else _) = _; rw [if_neg hc]
theorem BlkScope.ofC (B : BlkScope X xs sc) {y : Str} (h : (relabel sc X.env).names.lookup y = some .cell ∨ (relabel sc X.env).names.lookup y = some .free) : sc.names.lookup y = some .free := by
  have v : Vis (relabel sc X.env) y := .inr h
  rcases B.kindF v with q | q
  · have e : (relabel sc X.env).names.lookup y = (sc.names.lookup y).map _ := lookup_relabel (env := X.env) (x := y) sc.names
    rw [q] at e
    rcases h with h | h <;> rw [e] at h <;> cases h
  · exact q

/-- the block's state at its start: the list D is laid, the block's own names at C -/
theorem blk_start {fp : List Addr} {h1 : Heap} {tk : Nat} {m : Str → Option Value} (hcalm : X.calm = true) (B : BlkScope X xs sc) (I : Inv X pins σ H s) (hf : ∀ b ∈ fp, FpOk X pins H b) (hfl : ∀ b ∈ fp, b < s.heap.objs.size)
    (hn : h1.Ns (s.heap.objs.size + 1) m) (hk : ∀ b o, (s.heap.push { cls := .type "list", data := .seq ([] : List Value).toArray }).get? b = some o → h1.get? b = some o) :
    Inv (blk X pins xs sc (s.heap.objs.size + 1) fp { s with heap := s.heap.push { cls := .type "list", data := .seq ([] : List Value).toArray } } (upd H s.heap.objs.size (.lst []))) [] (blkσ xs σ)
      (upd H s.heap.objs.size (.lst [])) { s with heap := h1, toks := tk } := by
  have hsz : (s.heap.push { cls := .type "list", data := .seq ([] : List Value).toArray }).objs.size = s.heap.objs.size + 1 := Heap.size_push ..
  have lt : ∀ b o, s.heap.get? b = some o → b < s.heap.objs.size := fun b o e => Heap.lt_size e
  have updF : ∀ b, b < s.heap.objs.size → upd H s.heap.objs.size (.lst []) b = H b := fun b hb => upd_ne (Nat.ne_of_lt hb)
  have cl : ∀ x c, X.env.cells.lookup x = some c → c < s.heap.objs.size := fun x c e => by obtain ⟨v, q⟩ := I.cell x c e; exact q.lt
  have frlt : ∀ b ∈ frs X.stack, b < s.heap.objs.size := fun b hb => by
    rcases List.mem_cons.mp (I.stkSub b hb) with e | z
    · rw [e]; exact I.lt
    · exact Nat.lt_of_not_le fun z' => I.nofs z' z
  have pushK : ∀ b o, s.heap.get? b = some o → (s.heap.push { cls := .type "list", data := .seq ([] : List Value).toArray }).get? b = some o := fun b o e => Heap.get?_push_of_some _ e
  have hk0 : ∀ b o, s.heap.get? b = some o → h1.get? b = some o := fun b o e => hk b o (pushK b o e)
  have fresh : ∀ b, s.heap.objs.size ≤ b → H b = none := fun b hb => I.hok.fresh hb
  refine ⟨⟨I.ok.mod, B.kind, I.ok.glob, I.ok.blt, ?_, fun x y c h1 h2 => ?_, fun x hx => ?_, fun x c hx => ?_, fun _ => I.ok.hd hcalm, I.ok.frames, .inl rfl, fun b hb => ⟨?_, fun x c e => ?_⟩, fun b o e => ⟨?_, ?_⟩, ?_, fun b o e hb => ?_, fun b hb hfr => ?_, ?_, fun b hb => ?_⟩,
    rfl, I.bare, Un.kept hk, ⟨m, hn, fun i x v e1 e2 e3 => ?_⟩, fun x c e => ?_, ?_, fun x c e => ?_, fun p hp => ?_, ?_, ?_⟩
  · show (s.heap.push { cls := .type "list", data := .seq ([] : List Value).toArray }).objs.size ≤ s.heap.objs.size + 1
    rw [hsz]; exact Nat.le_refl _
  · exact I.ok.inj x y c (B.sub I.ok h1) (B.sub I.ok h2)
  · have q := B.ofC (y := x) hx
    obtain ⟨c, hc⟩ := closL_has (cells := X.env.cells) (cs := []) (mem_of_lookup' q)
    exact lookup_of_mem hc
  · exact absurd hx (by show ¬ (false = true); decide)
  · exact Nat.ne_of_lt (Nat.lt_succ_of_lt (hfl b hb))
  · exact (hf b hb).2.2.2.2.1 x c (B.sub I.ok e)
  · exact pushK b o (I.bk b o e)
  · show upd H s.heap.objs.size (.lst []) b = none
    rw [updF b (lt b o (I.bk b o e))]; exact (I.bs b o e).2
  · show X.base.objs.size ≤ (s.heap.push { cls := .type "list", data := .seq ([] : List Value).toArray }).objs.size
    rw [hsz]; exact Nat.le_succ_of_le (Nat.le_trans I.ok.bsz I.sz)
  · rcases (hf b hb).2.2.2.1 with z | z
    · exact I.ok.noex b o e z
    · have := Heap.lt_size e
      exact absurd (Nat.lt_of_lt_of_le this (Nat.le_trans I.ok.bsz z)) (Nat.lt_irrefl _)
  · rcases List.mem_cons.mp (I.stkSub b hfr) with e | z
    · exact (hf b hb).2.1 e
    · exact (hf b hb).2.2.1 z
  · exact Heap.FunFrames.of_keeps (fun b o e _ => ⟨o, pushK b o e, rfl⟩) I.stack
  · show upd H s.heap.objs.size (.lst []) b = none
    rw [updF b (frlt b hb)]; exact I.stkFree b hb
  · have hi : xs.length ≤ i := by
      rcases Nat.lt_or_ge i xs.length with z | z
      · unfold blkσ at e2
        rw [List.getElem?_append_left (by simpa using z), List.getElem?_replicate, if_pos z] at e2
        cases e2
      · exact z
    have e2' : σ[i - xs.length]? = some (some v) := by
      unfold blkσ at e2
      rw [List.getElem?_append_right (by simpa using hi), List.length_replicate] at e2
      exact e2
    have e1' : (X.N.map (hid xs))[i - xs.length]? = some x := by
      have q : (blkN xs X.N)[i]? = some x := e1
      unfold blkN at q
      rw [List.getElem?_append_right hi] at q
      exact q
    rw [List.getElem?_map] at e1'
    cases eN : X.N[i - xs.length]? with
    | none => rw [eN] at e1'; cases e1'
    | some y =>
      rw [eN] at e1'
      have ey : hid xs y = x := Option.some.inj e1'
      have hy : y ∈ X.N := List.mem_of_getElem? eN
      have kf := B.kindF (y := x) e3
      unfold hid at ey
      by_cases hc : xs.contains y = true
      · rw [if_pos hc] at ey
        rw [← ey, B.nohid y hy] at kf
        rcases kf with z | z <;> cases z
      · rw [if_neg hc] at ey
        subst ey
        rcases kf with z | z
        · rcases B.own (y, .local) (mem_of_lookup' z) rfl with q | q
          · exact absurd (List.contains_iff_mem.mpr q) hc
          · exact absurd (show (".0" : Str) ∈ X.N from q ▸ hy) B.nodot
        · have kk := B.free (y, .free) (mem_of_lookup' z) rfl
          obtain ⟨m0, hn0, hl0⟩ := I.loc
          obtain ⟨u, ru, lk⟩ := hl0 _ y v eN e2' (.inr kk)
          refine ⟨u, ru, ?_⟩
          rcases lk with ⟨kl, _⟩ | ⟨_, c, ec, zc⟩
          · rcases kk with kk | kk
            · rw [show X.env.kindOf y = some .local from kl] at kk; cases kk
            · rw [show X.env.kindOf y = some .local from kl] at kk; cases kk
          · obtain ⟨c1, hc1⟩ := closL_has (cells := X.env.cells) (cs := []) (mem_of_lookup' z)
            obtain ⟨c2, hc2⟩ := lookup_of_mem hc1
            have hc3 := B.sub I.ok hc2
            rw [ec] at hc3
            cases hc3
            obtain ⟨oc, hoc, hdc⟩ := zc
            exact .inr ⟨B.kindC z, c, hc2, oc, hk0 c oc hoc, hdc⟩
  · obtain ⟨v, oc, hoc, hdc⟩ := I.cell x c (B.sub I.ok e)
    exact ⟨v, oc, hk0 c oc hoc, hdc⟩
  · show upd H s.heap.objs.size (.lst []) (s.heap.objs.size + 1) = none
    rw [upd_ne (Nat.succ_ne_self _)]; exact fresh _ (Nat.le_succ _)
  · have e' := B.sub I.ok e
    rw [updF c (cl x c e')]; exact I.freeC x c e'
  · have hp' : p ∈ X.pn ++ pins := by
      rcases List.mem_append.mp hp with z | z
      · exact z
      · exact nomatch z
    obtain ⟨q1, q2, q3, q4, q5⟩ := I.pin p hp'
    refine ⟨hk0 _ _ q1, by rw [updF _ (lt _ _ q1)]; exact q2, ?_, fun z => ?_, q5⟩
    · exact Nat.ne_of_lt (Nat.lt_succ_of_lt (lt _ _ q1))
    · rcases List.mem_cons.mp (I.stkSub _ z) with e | z
      · exact q3 e
      · exact q4 z
  · refine I.hok.laid hk0 (Nat.le_refl _) ?_
    exact ⟨Nat.zero_le _, [], 0, .nil, hk _ _ (Heap.get?_push_size _ rfl)⟩
  · show (blkσ xs σ).length = (blkN xs X.N).length
    unfold blkσ blkN
    rw [List.length_append, List.length_append, List.length_replicate, List.length_map, I.len]

/-- behind the block: the outer state again -/
theorem blk_end {fp : List Addr} {s' : Shared} {σ' : St} {H' : Hp} (I : Inv X pins σ H s) (hf : ∀ b ∈ fp, FpOk X pins H b)
    (J : Inv (blk X pins xs sc (s.heap.objs.size + 1) fp { s with heap := s.heap.push { cls := .type "list", data := .seq ([] : List Value).toArray } } (upd H s.heap.objs.size (.lst []))) [] σ' H' s') :
    Inv X pins σ H' s' := by
  have u1 : Un (frs X.stack) fp H (upd H s.heap.objs.size (.lst [])) s.heap (s.heap.push { cls := .type "list", data := .seq ([] : List Value).toArray }) :=
    Un.laid (fun b o e => Heap.get?_push_of_some _ e) (Nat.le_refl _) (I.hok.fresh (Nat.le_refl _))
  have u2 : Un (frs X.stack) fp (upd H s.heap.objs.size (.lst [])) H' (s.heap.push { cls := .type "list", data := .seq ([] : List Value).toArray }) s'.heap := J.base
  exact I.call' (s' := s') (ch := fp) J.os (u1.trans u2) J.hok J.bare fun b hb => ⟨(hf b hb).2.2.2.1, (hf b hb).2.1, (hf b hb).2.2.2.2.1, (hf b hb).2.2.2.2.2⟩
/-- the block's names are let go -/
theorem blk_gone {fp : List Addr} {s' s'' : Shared} {σ' σ2 : St} {H' H2 : Hp} {h' : Heap} (I : Inv X pins σ H s)
    (hC : H2 (s.heap.objs.size + 1) = none) (I2 : Inv X pins σ2 H2 s'') (hs : Heap.SameBut (s.heap.objs.size + 1) s''.heap h') : Inv X pins σ2 H2 { s'' with heap := h' } := by
  have hL : s.heap.objs.size + 1 ≠ X.env.locals := Nat.ne_of_gt (Nat.lt_succ_of_lt I.lt)
  refine I2.turned (t' := s''.toks) (it := s.heap.objs.size + 1) (fun b o hb e => (hs.2 b hb).trans e) hC hL (.inr (Nat.le_succ_of_le I.sz)) (fun x c e => ?_) fun p hp => ?_
  · obtain ⟨v, q⟩ := I.cell x c e
    exact Nat.ne_of_lt (Nat.lt_succ_of_lt q.lt)
  · exact Nat.ne_of_lt (Nat.lt_succ_of_lt (Heap.lt_size (I.pin p hp).1))
end

/-! ### the turns -/
/-- the tests of a clause -/
def PIf (X : Cx) (ifs : List Expr) (t : TT) : Prop :=
  ∀ (pins : List (Addr × Obj)) (s : Shared) (σ : St) (H : Hp) (Q : Bool → Hp → Prop), Inv X pins σ H s → t σ H Q →
    wpAny (model X.prog X.w) X.A (forIn ifs true fun c r => if r = true then do let ok ← isTrue c X.env (eval c X.env); pure (ForInStep.yield ok) else pure (ForInStep.yield r)) (TP X pins σ Q) X.xe s
def tTrue : TT := fun _ H Q => Q true H
theorem pif_nil {X : Cx} : PIf X [] tTrue := fun _ _ _ H _ I h => wpAny_tests_nil ⟨H, I, h⟩
theorem pif_one {X : Cx} {c : Expr} {t : TT} (h : PT X c t) : PIf X [c] t := fun pins s σ H Q I q => wpAny_tests_one (h pins s σ H Q I q)

def tTurns (J : It) (g : TG) (tc : TT) (te : TE) (D : Addr) (Q : Hp → Prop) (σ : St) (H : Hp) : Prop :=
  ∃ W : Nat → Nat → St → Hp → Prop, (∃ m, W 0 m σ H) ∧ ∀ i m σ H, W i m σ H →
    (J.stop i H ∧ Q H) ∨ (J.go i H ∧ ∃ N : St → Hp → Prop, (∀ σ' H', N σ' H' → ∃ m', m' < m ∧ W (i + 1) m' σ' H') ∧ ∀ x H', J.yld i H x H' → g x σ H' fun σ2 H2 => tc σ2 H2 fun b H3 =>
      if b = true then te σ2 H3 fun v H4 => ∃ ys, H4 D = some (.lst ys) ∧ ys.length < sizeLine ∧ N σ2 (upd H4 D (.lst (ys ++ [v]))) else N σ2 H3)
theorem comp_loop {P : Program} {w : World} {K : PySem.W.Frag} {Y : Cx} (hP : Y.prog = P) (hw : Y.w = w) (hK : Y.K = K) {tg iter elt : Expr} {ifs : List Expr} {scope : Scope} {pos : Pos} {J : It} {fp : List Addr} {it D : Addr} {tn : Nat → Heap → Prop} {g : TG} {tc : TT} {te : TE}
    {Q : Hp → Prop} {R : Result → Shared → Prop} {s : Shared} {σ : St} {H : Hp}
    (hcalm : Y.calm = true) (hx : Y.xe = fun _ _ => False) (T : Turn P w K tg J fp it tn) (hg : PG Y tg g) (hc : PIf Y ifs tc) (he : PE Y elt te) (I : Inv Y [] σ H s) (st : tn 0 s.heap) (hf : ∀ b ∈ fp, FpOk Y [] H b) (h : tTurns J g tc te D Q σ H)
    (hR : ∀ σ' H' s', Inv Y [] σ' H' s' → Q H' → R (.ok .next) s') :
    codeAny (model P w) Y.A (.compLoop (.ListComp elt [⟨tg, iter, ifs, 0⟩] scope pos) 0 (.ref it) (.ref D) Y.env) R s := by
  subst hP hw hK
  obtain ⟨W, ⟨m0, w0⟩, turn⟩ := h
  have stat : ∀ {H' : Hp}, (∀ b ∈ fp, H' b = none) → ∀ b ∈ fp, FpOk Y [] H' b := fun hn b hb => ⟨hn b hb, (hf b hb).2⟩
  have no : ∀ {α : Type} {t : Sem α} {Qa : α → Shared → Prop} {E : Value → Shared → Prop} {s : Shared}, wpAny (model Y.prog Y.w) Y.A t Qa Y.xe s → wpAny (model Y.prog Y.w) Y.A t Qa E s := fun z => wpAny_mono z (fun _ _ q => q) fun _ _ q => by rw [hx] at q; exact q.elim
  refine codeAny_loop rfl (fun n s' => ∃ i σ' H', Inv Y [] σ' H' s' ∧ tn i s'.heap ∧ (∀ b ∈ fp, H' b = none) ∧ W i n σ' H') ?_ m0 ⟨0, σ, H, I, st, fun b hb => (hf b hb).1, w0⟩
  rintro n s3 ⟨i, σ3, H3, I3, st3, fr3, w3⟩
  show wpAny _ Y.A ((compTurn (.ListComp elt [⟨tg, iter, ifs, 0⟩] scope pos) 0 (.ref it) (.ref D) Y.env).onRaise (fun x => do noteFrame x Y.env; theTreesLotGoes x)) _ _ s3
  refine wpAny_noted ?_
  rw [compTurn_list]
  refine wpAny_bind (wpAny_standAt (wpAny_bind ?_))
  rcases turn i n σ3 H3 w3 with ⟨stop, qn⟩ | ⟨go, N, hN, step⟩
  · refine wpAny_mono (T.done Y rfl rfl rfl hcalm i [] s3 σ3 H3 _ I3 (stat fr3) st3 stop) (fun r s4 ⟨hr, I4⟩ => ?_) fun _ _ q => q
    subst hr
    exact wpAny_pure (hR σ3 H3 s4 I4 qn)
  · refine wpAny_mono (T.item Y rfl rfl rfl hcalm i [] s3 σ3 H3 _ I3 (stat fr3) st3 go) (fun r s4 ⟨u, hr, h4⟩ => ?_) fun _ _ q => q
    subst hr
    refine wpAny_bind (wpAny_mono h4 (fun _ s5 ⟨x, H5, I5, r5, y5, st5, fr5⟩ => ?_) fun _ _ q => q)
    have I5' := I5.pinned (stat fr5) (T.obj _ _ st5)
    have again : ∀ {s7 : Shared} {σ7 : St} {H7 : Hp}, Inv Y ([] ++ pinsAt fp s5.heap) σ7 H7 s7 → N σ7 H7 → ∃ m, m < n ∧ ∃ i σ' H', Inv Y [] σ' H' s7 ∧ tn i s7.heap ∧ (∀ b ∈ fp, H' b = none) ∧ W i m σ' H' := fun {s7 σ7 H7} I7 n7 => by
      obtain ⟨m', hm, w7⟩ := hN σ7 H7 n7
      refine ⟨m', hm, i + 1, σ7, H7, I7.unpinned, T.keep _ _ _ st5 fun b hb o e => (I7.pin (b, o) (List.mem_append_right _ (List.mem_append_right _ (mem_pinsAt hb e)))).1, fun b hb => ?_, w7⟩
      obtain ⟨o, e, d⟩ := T.obj _ _ st5 b hb
      exact (I7.pin (b, o) (List.mem_append_right _ (List.mem_append_right _ (mem_pinsAt hb e)))).2.1
    refine wpAny_bind (no (thn (hg _ s5 σ3 H5 x u _ I5' r5 (step x H5 y5)) fun _ s6 ⟨σ6, H6, I6, q6⟩ => ?_))
    refine wpAny_bind (no (thn (hc _ s6 σ6 H6 _ I6 q6) fun ok s7 ⟨H7, I7, q7⟩ => ?_))
    cases ok with
    | false => exact wpAny_pure ⟨rfl, again I7 q7⟩
    | true =>
      refine wpAny_bind (wpAny_bind (no (thn (he _ s7 σ6 H7 _ I7 q7) fun v s8 ⟨y, H8, I8, r8, ys, eD, hz, n8⟩ => ?_)))
      refine wpAny_bind (no (thn (mt_append _ s8 σ6 H8 (.ref D) [y] (.ref D) [v] (fun _ H9 => N σ6 H9) I8 rfl (.cons r8 .nil) ⟨D, ys, y, rfl, rfl, eD, hz, n8⟩) fun _ s9 ⟨_, H9, I9, _, n9⟩ => ?_))
      exact wpAny_pure (wpAny_pure ⟨rfl, again I9 n9⟩)

section
variable {X : Cx}
def tComp (xs : List Str) (wi : TI) (g : TG) (tc : TT) (te : TE) : TE := fun σ H Q => wi σ H fun J H1 => ∀ D, H1 D = none → tTurns J g tc te D (fun H' => Q (.ref D) H') (blkσ xs σ) (upd H1 D (.lst []))
/-- the whole comprehension; use: what is done with it at once -/
theorem comp_core {tg iter elt : Expr} {ifs : List Expr} {sc : Scope} {pos pos' : Pos} {xs : List Str} {wi : TI} {g : TG} {tc : TT} {te : TE} {use : Option (Value → Sem Unit)} (hcalm : X.calm = true) (B : BlkScope X xs sc) (hi : PI X tg iter wi)
    (hb : ∀ pins C fp s3 H3, PG (blk X pins xs sc C fp s3 H3) tg g ∧ PIf (blk X pins xs sc C fp s3 H3) ifs tc ∧ PE (blk X pins xs sc C fp s3 H3) elt te)
    {pins : List (Addr × Obj)} {s : Shared} {σ : St} {H : Hp} {Q : Value → Shared → Prop} {QA : Addr → Hp → Prop} (I : Inv X pins σ H s) (h : wi σ H fun J H1 => ∀ D, H1 D = none → tTurns J g tc te D (QA D) (blkσ xs σ) (upd H1 D (.lst [])))
    (fin : ∀ C D H' s' m, s'.heap.Ns C m → H' C = none → Inv X pins σ H' s' → QA D H' → (∀ σ2 H2 s2 h2, Inv X pins σ2 H2 s2 → H2 C = none → Heap.SameBut C s2.heap h2 → Inv X pins σ2 H2 { s2 with heap := h2 }) → C ≠ X.env.locals → (∀ x c, X.env.cells.lookup x = some c → c ≠ C) →
      match use with
      | none => ∀ h', Heap.SameBut C s'.heap h' → Q (.ref D) { s' with heap := h' }
      | some u => wpAny (model X.prog X.w) X.A (u (.ref D)) (fun _ s'' => ∃ m, s''.heap.Ns C m ∧ ∀ h', Heap.SameBut C s''.heap h' → Q .none { s'' with heap := h' }) X.xe s')
    (hs : ∀ x, foldedSetIterable iter X.env x = pure x := by intro _; rfl) :
    wpAny (model X.prog X.w) X.A (comprehension (.ListComp elt [⟨tg, iter, ifs, 0⟩] sc pos) sc X.env pos' (newList []) false (eval iter X.env) use) Q X.xe s := by
  refine wpAny_comprehension_free (cl := closL X.env.cells sc.names []) (use := use) rfl hs (closureFor_closL (B.cells I.ok)) B.kind B.locs
    (thn (hi pins s σ H _ I h) fun v s1 h1 => thn h1 fun itv s2 h2 => ?_)
  obtain ⟨it, fp, tn, J, H2, e, I2, T, st2, f2, tr⟩ := h2
  subst e
  have hfl : ∀ b ∈ fp, b < s2.heap.objs.size := fun b hb => by obtain ⟨o, e, _⟩ := T.obj _ _ st2 b hb; exact Heap.lt_size e
  have hD : H2 s2.heap.objs.size = none := I2.hok.fresh (Nat.le_refl _)
  refine wpAny_newObj_type (wpAny_newFunctionEnv B.nocell (by intro y hy; simp at hy) (fun h1 hns hsb => ?_) B.kind)
  have hsz : (s2.heap.push { cls := .type "list", data := .seq ([] : List Value).toArray }).objs.size = s2.heap.objs.size + 1 := Heap.size_push ..
  dsimp only at hns hsb ⊢
  rw [hsz] at hns hsb ⊢
  have hk : ∀ b o, (s2.heap.push { cls := .type "list", data := .seq ([] : List Value).toArray }).get? b = some o → h1.get? b = some o := fun b o e =>
    (hsb.2 b (Nat.ne_of_lt (by have := Heap.lt_size e; rw [hsz] at this; exact this))).trans (Heap.get?_push_of_some _ e)
  have J0 := blk_start (tk := s2.toks + ([] : List (Str × Value)).length) hcalm B I2 f2 hfl hns hk
  have st3 : tn 0 h1 := T.keep _ _ _ st2 fun b _ o e => hk b o (Heap.get?_push_of_some _ e)
  have fY : ∀ b ∈ fp, FpOk (blk X pins xs sc (s2.heap.objs.size + 1) fp { s2 with heap := s2.heap.push { cls := .type "list", data := .seq ([] : List Value).toArray } } (upd H2 s2.heap.objs.size (.lst []))) [] (upd H2 s2.heap.objs.size (.lst [])) b := fun b hb => by
    obtain ⟨q1, q2, q3, q4, q5, q6⟩ := f2 b hb
    refine ⟨by rw [upd_ne (Nat.ne_of_lt (hfl b hb))]; exact q1, Nat.ne_of_lt (Nat.lt_succ_of_lt (hfl b hb)), fun z => ?_, .inl hb, fun x c e => q5 x c (B.sub I2.ok e), fun p hp => ?_⟩
    · rcases List.mem_cons.mp (I2.stkSub _ z) with e | z
      · exact q2 e
      · exact q3 z
    · rcases List.mem_append.mp hp with z | z
      · exact q6 p z
      · exact nomatch z
  have loop : ∀ (RR : Result → Shared → Prop), (∀ σ' H' s', Inv (blk X pins xs sc (s2.heap.objs.size + 1) fp { s2 with heap := s2.heap.push { cls := .type "list", data := .seq ([] : List Value).toArray } } (upd H2 s2.heap.objs.size (.lst []))) [] σ' H' s' → QA s2.heap.objs.size H' → RR (.ok .next) s') →
      codeAny (model X.prog X.w) X.A (.compLoop (.ListComp elt [⟨tg, iter, ifs, 0⟩] sc pos) 0 (.ref it) (.ref s2.heap.objs.size) (compEnvC sc (closL X.env.cells sc.names []) (s2.heap.objs.size + 1) X.env)) RR
        { s2 with heap := h1, toks := s2.toks + ([] : List (Str × Value)).length } := fun RR hR =>
    comp_loop (Y := blk X pins xs sc (s2.heap.objs.size + 1) fp { s2 with heap := s2.heap.push { cls := .type "list", data := .seq ([] : List Value).toArray } } (upd H2 s2.heap.objs.size (.lst []))) rfl rfl rfl rfl rfl T (hb _ _ _ _ _).1 (hb _ _ _ _ _).2.1 (hb _ _ _ _ _).2.2 J0 st3 fY (tr _ hD) hR
  refine codeAny_compStart_list (loop _ ?_) (T.self _ 0 _ _ _ st3 (loop _ ?_))
  all_goals
    intro σ' H' s' J' q'
    have I' := blk_end (sc := sc) I2 f2 J'
    obtain ⟨m, hm, _⟩ := J'.loc
    have hC : H' (s2.heap.objs.size + 1) = none := J'.free
    have z := fin (s2.heap.objs.size + 1) s2.heap.objs.size H' s' m hm hC I' q' (fun σ3 H3 s3 h3 I3 c3 sb => blk_gone (fp := fp) (s' := s') (σ' := σ') (H' := H') I2 c3 I3 sb) (Nat.ne_of_gt (Nat.lt_succ_of_lt I2.lt))
      (fun x c e => by obtain ⟨v, q⟩ := I2.cell x c e; exact Nat.ne_of_lt (Nat.lt_succ_of_lt q.lt))
    cases use with
    | none => exact ⟨m, hm, fun h' sb => z h' sb⟩
    | some u => exact z
theorem pe_comp {tg iter elt : Expr} {ifs : List Expr} {sc : Scope} {pos : Pos} (xs : List Str) {wi : TI} {g : TG} {tc : TT} {te : TE} (hcalm : X.calm = true) (B : BlkScope X xs sc) (hi : PI X tg iter wi)
    (hb : ∀ pins C fp s3 H3, PG (blk X pins xs sc C fp s3 H3) tg g ∧ PIf (blk X pins xs sc C fp s3 H3) ifs tc ∧ PE (blk X pins xs sc C fp s3 H3) elt te) (hs : ∀ x, foldedSetIterable iter X.env x = pure x := by intro _; rfl) :
    PE X (.ListComp elt [⟨tg, iter, ifs, 0⟩] sc pos) (tComp xs wi g tc te) := by
  intro pins s σ H Q I h
  rw [eval_ListComp]
  exact comp_core (use := none) (Q := EP X pins σ Q) (QA := fun D H' => Q (.ref D) H') hcalm B hi hb I h (fun C D H' s' m _ hC I' q back _ _ h' sb => ⟨.ref D, H', back σ H' s' h' I' hC sb, rfl, q⟩) hs
/-- name = [..], the name a local one of the def: stored ahead of the block's names' going -/
theorem ps_comp {tg iter elt : Expr} {ifs : List Expr} {sc : Scope} {pos spos py : Pos} (xs : List Str) {j : Nat} {y : Str} {wi : TI} {g : TG} {tc : TT} {te : TE} (hcalm : X.calm = true) (B : BlkScope X xs sc) (hi : PI X tg iter wi)
    (hb : ∀ pins C fp s3 H3, PG (blk X pins xs sc C fp s3 H3) tg g ∧ PIf (blk X pins xs sc C fp s3 H3) ifs tc ∧ PE (blk X pins xs sc C fp s3 H3) elt te)
    (hN : X.N.Nodup) (hj : X.N[j]? = some y) (hy : Loc X.env.scope y) (hsw : swapsWith (.ListComp elt [⟨tg, iter, ifs, 0⟩] sc pos) (some (.Name y py)) spos.line X.env = pure true)
    (hfn : X.fn y = true ∨ X.env.scope.names.lookup y = some .local := by first | exact .inl rfl | exact .inr rfl | assumption) (hs : ∀ x, foldedSetIterable iter X.env x = pure x := by intro _; rfl) :
    PS X (.Assign [.Name y py] (.ListComp elt [⟨tg, iter, ifs, 0⟩] sc pos) spos) (tAsg (tComp xs wi g tc te) (gName j)) := by
  intro pins s σ H D I h
  rw [exec_Assign_Name_used _ _ _ _ hsw]
  refine wpAny_bind (wpAny_standAt (wpAny_bind ?_))
  show wpAny _ X.A (do let _ ← comprehension (.ListComp elt [⟨tg, iter, ifs, 0⟩] sc pos) sc X.env _ (newList []) false (eval iter X.env) (some (assign (.Name y py) X.env))) _ _ s
  refine wpAny_bind (wpAny_mono (comp_core (use := some (assign (.Name y py) X.env)) (Q := fun _ s' => SP X pins D .next s') (QA := fun Da H' => D.nx (σ.set j (some (.ref Da))) H') hcalm B hi hb I h (fun C Da H' s' m hm hC I' q back hCL hCc => ?_) hs) (fun _ s' hq => wpAny_pure (wpAny_pure hq)) fun _ _ e => e)
  refine wpAny_assign_Name (store_ok2 I' hN hj hy (v := .ref Da) rfl (fun s2 I2 ⟨a, sb, ha⟩ => ?_) hfn)
  have hne : C ≠ a := by
    rcases ha with z | z
    · rw [z]; exact hCL
    · exact fun e => hCc _ _ z e.symm
  exact ⟨m, hm.sameBut sb hne, fun h' sb' => ⟨_, H', back _ H' s2 h' I2 hC sb', q⟩⟩
end
end L2
/-! MORE RULES over the layer: == and != of lists and tuples, isinstance, list(range(..)), sorted, a dict that is walked, a call of a value, all(..) -/
namespace L2
open PySem PySem.Spec PyProof.Rows PySem.SeqAt

/-! ### == within lists and tuples -/
inductive EqV (K : PySem.W.Frag) (H : Hp) : Nat → V → V → Bool → Prop where
  | int {n : Nat} (i j : Int) : EqV K H n (.int i) (.int j) (i == j)
  | bl {n : Nat} (i j : Bool) : EqV K H n (.bl i) (.bl j) (i == j)
  | str {n : Nat} (i j : Str) : EqV K H n (.str i) (.str j) (i == j)
  | same {n : Nat} (a : Addr) : EqV K H n (.ref a) (.ref a) true
  | non {n : Nat} : EqV K H n .non .non true
  | lst {n : Nat} {a b : Addr} {xs ys : List V} {e : Nat → Bool} (ne : a ≠ b) (h1 : SqL K H a xs) (h2 : SqL K H b ys) (hl : xs.length = ys.length)
      (he : ∀ (j : Nat) (x y : V), xs[j]? = some x → ys[j]? = some y → EqV K H n x y (e j)) : EqV K H (n + 1) (.ref a) (.ref b) ((List.range xs.length).all e)
  | lstN {n : Nat} {a b : Addr} {xs ys : List V} (ne : a ≠ b) (h1 : SqL K H a xs) (h2 : SqL K H b ys) (hl : xs.length ≠ ys.length) : EqV K H (n + 1) (.ref a) (.ref b) false
  | tup {n : Nat} {a b : Addr} {xs ys : List V} {e : Nat → Bool} (ne : a ≠ b) (h1 : SqT K H a xs) (h2 : SqT K H b ys) (hl : xs.length = ys.length)
      (he : ∀ (j : Nat) (x y : V), xs[j]? = some x → ys[j]? = some y → EqV K H n x y (e j)) : EqV K H (n + 1) (.ref a) (.ref b) ((List.range xs.length).all e)
section
variable {X : Cx} {pins : List (Addr × Obj)} {σ : St} {H : Hp} {s : Shared}
theorem vals_at {xs : List V} {us : List Value} (r : Vals xs us) {j : Nat} (h : j < us.toArray.size) : ∃ x, xs[j]? = some x ∧ RelV x us.toArray[j] := by
  have hl := r.length
  have hj : j < xs.length := by rw [hl]; simpa using h
  obtain ⟨u, hu, ru⟩ := r.get (List.getElem?_eq_getElem hj)
  have e : us.toArray[j] = u := by
    have : us[j]? = some us.toArray[j] := by simp
    rw [this] at hu; exact Option.some.inj hu
  exact ⟨xs[j], List.getElem?_eq_getElem hj, by rw [e]; exact ru⟩
theorem EqV.at (I : Inv X pins σ H s) : ∀ {n : Nat} {x y : V} {b : Bool}, EqV X.K H n x y b → ∀ {A : Around} {u v : Value}, A.units + n < cLine → RelV x u → RelV y v → EqAt A s u v b := by
  intro n x y b h
  induction h with
  | int i j => intro A u v _ ru rv; obtain ⟨t, rfl⟩ := ru; obtain ⟨t', rfl⟩ := rv; exact EqAt.int_int _ _ _ _
  | bl i j => intro A u v _ ru rv; cases ru; cases rv; exact EqAt.bool_bool _ _
  | str i j => intro A u v _ ru rv; obtain ⟨t, rfl⟩ := ru; obtain ⟨t', rfl⟩ := rv; exact EqAt.str_str _ _ _ _
  | same a => intro A u v _ ru rv; cases ru; cases rv; exact EqAt.same _
  | non => intro A u v _ ru rv; cases ru; cases rv; exact EqAt.same _
  | @lst n a b xs ys e ne h1 h2 hl he ih =>
    intro A u v hu ru rv
    cases ru; cases rv
    obtain ⟨i1, r1, p1, _⟩ := I.list h1
    obtain ⟨i2, r2, p2, _⟩ := I.list h2
    have e1 : xs.length = i1.toArray.size := by rw [r1.length]; simp
    have e2 : ys.length = i2.toArray.size := by rw [r2.length]; simp
    rw [e1]
    refine EqAt.of_refs ne (RcAt.lists p1.isList p2.isList (by omega) (by omega) fun j k1 k2 => ?_)
    obtain ⟨x, hx, rx⟩ := vals_at r1 k1
    obtain ⟨y, hy, ry⟩ := vals_at r2 k2
    exact ih j x y hx hy (by show A.units + 1 + n < cLine; omega) rx ry
  | @lstN n a b xs ys ne h1 h2 hl =>
    intro A u v hu ru rv
    cases ru; cases rv
    obtain ⟨i1, r1, p1, _⟩ := I.list h1
    obtain ⟨i2, r2, p2, _⟩ := I.list h2
    refine EqAt.of_refs ne (RcAt.lists_lengths p1.isList p2.isList ?_ (by omega))
    have e1 : xs.length = i1.toArray.size := by rw [r1.length]; simp
    have e2 : ys.length = i2.toArray.size := by rw [r2.length]; simp
    exact bne_iff_ne.mpr (by omega)
  | @tup n a b xs ys e ne h1 h2 hl he ih =>
    intro A u v hu ru rv
    cases ru; cases rv
    obtain ⟨i1, r1, p1, _⟩ := I.tuple h1
    obtain ⟨i2, r2, p2, _⟩ := I.tuple h2
    have e1 : xs.length = i1.toArray.size := by rw [r1.length]; simp
    have e2 : ys.length = i2.toArray.size := by rw [r2.length]; simp
    have q := RcAt.tuples (A := A) (e := e) p1 p2 (by omega) fun j k1 k2 => by
      obtain ⟨x, hx, rx⟩ := vals_at r1 k1
      obtain ⟨y, hy, ry⟩ := vals_at r2 k2
      exact ih j x y hx hy (by show A.units + 1 + n < cLine; omega) rx ry
    have ez : i1.toArray.size = i2.toArray.size := by omega
    rw [ez, Nat.min_self, beq_self_eq_true, Bool.and_true, ← ez, ← e1] at q
    exact EqAt.of_refs ne q
/-- == of two lists or tuples, whatever the two are -/
inductive RcV (K : PySem.W.Frag) (H : Hp) : V → V → Bool → Prop where
  | lst {a b : Addr} {xs ys : List V} {e : Nat → Bool} (h1 : SqL K H a xs) (h2 : SqL K H b ys) (hl : xs.length = ys.length)
      (he : ∀ (j : Nat) (x y : V), xs[j]? = some x → ys[j]? = some y → EqV K H 4 x y (e j)) : RcV K H (.ref a) (.ref b) ((List.range xs.length).all e)
  | lstN {a b : Addr} {xs ys : List V} (h1 : SqL K H a xs) (h2 : SqL K H b ys) (hl : xs.length ≠ ys.length) : RcV K H (.ref a) (.ref b) false
  | tup {a b : Addr} {xs ys : List V} {e : Nat → Bool} (h1 : SqT K H a xs) (h2 : SqT K H b ys) (hl : xs.length = ys.length)
      (he : ∀ (j : Nat) (x y : V), xs[j]? = some x → ys[j]? = some y → EqV K H 4 x y (e j)) : RcV K H (.ref a) (.ref b) ((List.range xs.length).all e)
theorem RcV.at (I : Inv X pins σ H s) {x y : V} {b : Bool} (h : RcV X.K H x y b) {A : Around} {u v : Value} (hu : A.units + 8 < cLine) (ru : RelV x u) (rv : RelV y v) : RcAt A s u v b ∧ RcNeAt A s u v (!b) := by
  cases h with
  | @lst a b xs ys e h1 h2 hl he =>
    cases ru; cases rv
    obtain ⟨i1, r1, p1, _⟩ := I.list h1
    obtain ⟨i2, r2, p2, _⟩ := I.list h2
    have e1 : xs.length = i1.toArray.size := by rw [r1.length]; simp
    have e2 : ys.length = i2.toArray.size := by rw [r2.length]; simp
    have el : ∀ j (k1 : j < i1.toArray.size) (k2 : j < i2.toArray.size), EqAt A.in1 s i1.toArray[j] i2.toArray[j] (e j) := fun j k1 k2 => by
      obtain ⟨x, hx, rx⟩ := vals_at r1 k1
      obtain ⟨y, hy, ry⟩ := vals_at r2 k2
      exact (he j x y hx hy).at I (by show A.units + 1 + 4 < cLine; omega) rx ry
    rw [e1]
    exact ⟨RcAt.lists p1.isList p2.isList (by omega) (by omega) el, RcNeAt.lists p1.isList p2.isList (by omega) (by omega) el⟩
  | @lstN a b xs ys h1 h2 hl =>
    cases ru; cases rv
    obtain ⟨i1, r1, p1, _⟩ := I.list h1
    obtain ⟨i2, r2, p2, _⟩ := I.list h2
    have e1 : xs.length = i1.toArray.size := by rw [r1.length]; simp
    have e2 : ys.length = i2.toArray.size := by rw [r2.length]; simp
    have q : (i1.toArray.size != i2.toArray.size) = true := bne_iff_ne.mpr (by omega)
    exact ⟨RcAt.lists_lengths p1.isList p2.isList q (by omega), RcNeAt.lists_lengths p1.isList p2.isList q (by omega)⟩
  | @tup a b xs ys e h1 h2 hl he =>
    cases ru; cases rv
    obtain ⟨i1, r1, p1, _⟩ := I.tuple h1
    obtain ⟨i2, r2, p2, _⟩ := I.tuple h2
    have e1 : xs.length = i1.toArray.size := by rw [r1.length]; simp
    have e2 : ys.length = i2.toArray.size := by rw [r2.length]; simp
    have el : ∀ j (k1 : j < i1.toArray.size) (k2 : j < i2.toArray.size), EqAt A.in1 s i1.toArray[j] i2.toArray[j] (e j) := fun j k1 k2 => by
      obtain ⟨x, hx, rx⟩ := vals_at r1 k1
      obtain ⟨y, hy, ry⟩ := vals_at r2 k2
      exact (he j x y hx hy).at I (by show A.units + 1 + 4 < cLine; omega) rx ry
    have ez : i1.toArray.size = i2.toArray.size := by omega
    have q1 := RcAt.tuples (A := A) (e := e) p1 p2 (by omega) el
    have q2 := RcNeAt.tuples (A := A) (e := e) p1 p2 (by omega) el
    rw [ez, Nat.min_self, beq_self_eq_true, Bool.and_true, ← ez, ← e1] at q1 q2
    exact ⟨q1, q2⟩
def rEqD (K : PySem.W.Frag) : R2 := fun x y H Q => ∃ b, RcV K H x y b ∧ Q (.bl b) H
def rNeD (K : PySem.W.Frag) : R2 := fun x y H Q => ∃ b, RcV K H x y b ∧ Q (.bl (!b)) H
theorem op_eqD (hu : X.A.units + 64 < cLine) : OpR X (compareOp .Eq) (rEqD X.K) := by
  intro pins s σ H x y v u Q I rx ry ⟨b, h, q⟩
  exact (h.at I (by omega) rx ry).1 _ _ _ _ ⟨.bl b, H, I, rfl, q⟩
theorem op_neD (hu : X.A.units + 64 < cLine) : OpR X (compareOp .NotEq) (rNeD X.K) := by
  intro pins s σ H x y v u Q I rx ry ⟨b, h, q⟩
  exact (h.at I (by omega) rx ry).2 _ _ _ _ ⟨.bl (!b), H, I, rfl, q⟩
end
theorem range_all_eq {α : Type} [BEq α] [LawfulBEq α] : ∀ {xs ys : List α}, xs.length = ys.length → (List.range xs.length).all (fun j => xs[j]? == ys[j]?) = (xs == ys) := by
  intro xs ys hl
  rw [Bool.eq_iff_iff, List.all_eq_true, beq_iff_eq]
  constructor
  · intro h
    refine List.ext_getElem? fun j => ?_
    by_cases hj : j < xs.length
    · exact eq_of_beq (h j (List.mem_range.mpr hj))
    · rw [List.getElem?_eq_none (by omega), List.getElem?_eq_none (by omega)]
  · intro h j _
    rw [h]; exact beq_self_eq_true _
section
variable {K : PySem.W.Frag} {H : Hp}
/-- two lists of ints -/
theorem eqv_ints_item {n : Nat} {xs ys : List Int} : ∀ (j : Nat) (x y : V), (xs.map V.int)[j]? = some x → (ys.map V.int)[j]? = some y → EqV K H n x y (xs[j]? == ys[j]?) := by
  intro j x y hx hy
  rw [List.getElem?_map] at hx hy
  cases ex : xs[j]? with
  | none => rw [ex] at hx; cases hx
  | some i =>
    cases ey : ys[j]? with
    | none => rw [ey] at hy; cases hy
    | some k =>
      rw [ex] at hx; rw [ey] at hy; cases hx; cases hy
      have e : (some i == some k) = (i == k) := by rfl
      rw [e]
      exact EqV.int i k
theorem eqv_ints {n : Nat} {a b : Addr} {xs ys : List Int} (ne : a ≠ b) (h1 : SqL K H a (xs.map V.int)) (h2 : SqL K H b (ys.map V.int)) : EqV K H (n + 1) (.ref a) (.ref b) (xs == ys) := by
  by_cases hl : xs.length = ys.length
  · have q := EqV.lst (n := n) (e := fun j => xs[j]? == ys[j]?) ne h1 h2 (by simpa using hl) eqv_ints_item
    rw [List.length_map, range_all_eq hl] at q
    exact q
  · have e : (xs == ys) = false := by rw [beq_eq_false_iff_ne]; intro e; exact hl (by rw [e])
    rw [e]
    exact EqV.lstN ne h1 h2 (by simpa using hl)
theorem rcv_ints {a b : Addr} {xs ys : List Int} (h1 : SqL K H a (xs.map V.int)) (h2 : SqL K H b (ys.map V.int)) : RcV K H (.ref a) (.ref b) (xs == ys) := by
  by_cases hl : xs.length = ys.length
  · have q := RcV.lst (e := fun j => xs[j]? == ys[j]?) h1 h2 (by simpa using hl) eqv_ints_item
    rw [List.length_map, range_all_eq hl] at q
    exact q
  · have e : (xs == ys) = false := by rw [beq_eq_false_iff_ne]; intro e; exact hl (by rw [e])
    rw [e]
    exact RcV.lstN h1 h2 (by simpa using hl)
/-- a list and the empty list -/
theorem rcv_nil {a b : Addr} {xs : List V} (h1 : SqL K H a xs) (h2 : SqL K H b []) : RcV K H (.ref a) (.ref b) xs.isEmpty := by
  cases xs with
  | nil => exact RcV.lst (e := fun _ => true) h1 h2 rfl (fun j x y hx => nomatch hx)
  | cons x r => exact RcV.lstN h1 h2 (by simp)
end

/-! ### isinstance -/
section
variable {X : Cx}
def rIsi (K : PySem.W.Frag) (T : String) : List V → Hp → VK → Prop := fun vs H Q => ∃ x t b, vs = [x, .ty T] ∧ TyOf K H x t ∧ PySem.W.kitOne K t (.type T) = some b ∧ Q (.bl b) H
theorem call_isi (T : String) : CallR X (.builtin "isinstance") (rIsi X.K T) := by
  intro pins s σ H xs us Q I r h
  obtain ⟨x, t, b, rfl, ty, e, q⟩ := h
  obtain ⟨u, v, rfl, ru, rv⟩ := r.two
  cases rv
  exact isinst_ok I ru ty e fun tk => ⟨.bl b, H, I.tok tk, rfl, q⟩
/-- list(range(lo, hi)) -/
theorem rng_list {pins : List (Addr × Obj)} {σ : St} {H : Hp} {s : Shared} {Q : VK} {E : Value → Shared → Prop} {lo hi : Int} {t u v : Tok} {tk : Nat} (hcalm : X.calm = true) (I : Inv X pins σ H s) (h1 : -(2 ^ 20) ≤ lo) (h2 : lo < 2 ^ 20) (h3 : -(2 ^ 20) ≤ hi) (h4 : hi < 2 ^ 20)
    (q : ∀ p, H p = none → Q (.ref p) (upd H p (.lst ((List.range (hi - lo).toNat).map fun i : Nat => V.int (lo + i))))) :
    wpAny (model X.prog X.w) X.A (call (.type "list") [.ref s.heap.objs.size]) (EP X pins σ Q) E { s with heap := s.heap.push { cls := .type "range", data := .fields #[.int lo t, .int hi u, .int 1 v] }, toks := tk } := by
  have I1 : Inv X pins σ H { s with heap := s.heap.push { cls := .type "range", data := .fields #[.int lo t, .int hi u, .int 1 v] }, toks := tk } := I.kept fun b o e => Heap.get?_push_of_some _ e
  refine call_list_range (n := (hi - lo).toNat) (I.ok.hd hcalm) (IsRange.new ..) (small_one (by omega) (by omega) (by omega) (by omega)) (by rw [rangeSize_one]; split <;> omega) (by omega) fun h' tk' acc' c' hk hS hacc => ?_
  refine ⟨.ref _, _, I1.laid (t' := tk') hk (Nat.le_refl _) (show ObjOk X.prog X.w _ h' _ (.lst ((List.range (hi - lo).toNat).map fun i : Nat => V.int (lo + i))) from ⟨?_, acc'.toList, c', ?_, by simpa using hS⟩), rfl, q _ (I1.hok.fresh (Nat.le_refl _))⟩
  · rw [List.length_map, List.length_range]
    exact Nat.le_trans (show (hi - lo).toNat ≤ 2 ^ 22 by omega) (by decide)
  · have key : ∀ (n : Nat) (us : List Value) (f : Nat → Int), us.length = n → (∀ (j : Nat) (u : Value), us[j]? = some u → ∃ t, u = Value.int (f j) t) → Vals ((List.range n).map fun i : Nat => V.int (f i)) us := by
      intro n
      induction n with
      | zero => intro us f hl _; have : us = [] := List.eq_nil_of_length_eq_zero hl; subst this; exact .nil
      | succ n ih =>
        intro us f hl hu
        cases us with
        | nil => cases hl
        | cons u0 r =>
          rw [List.range_succ_eq_map, List.map_cons, List.map_map]
          refine .cons (hu 0 u0 rfl) ?_
          exact ih r (fun i => f (i + 1)) (by simpa using hl) fun j w hw => hu (j + 1) w (by simpa using hw)
    refine key _ _ (fun i => lo + i) (by rw [Array.length_toList]; exact hacc.1) fun j w hw => ?_
    obtain ⟨t, e⟩ := hacc.2 j w (by rw [← Array.getElem?_toList]; exact hw)
    exact ⟨t, by rw [e, Int.mul_one]⟩
def tLRng (ta : TA) (lo : List V → Option (Int × Int)) : TE := fun σ H Q => ta σ H fun vs H1 => ∃ i j, lo vs = some (i, j) ∧ (-(2 ^ 20) ≤ i ∧ i < 2 ^ 20 ∧ -(2 ^ 20) ≤ j ∧ j < 2 ^ 20) ∧ ∀ p, H1 p = none → Q (.ref p) (upd H1 p (.lst ((List.range (j - i).toNat).map fun k : Nat => V.int (i + k))))
def rg1 : List V → Option (Int × Int)
  | [.int j] => some (0, j)
  | _ => none
def rg2 : List V → Option (Int × Int)
  | [.int i, .int j] => some (i, j)
  | _ => none
theorem pe_list_range1 {a : Expr} {ta : TA} {p pos p' pos' : Pos} (hcalm : X.calm = true) (hg : Gl X "range") (hm : X.mg "range" = none) (hg' : Gl X "list") (hm' : X.mg "list" = none) (ha : PA X [a] ta) (hs : starEach [a] X.env = [(false, eval a X.env)] := by rfl)
    (hs' : starEach [.Call (.Name "range" p) [a] [] pos] X.env = [(false, eval (.Call (.Name "range" p) [a] [] pos) X.env)] := by rfl) :
    PE X (.Call (.Name "list" p') [.Call (.Name "range" p) [a] [] pos] [] pos') (tLRng ta rg1) := by
  intro pins s σ H Q I h
  refine Call_ (ld_blt I hg' hm' boot_list (PyProof.Rows.callWith_type1 ?_ hs' rfl))
  rw [hs']
  show wpAny _ _ (spliced ((false, eval (.Call (.Name "range" p) [a] [] pos) X.env) :: [])) _ _ s
  refine Calls.spliced_cons (Call_ (ld_blt I hg hm boot_range (PyProof.Rows.callWith_type1 (thn (ha pos pins s σ H _ I h) fun us s1 ⟨vs, H1, I1, r1, q1⟩ => ?_) hs rfl)))
  obtain ⟨i, j, e, ⟨q1, q2, q3, q4⟩, q⟩ := q1
  cases r1 with
  | nil => cases e
  | @cons x u xs us r rr =>
    cases rr with
    | cons _ _ => cases x <;> cases e
    | nil =>
      cases x with
      | int k =>
        cases e
        obtain ⟨t, rfl⟩ := r
        exact call_range_1 (Calls.spliced_nil (rng_list hcalm I1 q1 q2 q3 q4 q))
      | _ => cases e
theorem pe_list_range2 {a b : Expr} {ta : TA} {p pos p' pos' : Pos} (hcalm : X.calm = true) (hg : Gl X "range") (hm : X.mg "range" = none) (hg' : Gl X "list") (hm' : X.mg "list" = none) (ha : PA X [a, b] ta)
    (hs : starEach [a, b] X.env = [(false, eval a X.env), (false, eval b X.env)] := by rfl) (hs2 : starEach [b] X.env = [(false, eval b X.env)] := by rfl)
    (hs' : starEach [.Call (.Name "range" p) [a, b] [] pos] X.env = [(false, eval (.Call (.Name "range" p) [a, b] [] pos) X.env)] := by rfl) :
    PE X (.Call (.Name "list" p') [.Call (.Name "range" p) [a, b] [] pos] [] pos') (tLRng ta rg2) := by
  intro pins s σ H Q I h
  refine Call_ (ld_blt I hg' hm' boot_list (PyProof.Rows.callWith_type1 ?_ hs' rfl))
  rw [hs']
  show wpAny _ _ (spliced ((false, eval (.Call (.Name "range" p) [a, b] [] pos) X.env) :: [])) _ _ s
  refine Calls.spliced_cons (Call_ (ld_blt I hg hm boot_range (PyProof.Rows.callWith_type1 (thn (ha pos pins s σ H _ I h) fun us s1 ⟨vs, H1, I1, r1, q1⟩ => ?_) (by rw [hs, hs2]) (by rw [hs2]; rfl))))
  obtain ⟨i, j, e, ⟨q1, q2, q3, q4⟩, q⟩ := q1
  cases r1 with
  | nil => cases e
  | @cons x u xs us r rr =>
    cases rr with
    | nil => cases x <;> cases e
    | @cons y u' ys us' r' rr' =>
      cases rr' with
      | cons _ _ => cases x <;> cases y <;> cases e
      | nil =>
        cases x with
        | int k =>
          cases y with
          | int k' =>
            cases e
            obtain ⟨t, rfl⟩ := r
            obtain ⟨t', rfl⟩ := r'
            exact call_range_2 (Calls.spliced_nil (rng_list hcalm I1 q1 q2 q3 q4 q))
          | _ => cases e
        | _ => cases e

/-! ### sorted -/
theorem vals_intsAre : ∀ {ns : List Int} {us : List Value}, Vals (ns.map V.int) us → IntsAre us ns
  | [], _, .nil => .nil
  | n :: r, _, .cons h t => by obtain ⟨k, rfl⟩ := h; exact .cons n k (vals_intsAre t)
theorem intsAre_vals : ∀ {us : List Value} {ns : List Int}, IntsAre us ns → Vals (ns.map V.int) us
  | _, _, .nil => .nil
  | _, _, .cons n t h => .cons ⟨t, rfl⟩ (intsAre_vals h)
def rSorted (K : PySem.W.Frag) : List V → Hp → VK → Prop := fun vs H Q => ∃ (p : Addr) (ns : List Int), vs = [.ref p] ∧ SqL K H p (ns.map V.int) ∧ ns.length < 64 ∧ ∀ (l : Addr) (ns' : List Int), H l = none → ns'.Perm ns → ns'.Pairwise (· ≤ ·) → Q (.ref l) (upd H l (.lst (ns'.map V.int)))
theorem call_sorted : CallR X (.builtin "sorted") (rSorted X.K) := by
  intro pins s σ H xs us Q I r h
  obtain ⟨p, ns, rfl, hq, h64, q⟩ := h
  obtain ⟨u, rfl, ru⟩ := r.one
  cases ru
  obtain ⟨its, rv, pl, hz⟩ := I.list hq
  have hl := rv.length
  rw [List.length_map] at hl
  refine sorted_ints (vs := its) pl.isList (vals_intsAre rv) (by omega) fun out ns' a1 a2 a3 => ?_
  obtain ⟨e, he⟩ := sortedAll_at s.heap its out
  have hlen : ns'.length = ns.length := a2.length_eq
  refine ⟨.ref _, _, I.laid (t' := s.toks) (fun _ _ => sortedAll_old) (Nat.le_succ _) (show ObjOk X.prog X.w _ _ _ (.lst (ns'.map V.int)) from ⟨?_, out.toList, e, intsAre_vals a1, by simpa using he⟩), rfl, q _ ns' (I.hok.fresh (Nat.le_succ _)) a2 a3⟩
  rw [List.length_map, hlen]
  exact Nat.le_trans (Nat.le_of_lt h64) (by decide)
end

/-! ### a dict of ints held as it is while it is walked -/
section
variable {X : Cx} {pins : List (Addr × Obj)} {σ : St} {H : Hp} {s : Shared} {d : Addr} {kvs : List (Key × V)}
theorem Inv.ghost {H' : Hp} (I : Inv X pins σ H s) (hd : ∃ o, H d = some o ∧ (∀ xs, o ≠ .tup xs) ∧ (∀ ps, o ≠ .tbl ps) ∧ ∀ y, o ≠ .own y) (he : ∀ b, b ≠ d → H' b = H b) (hfz : ∀ o u, X.H₀ d = some (.frz o u) → H' d = some (.frz o u))
    (hn : ∃ o, H' d = some o ∧ (∀ y, o ≠ .own y) ∧ ObjOk X.prog X.w H' s.heap d o) : Inv X pins σ H' s := by
  obtain ⟨o, ho, n1, n2, n3⟩ := hd
  obtain ⟨o', ho', n3', ok'⟩ := hn
  have ne : ∀ b, H b = none → b ≠ d := fun b hb z => by rw [z, ho] at hb; cases hb
  refine ⟨I.ok, I.os, I.bare, ⟨I.base.keep, I.base.slot, fun b ob e n hx => ?_, I.base.there, fun b xs e => ?_, fun b ob u e => ?_, fun b ps e => ?_⟩, I.loc, I.cell, ?_, fun x c e => ?_, fun p hp => ?_, fun b u e => ?_, I.len⟩
  · have q := I.base.free b ob e n hx
    rw [he b (ne b q)]; exact q
  · have q := I.base.tups b xs e
    have hb : b ≠ d := fun z => by rw [z, ho] at q; exact n1 xs (Option.some.inj q)
    rw [he b hb]; exact q
  · by_cases hb : b = d
    · rw [hb] at e ⊢; exact hfz ob u e
    · rw [he b hb]; exact I.base.frzs b ob u e
  · obtain ⟨m, q⟩ := I.base.tbls b ps e
    have hb : b ≠ d := fun z => by rw [z, ho] at q; exact n2 _ (Option.some.inj q)
    exact ⟨m, by rw [he b hb]; exact q⟩
  · rw [he _ (ne _ I.free)]; exact I.free
  · rw [he c (ne c (I.freeC x c e))]; exact I.freeC x c e
  · obtain ⟨q1, q2, q3⟩ := I.pin p hp
    exact ⟨q1, by rw [he _ (ne _ q2)]; exact q2, q3⟩
  · by_cases hb : b = d
    · subst hb
      rw [ho'] at e
      cases e
      exact ok'
    · rw [he b hb] at e
      refine (I.hok b u e).stay (fun c w _ q => q) (fun c q => ?_) fun c xs q => ?_
      · have hc : c ≠ d := fun z => by rw [z, ho] at q; exact n3 _ (Option.some.inj q)
        rw [he c hc]; exact q
      · have hc : c ≠ d := fun z => by rw [z, ho] at q; exact n1 _ (Option.some.inj q)
        rw [he c hc]; exact q
/-- the dict at d is held through e -/
def tHold (t : TE) : TE := fun σ H Q => ∃ d kvs, H d = some (.dK kvs) ∧ ∀ o, t σ (upd H d (.frz o (.dK kvs))) fun v H' => H' d = some (.frz o (.dK kvs)) ∧ Q v (upd H' d (.dK kvs))
theorem Inv.hold (I : Inv X pins σ H s) (h : H d = some (.dK kvs)) : ∃ o, s.heap.get? d = some o ∧ Inv X pins σ (upd H d (.frz o (.dK kvs))) s := by
  have ok : ObjOk X.prog X.w H s.heap d (.dK kvs) := I.hok d _ h
  obtain ⟨z, y, vs, r, o, es, ep, e, c⟩ := id ok
  refine ⟨o, e, I.ghost (d := d) ⟨_, h, (fun _ z => nomatch z), (fun _ z => nomatch z), (fun _ z => nomatch z)⟩ (fun b hb => upd_ne hb) (fun o' u q => ?_) ⟨_, upd_same, (fun _ z => nomatch z), e, ⟨z, y, vs, r, o, es, ep, e, c⟩⟩⟩
  have := I.base.frzs d o' u q
  rw [h] at this; cases this
theorem pe_hold {e : Expr} {t : TE} (he : PE X e t) : PE X e (tHold t) := by
  intro pins s σ H Q I ⟨d, kvs, h, q⟩
  obtain ⟨o, eo, I1⟩ := I.hold h
  have nf : ∀ o' u, X.H₀ d ≠ some (.frz o' u) := fun o' u q => by
    have := I.base.frzs d o' u q
    rw [h] at this; cases this
  refine thn (he pins s σ _ _ I1 (q o)) fun v s1 ⟨x, H1, I2, r, eH, q1⟩ => ?_
  have ok : ObjOk X.prog X.w H1 s1.heap d (.frz o (.dK kvs)) := I2.hok d _ eH
  obtain ⟨eo', z, y, vs, rr, ob, es, ep, e, c⟩ := ok
  exact ⟨x, _, I2.ghost (d := d) (H' := upd H1 d (.dK kvs)) ⟨_, eH, (fun _ z => nomatch z), (fun _ z => nomatch z), (fun _ z => nomatch z)⟩ (fun b hb => upd_ne hb) (fun o' u q => absurd q (nf o' u)) ⟨_, upd_same, (fun _ z => nomatch z), z, y, vs, rr, ob, es, ep, e, c⟩, r, q1⟩
end

/-! ### a held dict, walked -/
/-- the keys of the dict at d, held as the object o -/
def Itd (d : Addr) (o : Obj) (kvs : List (Key × V)) : It :=
  ⟨fun i H => H d = some (.frz o (.dK kvs)) ∧ i < kvs.length, fun i H x H' => H' = H ∧ ∃ k, (kvs.map (·.1))[i]? = some k ∧ x = kV k, fun i H => H d = some (.frz o (.dK kvs)) ∧ kvs.length ≤ i⟩
theorem keyIs_rel {k : Key} {u : Value} (h : keyIs k u = true) : RelV (kV k) u := by
  rcases keyIs_shape h with ⟨i, t, rfl, rfl⟩ | ⟨x, t, rfl, rfl⟩
  · exact ⟨t, rfl⟩
  · exact ⟨t, rfl⟩
theorem KV.get {κ : Type} : ∀ {kvs : List (κ × V)} {vs : List (κ × Value)} {i : Nat}, KV kvs vs → i < kvs.length → ∃ k v, vs[i]? = some (k, v) ∧ (kvs.map (·.1))[i]? = some k
  | _, _, _, .nil, h => absurd h (Nat.not_lt_zero _)
  | (a, b) :: _, (c, e) :: _, 0, .cons r _, _ => ⟨c, e, rfl, congrArg some (show a = c from r.1)⟩
  | _ :: _, _ :: _, i + 1, .cons _ t, h => by
    obtain ⟨k, v, h1, h2⟩ := KV.get (i := i) t (by simpa using h)
    exact ⟨k, v, by simpa using h1, by simpa using h2⟩
theorem KV.len {κ : Type} {kvs : List (κ × V)} {vs : List (κ × Value)} (r : KV kvs vs) : kvs.length = vs.length := Paired.length r
theorem frz_dict {P : Program} {w : World} {H : Hp} {h : Heap} {d : Addr} {o : Obj} {kvs : List (Key × V)} {es0 : Array DictEntry} {ep : Nat} (ok : ObjOk P w H h d (.frz o (.dK kvs))) (hd : o.data = .dict es0 ep) :
    (d == sysModules) = false ∧ ∃ vs, KV kvs vs ∧ h.DictAt (mixKind P w) d vs ep := by
  obtain ⟨eo, z, y, vs, r, ob, es, ep', e, c1, c2, c3⟩ := ok
  rw [eo] at e; cases e
  rw [hd] at c2
  cases c2
  exact ⟨y, vs, r, o, es0, eo, c1, hd, c3⟩
theorem turn_dict {P : Program} {w : World} {K : PySem.W.Frag} {tg : Expr} (d it : Addr) {o : Obj} {kvs : List (Key × V)} {es0 : Array DictEntry} {ep : Nat} (hd : o.data = .dict es0 ep) : Turn P w K tg (Itd d o kvs) [it] it (fun i h => h.IsKeyIter it d i kvs.length ep) where
  mem := by simp
  obj := fun i h st b hb => by
    have e : b = it := by simpa using hb
    subst e
    obtain ⟨o, e, c, d⟩ := st
    exact ⟨o, e, fun v z => by rw [d] at z; cases z⟩
  keep := fun i h h' st k => by
    obtain ⟨o, e, r⟩ := st
    exact ⟨o, k it (by simp) o e, r⟩
  item := by
    intro X hP hw hK hc i pins s σ H E I hf st hg
    subst hP hw hK
    obtain ⟨hq, hx⟩ := hg
    obtain ⟨_, vs, rv, hat⟩ := frz_dict (I.hok d _ hq) hd
    obtain ⟨k, v, hv, hk⟩ := rv.get hx
    obtain ⟨f0, f1, f2, f3, f4, f5⟩ := hf it (by simp)
    rw [rv.len] at st
    refine wpAny_pyNext_dict_item st hat hv fun key h' hkey st' sb => ?_
    have I1 : Inv X pins σ H { s with heap := h' } := I.turned (t' := s.toks) (fun b o hb e => (sb.2 b hb).trans e) f0 f1 f3 f4 f5
    obtain ⟨ob, e, c, dd⟩ := id st'
    rw [← rv.len] at st'
    exact ⟨key, rfl, go_of (s := { s with heap := h' }) e c dd (by decide) ⟨kV k, H, I1, keyIs_rel hkey, ⟨rfl, k, hk, rfl⟩, st', fun b hb => (hf b hb).1⟩⟩
  done := by
    intro X hP hw hK hc i pins s σ H E I hf st hg
    subst hP hw hK
    obtain ⟨hq, hx⟩ := hg
    obtain ⟨_, vs, rv, hat⟩ := frz_dict (I.hok d _ hq) hd
    obtain ⟨f0, f1, f2, f3, f4, f5⟩ := hf it (by simp)
    have hl := rv.len
    rw [hl] at st
    exact wpAny_pyNext_dict_end (I.ok.hd hc) st hat (List.getElem?_eq_none (by omega)) fun h' eb => ⟨rfl, I.turned (t' := s.toks) (fun b o hb e => eb b o hb e) f0 f1 f3 f4 f5⟩
  self := fun _ _ _ _ _ st h => by
    obtain ⟨o, e, c, dd⟩ := id st
    exact wpAny_pyIter_keyiter st h
section
variable {X : Cx} {tg : Expr}
def iDict (tl : TE) : TI := fun σ H R => tl σ H fun x H1 => ∃ d o kvs, x = .ref d ∧ H1 d = some (.frz o (.dK kvs)) ∧ R (Itd d o kvs) H1
theorem pi_dict {l : Expr} {tl : TE} (hl : PE X l tl) : PI X tg l (iDict tl) := by
  intro pins s σ H R I h
  refine thn (hl pins s σ H _ I h) fun v s1 ⟨x, H1, I1, r1, q1⟩ => ?_
  obtain ⟨d, o, kvs, e, hq, q⟩ := q1
  subst e
  cases r1
  obtain ⟨eo, z, y, vs, rr, ob, es, ep, e, c1, c2, c3⟩ := I1.hok d _ hq
  rw [eo] at e; cases e
  refine wpAny_pyIter_dict (knd := mixKind X.prog X.w) (kvs := vs) (ep := ep) y ⟨o, es, eo, c1, c2, c3⟩ ?_
  refine ⟨s1.heap.objs.size, [s1.heap.objs.size], _, _, H1, rfl, I1.kept (t' := s1.toks) fun b o e => Heap.get?_push_of_some _ e, turn_dict d _ c2, ⟨_, Heap.get?_push_size _ rfl, rfl, by rw [KV.len rr]; rfl⟩, fun b hb => ?_, q⟩
  have e : b = s1.heap.objs.size := by simpa using hb
  subst e
  exact I1.fpOk (Nat.le_refl _) (I1.hok.fresh (Nat.le_refl _))
/-- sorted(d), the keys ints -/
theorem call_sorted_dict (hcalm : X.calm = true) : CallR X (.builtin "sorted") (fun vs H Q => ∃ (d : Addr) (kvs : List (Key × V)) (ns : List Int), vs = [.ref d] ∧ H d = some (.dK kvs) ∧ kvs.map (·.1) = ns.map Sum.inl ∧ ns.length < 64 ∧ ∀ (l : Addr) (ns' : List Int), H l = none → ns'.Perm ns → ns'.Pairwise (· ≤ ·) → Q (.ref l) (upd H l (.lst (ns'.map V.int)))) := by
  intro pins s σ H xs us Q I r h
  obtain ⟨d, kvs, ns, rfl, hq, hk, h64, q⟩ := h
  obtain ⟨u, rfl, ru⟩ := r.one
  cases ru
  obtain ⟨z, y, vs, rr, ob, es, ep, e, c1, c2, c3⟩ := I.hok d _ hq
  have hlen : kvs.length = ns.length := by have := congrArg List.length hk; simpa using this
  have hn : vs.length ≤ sizeLine := by rw [← rr.len]; exact z
  refine Calls.call_function_entry kind_sorted plain_sorted entry_sorted (args_sorted1 _) ?_
  unfold Builtin.«sorted»
  refine wpAny_bind (m := checkCount "sorted" 1 1 _) (wpAny_pure ?_)
  refine wpAny_bind (PySem.W.kdu_collect (PySem.W.kdl_dict (prog := X.prog) (w := X.w) (knd := mixKind X.prog X.w) (d := d) (kvs := vs) (ep := ep) y) (I.ok.hd hcalm) ⟨ob, es, e, c1, c2, c3⟩ hn fun h' tk acc hkp hacc => ?_)
  have I1 : Inv X pins σ H { s with heap := h', toks := tk } := I.kept hkp
  have hl : acc.toList.length = vs.length := by rw [Array.length_toList]; exact hacc.1
  have hv : Vals (ns.map V.int) acc.toList := by
    have key : ∀ (ns : List Int) (kvs : List (Key × V)) (vs : List (Key × Value)) (us : List Value), KV kvs vs → kvs.map (·.1) = ns.map Sum.inl → us.length = vs.length → (∀ (j : Nat) (u : Value), us[j]? = some u → ∃ k x, vs[j]? = some (k, x) ∧ keyIs k u = true) → Vals (ns.map V.int) us := by
      intro ns
      induction ns with
      | nil =>
        intro kvs vs us r e hl _
        have : kvs = [] := by simpa using e
        subst this
        cases r
        have : us = [] := List.eq_nil_of_length_eq_zero hl
        subst this
        exact .nil
      | cons n ns ih =>
        intro kvs vs us r e hl hu
        cases r with
        | nil => cases e
        | @cons a b l1 l2 r0 rr =>
          rw [List.map_cons, List.map_cons] at e
          injection e with e1 e2
          cases us with
          | nil => cases hl
          | cons u ur =>
            obtain ⟨k, x, hx, hki⟩ := hu 0 u rfl
            have hb : b = (k, x) := by simpa using hx
            have ek : k = Sum.inl n := by
              have : a.1 = k := by rw [r0.1, hb]
              rw [← this]; exact e1
            rw [ek] at hki
            refine .cons (keyIs_rel (k := Sum.inl n) hki) (ih l1 l2 ur rr e2 (by simpa using hl) fun j w hw => ?_)
            obtain ⟨k', x', h1, h2⟩ := hu (j + 1) w (by simpa using hw)
            exact ⟨k', x', by simpa using h1, h2⟩
    exact key ns kvs vs acc.toList rr hk hl fun j u hu => hacc.2 j u (by rw [← Array.getElem?_toList]; exact hu)
  refine wpAny_bind (wpAny_newList ?_ (by rw [hl]; exact hn))
  have hoL : (h'.push (seqObj "list" acc.toList.toArray 0)).get? h'.objs.size = some (seqObj "list" acc.toList.toArray 0) := Heap.get?_push_size _ rfl
  have hal : acc.toList.length < 64 := by rw [hl, ← rr.len, hlen]; exact h64
  refine wpAny_bind (wpAny_holding (wpAny_call_entry slot_list_sort ⟨_, hoL, rfl⟩ entry_list_sort (list_sort_tree hoL (vals_intsAre hv) hal fun out ns' a1 a2 a3 => ⟨_, rfl, ?_⟩) (args_list_sort _)))
  obtain ⟨ee, he⟩ := sortedHeap_at (out := out) hoL
  have hsz : (h'.push (seqObj "list" acc.toList.toArray 0)).objs.size = h'.objs.size + 1 := Heap.size_push ..
  refine wpAny_pure ⟨_, rfl, .ref h'.objs.size, _, I1.laid (t' := tk) (fun b o eb => ?_) (Nat.le_refl _) (show ObjOk X.prog X.w _ _ _ (.lst (ns'.map V.int)) from ⟨?_, out.toList, ee, intsAre_vals a1, by simpa using he⟩), rfl, q _ ns' (I1.hok.fresh (Nat.le_refl _)) a2 a3⟩
  · have hb : b < h'.objs.size := Heap.lt_size eb
    exact (sortedHeap_old (Nat.ne_of_lt hb) (by rw [hsz]; exact Nat.lt_succ_of_lt hb)).trans (Heap.get?_push_of_some _ eb)
  · rw [List.length_map, a2.length_eq]
    exact Nat.le_trans (Nat.le_of_lt h64) (by decide)

/-! ### a call of a value: f(e, ..), f any expression that is no plain name or attribute -/
def tCallV (f : Addr) (sp : Sp) (tf : TE) (t : TA) (E : XK) : TE := fun σ H Q => tf σ H fun x H1 => x = .ref f ∧ t σ H1 fun vs H2 => sp vs H2 Q E
theorem pe_callV {CX : CXT} {k : Nat} {f : Addr} {fd : FuncData} {ps : List Str} {sp : Sp} {E : XK} {fe e : Expr} {es : List Expr} {tf : TE} {t : TA} {pos : Pos} (F : FnOk X.prog X.w X.K X.mg X.base CX k f fd ps sp) (hr : Room k X.A)
    (hk : PySem.W.keepIn X.K (.ref f) = true) (hb : Binds X.K fd ps []) (hx : Passes CX X E) (hf : PE X fe tf) (ha : PA X (e :: es) t)
    (hev : eval (.Call fe (e :: es) [] pos) X.env = (do callWith pos (← eval fe X.env) [] (backTo pos (starEach (e :: es) X.env)) (backToKw pos (keywordEach [] X.env))) := by rfl)
    (he : starEach (e :: es) X.env = (false, eval e X.env) :: starEach es X.env := by rfl) (hpl : (backTo pos (starEach es X.env)).any (·.1) = false := by rfl) :
    PE X (.Call fe (e :: es) [] pos) (tCallV f sp tf t E) := by
  intro pins s σ H Q I h
  rw [hev]
  refine wpAny_bind (thn (hf pins s σ H _ I h) fun v s1 ⟨x, H1, I1, r, ex, q⟩ => ?_)
  subst ex
  cases r
  refine PySem.W.callWith_K (h₀ := X.base) I1.ok.mod.kin hk (thn (ha pos pins s1 σ H1 _ I1 q) fun us s2 ⟨vs, H2, I2, r2, q2⟩ => ⟨I2.kIn, ?_⟩) he hpl
  exact run_fn F hr hb .nil hx I2 r2 (by rw [List.append_nil]; exact q2)

/-! ### all(a list of truths) -/
theorem call_allB (hcalm : X.calm = true) : CallR X (.builtin "all") (fun vs H Q => ∃ (p : Addr) (bs : List Bool), vs = [.ref p] ∧ SqL X.K H p (bs.map V.bl) ∧ Q (.bl (bs.all id)) H) := by
  intro pins s σ H xs us Q I r h
  obtain ⟨p, bs, rfl, hq, q⟩ := h
  obtain ⟨u, rfl, ru⟩ := r.one
  cases ru
  obtain ⟨its, rv, pl, hz⟩ := I.list hq
  have hlt : p < s.heap.objs.size := by obtain ⟨o, e, _⟩ := pl.isList; exact Heap.lt_size e
  refine call_all_walk (wpAny_pyIter_list pl.isList ?_)
  have hl := rv.length
  rw [List.length_map] at hl
  refine ⟨s.heap.objs.size, _, _, its.toArray.size, _, _, fun i => bs.getD i false, rfl, Walks.list (A := X.A.in1) (I.ok.hd hcalm) s.heap.objs.size p (Nat.ne_of_lt hlt) its.toArray, ⟨⟨_, Heap.get?_push_size _ rfl, rfl, rfl⟩, pl.isList.at fun o e => Heap.get?_push_of_some _ e⟩, ?_, fun h' tk hk => ?_⟩
  · intro i v s' Q' E' hP hQ
    have hv : its[i]? = some v := by simpa using hP
    have hi : i < bs.length := by rw [hl]; exact (List.getElem?_eq_some_iff.mp hv).1
    obtain ⟨u, hu, ru⟩ := rv.get (i := i) (x := V.bl bs[i]) (by rw [List.getElem?_map, List.getElem?_eq_getElem hi]; rfl)
    rw [hv] at hu
    cases hu
    have eb : v = Value.bool bs[i] := ru
    subst eb
    have eg : bs.getD i false = bs[i] := by simp [List.getD, hi]
    refine wpAny_truthy_bool ?_
    rw [← eg]; exact hQ
  · have I1 : Inv X pins σ H { s with heap := h', toks := tk } := I.kept fun b o e => hk b o (by simp; exact Nat.ne_of_lt (Heap.lt_size e)) (Heap.get?_push_of_some _ e)
    have e : (List.range its.toArray.size).all (fun i => bs.getD i false) = bs.all id := by
      have e1 : its.toArray.size = bs.length := by simpa using hl.symm
      rw [e1, Bool.eq_iff_iff, List.all_eq_true, List.all_eq_true]
      constructor
      · intro h x hx
        obtain ⟨i, hi, rfl⟩ := List.mem_iff_getElem.mp hx
        have := h i (List.mem_range.mpr hi)
        simpa [List.getD, hi] using this
      · intro h i hi
        have hi' := List.mem_range.mp hi
        have := h bs[i] (List.getElem_mem hi')
        simpa [List.getD, hi'] using this
    rw [e]
    exact ⟨.bl _, H, I1, rfl, q⟩
end
end L2
/-! FORMS ONE USES for comprehensions -/
namespace L2
open PySem PySem.Spec PyProof.Rows
def blkOk (osc : Scope) (N xs : List Str) (sc : Scope) : Bool :=
  (sc.kind == .function) && sc.names.all (fun y => y.2 != .cell) && sc.names.all (fun y => y.2 != .local || (sc.names.lookup y.1 == some .local)) && sc.names.all (fun y => y.2 != .local || (xs.contains y.1 || y.1 == (".0" : Str))) &&
    sc.names.all (fun y => y.2 != .free || (osc.names.lookup y.1 == some .cell || osc.names.lookup y.1 == some .free)) && N.all (fun y => (sc.names.lookup (y ++ ("#" : Str))).isNone) && !N.contains (".0" : Str)
theorem blk_ok {X : Cx} {xs : List Str} {sc : Scope} (osc : Scope) (N : List Str) (hs : X.env.scope = osc) (hN : X.N = N) (h : blkOk osc N xs sc = true) : BlkScope X xs sc := by
  unfold blkOk at h
  simp only [Bool.and_eq_true, List.all_eq_true, Bool.or_eq_true, Bool.not_eq_true', bne_iff_ne, beq_iff_eq, List.contains_iff_mem] at h
  obtain ⟨⟨⟨⟨⟨⟨h1, h2⟩, h3⟩, h4⟩, h5⟩, h6⟩, h7⟩ := h
  refine ⟨h1, h2, fun y hy e => ?_, fun y hy e => ?_, fun y hy e => ?_, fun y hy => ?_, ?_⟩
  · exact (h3 y hy).resolve_left fun z => z e
  · exact (h4 y hy).resolve_left fun z => z e
  · have z := (h5 y hy).resolve_left fun z => z e
    rw [← hs] at z
    exact z
  · rw [hN] at hy
    exact Option.isNone_iff_eq_none.mp (h6 y hy)
  · rw [hN]
    intro z
    rw [List.contains_iff_mem.mpr z] at h7
    cases h7
/-- a reading that yields v, whatever is laid beside -/
def Gives (t : TE) (σ : St) (H : Hp) (v : V) : Prop := ∀ P : VK, (∀ H2, Same H H2 → P v H2) → t σ H P
def Tells (t : TT) (σ : St) (H : Hp) (b : Bool) : Prop := ∀ P : Bool → Hp → Prop, (∀ H2, Same H H2 → P b H2) → t σ H P
theorem Same.rfl' {H : Hp} : Same H H := fun _ _ h => h
theorem Same.new {H : Hp} {p : Addr} (h : H p = none) (o : HO) : Same H (upd H p o) := fun b u q => by rw [upd_ne (ne_of_none q h)]; exact q
theorem tells_true {σ : St} {H : Hp} : Tells tTrue σ H true := fun _ h => h H Same.rfl'
theorem turns_gen {J : It} {n : Nat} {tc : TT} {te : TE} {D : Addr} {Q : Hp → Prop} {σ : St} {H1 : Hp} (item : Nat → V) (c : Nat → Bool) (v : Nat → V) (hD : H1 D = none) (hn : n ≤ 1000)
    (hgo : ∀ i H', Same H1 H' → i < n → J.go i H') (hyl : ∀ i H' x H2, Same H1 H' → i < n → J.yld i H' x H2 → H2 = H' ∧ x = item i) (hst : ∀ H', Same H1 H' → J.stop n H')
    (ht : ∀ i H', i < n → Same H1 H' → Tells tc (some (item i) :: σ) H' (c i)) (he : ∀ i H', i < n → c i = true → Same H1 H' → Gives te (some (item i) :: σ) H' (v i))
    (hq : ∀ H', Same H1 H' → H' D = some (.lst (((List.range n).filter c).map v)) → Q H') : tTurns J (gName 0) tc te D Q (none :: σ) (upd H1 D (.lst [])) := by
  refine ⟨fun i m σ' H' => ∃ x, σ' = x :: σ ∧ m = n - i ∧ i ≤ n ∧ Same H1 H' ∧ H' D = some (.lst (((List.range i).filter c).map v)), ⟨n, none, rfl, rfl, Nat.zero_le _, Same.new hD _, upd_same⟩, ?_⟩
  rintro i m σ' H' ⟨x, rfl, rfl, hi, g, hl⟩
  by_cases hlt : i < n
  · refine .inr ⟨hgo i H' g hlt, fun σ2 H2 => ∃ x, σ2 = x :: σ ∧ Same H1 H2 ∧ H2 D = some (.lst (((List.range (i + 1)).filter c).map v)), ?_, fun x' H2 y => ?_⟩
    · rintro σ2 H2 ⟨x, rfl, g2, l2⟩
      exact ⟨n - (i + 1), by omega, x, rfl, rfl, hlt, g2, l2⟩
    · obtain ⟨rfl, rfl⟩ := hyl i H' x' H2 g hlt y
      show tc (some (item i) :: σ) H2 _
      refine ht i H2 hlt g _ fun H3 g3 => ?_
      have hr : (List.range (i + 1)).filter c = (List.range i).filter c ++ (if c i = true then [i] else []) := by
        rw [List.range_succ, List.filter_append, List.filter_cons, List.filter_nil]
      refine ite2 (fun hc => ?_) (fun hc => ?_)
      · refine he i H3 hlt hc (g.trans g3) _ fun H4 g4 => ?_
        have l4 := g4 _ _ (g3 _ _ hl)
        refine ⟨_, l4, ?_, some (item i), rfl, fun b o hb => ?_, ?_⟩
        · rw [List.length_map]
          have := List.length_filter_le c (List.range i)
          rw [List.length_range] at this
          exact small1000 (by omega)
        · have hne : b ≠ D := fun e => by rw [e, hD] at hb; cases hb
          rw [upd_ne hne]
          exact g4 _ _ (g3 _ _ (g _ _ hb))
        · rw [upd_same, hr, if_pos hc, List.map_append]
          rfl
      · refine ⟨some (item i), rfl, g.trans g3, ?_⟩
        rw [hr, if_neg hc, List.append_nil]
        exact g3 _ _ hl
  · have e : i = n := by omega
    subst e
    exact .inl ⟨hst H' g, hq H' g hl⟩
theorem turns_range {lo : Int} {n : Nat} {tc : TT} {te : TE} {D : Addr} {Q : Hp → Prop} {σ : St} {H1 : Hp} (c : Nat → Bool) (v : Nat → V) (hD : H1 D = none) (hn : n ≤ 1000)
    (ht : ∀ i H', i < n → Same H1 H' → Tells tc (some (.int (lo + i)) :: σ) H' (c i)) (he : ∀ i H', i < n → c i = true → Same H1 H' → Gives te (some (.int (lo + i)) :: σ) H' (v i))
    (hq : ∀ H', Same H1 H' → H' D = some (.lst (((List.range n).filter c).map v)) → Q H') : tTurns (Itr lo n) (gName 0) tc te D Q (none :: σ) (upd H1 D (.lst [])) :=
  turns_gen (fun i => .int (lo + i)) c v hD hn (fun i _ _ h => h) (fun i H' x H2 _ _ y => y) (fun _ _ => Nat.le_refl _) ht he hq
theorem range_getD_filter {α : Type} (c : α → Bool) (d : α) : ∀ (xs : List α), ((List.range xs.length).filter fun i => c (xs.getD i d)).map (fun i => xs.getD i d) = xs.filter c
  | [] => rfl
  | x :: xs => by
    have ih := range_getD_filter c d xs
    rw [List.length_cons, List.range_succ_eq_map, List.filter_cons]
    have e1 : (x :: xs).getD 0 d = x := rfl
    rw [e1]
    have e2 : (List.map Nat.succ (List.range xs.length)).filter (fun i => c ((x :: xs).getD i d)) = (((List.range xs.length).filter fun i => c (xs.getD i d)).map Nat.succ) := by
      rw [List.filter_map]
      rfl
    by_cases hc : c x = true
    · rw [if_pos hc, List.filter_cons, if_pos hc, List.map_cons, e2, List.map_map, ← ih]
      rfl
    · rw [if_neg hc, List.filter_cons, if_neg hc, e2, List.map_map, ← ih]
      rfl
/-- [elt for x in a list if c]: the list's items by their places -/
theorem turns_list {K : PySem.W.Frag} {a : Addr} {xs : List V} {tc : TT} {te : TE} {D : Addr} {Q : Hp → Prop} {σ : St} {H1 : Hp} (c : Nat → Bool) (v : Nat → V) (hS : SqL K H1 a xs) (hD : H1 D = none) (hn : xs.length ≤ 1000)
    (ht : ∀ i H', i < xs.length → Same H1 H' → Tells tc (some (xs.getD i .non) :: σ) H' (c i)) (he : ∀ i H', i < xs.length → c i = true → Same H1 H' → Gives te (some (xs.getD i .non) :: σ) H' (v i))
    (hq : ∀ H', Same H1 H' → H' D = some (.lst (((List.range xs.length).filter c).map v)) → Q H') : tTurns (Itl K a) (gName 0) tc te D Q (none :: σ) (upd H1 D (.lst [])) := by
  refine turns_gen (fun i => xs.getD i .non) c v hD hn (fun i H' g h => ⟨xs, xs[i], g.seq hS, List.getElem?_eq_getElem h⟩) (fun i H' x H2 g h y => ⟨y.1, ?_⟩) (fun H' g => ⟨xs, g.seq hS, Nat.le_refl _⟩) ht he hq
  have := y.2 xs (g.seq hS)
  rw [List.getElem?_eq_getElem h] at this
  rw [List.getD_eq_getElem?_getD, List.getElem?_eq_getElem h]
  exact (Option.some.inj this).symm
theorem turns_dict {d : Addr} {o : Obj} {kvs : List (Key × V)} {tc : TT} {te : TE} {D : Addr} {Q : Hp → Prop} {σ : St} {H1 : Hp} (c : Nat → Bool) (v : Nat → V) (hS : H1 d = some (.frz o (.dK kvs))) (hD : H1 D = none) (hn : kvs.length ≤ 1000)
    (ht : ∀ i H', i < kvs.length → Same H1 H' → Tells tc (some (((kvs.map fun kv => kV kv.1)).getD i .non) :: σ) H' (c i)) (he : ∀ i H', i < kvs.length → c i = true → Same H1 H' → Gives te (some ((kvs.map fun kv => kV kv.1).getD i .non) :: σ) H' (v i))
    (hq : ∀ H', Same H1 H' → H' D = some (.lst (((List.range kvs.length).filter c).map v)) → Q H') : tTurns (Itd d o kvs) (gName 0) tc te D Q (none :: σ) (upd H1 D (.lst [])) := by
  refine turns_gen (fun i => (kvs.map fun kv => kV kv.1).getD i .non) c v hD hn (fun i H' g h => ⟨g _ _ hS, h⟩) (fun i H' x H2 g h y => ⟨y.1, ?_⟩) (fun H' g => ⟨g _ _ hS, Nat.le_refl _⟩) ht he hq
  obtain ⟨_, k, hk, rfl⟩ := y
  rw [List.getElem?_map, List.getElem?_eq_getElem h] at hk
  have e : kvs[i].1 = k := Option.some.inj hk
  rw [List.getD_eq_getElem?_getD, List.getElem?_map, List.getElem?_eq_getElem h]
  show kV k = kV kvs[i].1
  rw [e]
/-- while, by a word and a measure; the test's reading is told whole -/
theorem while_by2 {c : TT} {tb : TS} {D : Ends} {σ : St} {H : Hp} (Pv : St → Hp → Prop) (μ : St → Hp → Nat) (h0 : Pv σ H)
    (hs : ∀ σ H, Pv σ H → c σ H fun b H1 => if b = true then ∃ N : St → Hp → Prop, (∀ σ' H', N σ' H' → ∃ m', m' < μ σ H ∧ m' = μ σ' H' ∧ Pv σ' H') ∧ tb { D with nx := N, ct := N, bk := D.nx } σ H1 else D.nx σ H1) : tWhile c tb D σ H := by
  refine ⟨fun m σ H => m = μ σ H ∧ Pv σ H, ⟨_, rfl, h0⟩, ?_⟩
  rintro m σ H ⟨rfl, p⟩
  exact hs σ H p
theorem next_by {tb : TS} {D : Ends} {σ : St} {H H1 : Hp} {Pv : St → Hp → Prop} {μ : St → Hp → Nat} (h : tb { D with nx := fun σ' H' => Pv σ' H' ∧ μ σ' H' < μ σ H, ct := fun σ' H' => Pv σ' H' ∧ μ σ' H' < μ σ H, bk := D.nx } σ H1) :
    ∃ N : St → Hp → Prop, (∀ σ' H', N σ' H' → ∃ m', m' < μ σ H ∧ m' = μ σ' H' ∧ Pv σ' H') ∧ tb { D with nx := N, ct := N, bk := D.nx } σ H1 := ⟨_, fun _ _ h => ⟨_, h.2, rfl, h.1⟩, h⟩
end L2
/-! A DICT OF THE MODULE with text keys, read -/
namespace L2
open PySem PySem.Spec PyProof.Rows
/-- the module's dict at d: texts, their marks, values -/
structure KDict (K : PySem.W.Frag) (w : World) (d : Addr) (kvs : List (Str × Tok × Value)) : Prop where
  lo : (d == sysModules) = false
  nd : (kvs.map (·.1)).Nodup
  at' : ∃ n, K.lookup d = some { cls := .type "dict", data := .dict (kvs.map fun e => ({ hash := PyData.keyHash w.params e.1, key := .str e.1 e.2.1, val := e.2.2 } : DictEntry)).toArray n }
def kpairs (kvs : List (Str × Tok × Value)) : List (Key × Value) := kvs.map fun e => (Sum.inr e.1, e.2.2)
theorem KDict.dict {P : Program} {K : PySem.W.Frag} {w : World} {d : Addr} {kvs : List (Str × Tok × Value)} {h : Heap} (D : KDict K w d kvs) (X : K.In h) : h.DictOf (mixKind P w) d (kpairs kvs) := by
  obtain ⟨n, e⟩ := D.at'
  refine ⟨_, _, n, X _ _ e, ⟨rfl, rfl, rfl⟩, rfl, fun x hx => ?_, ?_, ?_⟩
  · have hx' : x ∈ kvs.map fun e => ({ hash := PyData.keyHash w.params e.1, key := .str e.1 e.2.1, val := e.2.2 } : DictEntry) := by simpa using hx
    obtain ⟨y, _, rfl⟩ := List.mem_map.mp hx'
    exact ⟨Sum.inr y.1, mixKind_str P w y.1 y.2.1, rfl⟩
  · have key : ∀ l : List (Str × Tok × Value), Pairs (mixKind P w) (l.map fun e => ({ hash := PyData.keyHash w.params e.1, key := .str e.1 e.2.1, val := e.2.2 } : DictEntry)) (kpairs l) := by
      intro l
      induction l with
      | nil => exact .nil
      | cons x r ih => exact .cons (mixKind_str P w x.1 x.2.1) rfl ih
    exact key kvs
  · have e2 : (kpairs kvs).map (·.1) = (kvs.map (·.1)).map Sum.inr := by
      unfold kpairs
      rw [List.map_map, List.map_map]
      rfl
    rw [e2]
    have key : ∀ l : List Str, l.Nodup → (l.map (Sum.inr : Str → Key)).Nodup := by
      intro l
      induction l with
      | nil => intro _; exact List.nodup_nil
      | cons x r ih =>
        intro h
        rw [List.nodup_cons] at h
        rw [List.map_cons, List.nodup_cons]
        refine ⟨fun z => ?_, ih h.2⟩
        obtain ⟨y, hy, e⟩ := List.mem_map.mp z
        cases e
        exact h.1 hy
    exact key _ D.nd
section
variable {X : Cx} {d : Addr} {kvs : List (Str × Tok × Value)} {o i : Expr} {td ty : TE} {pos : Pos}
def tKGet (d : Addr) (kvs : List (Str × Tok × Value)) (td ty : TE) : TE := fun σ H Q => td σ H fun x H1 => ty σ H1 fun y H2 => ∃ z w v, x = .ref d ∧ y = .str z ∧ valueAt (kpairs kvs) (Sum.inr z) = some w ∧ RelV v w ∧ Q v H2
def tKNotIn (d : Addr) (kvs : List (Str × Tok × Value)) (ty td : TE) : TE := fun σ H Q => ty σ H fun y H1 => td σ H1 fun x H2 => ∃ z, x = .ref d ∧ y = .str z ∧ Q (.bl (!(valueAt (kpairs kvs) (Sum.inr z)).isSome)) H2
theorem pe_kget (D : KDict X.K X.w d kvs) (ho : PE X o td) (hi : PE X i ty) (hs : NoSl i) : PE X (.Subscript o i pos) (tKGet d kvs td ty) := by
  intro pins s σ H Q I h
  refine subD_of PySem.F.slot_dict_getitem.lookup hs (thn (ho pins s σ H _ I h) fun u s1 ⟨x, H1, I1, rx, q1⟩ => thn (hi pins s1 σ H1 _ I1 q1) fun iv s2 ⟨y, H2, I2, ry, z, w', v, ex, ey, hv, rv, q2⟩ => ?_)
  subst ex
  subst ey
  cases rx
  have dd := D.dict (P := X.prog) I2.kIn
  exact ⟨dd.typeIs, wpAny_getItem_of (knd := mixKind X.prog X.w) (kV_is (k := Sum.inr z) ry) dd.mapOf hv ⟨v, H2, I2.tok _, rv, q2⟩⟩
theorem pc_knotin (D : KDict X.K X.w d kvs) (hi : PE X i ty) (ho : PE X o td) : PC X .NotIn i o (tKNotIn d kvs ty td) := by
  intro pins s σ H Q I h
  refine thn (hi pins s σ H _ I h) fun iv s1 ⟨y, H1, I1, ry, q1⟩ => thn (ho pins s1 σ H1 _ I1 q1) fun u s2 ⟨x, H2, I2, rx, z, ex, ey, q2⟩ => ?_
  subst ex
  subst ey
  cases rx
  have dd := D.dict (P := X.prog) I2.kIn
  exact wpAny_notIn_of (knd := mixKind X.prog X.w) (kV_is (k := Sum.inr z) ry) D.lo dd.mapOf ⟨.bl _, H2, I2.tok _, rfl, q2⟩
end
theorem getD_map_int (xs : List Int) {i : Nat} (h : i < xs.length) : (xs.map V.int).getD i .non = .int (xs.getD i 0) := by
  rw [List.getD_eq_getElem?_getD, List.getElem?_map, List.getElem?_eq_getElem h, List.getD_eq_getElem?_getD, List.getElem?_eq_getElem h]
  rfl
end L2
/-! the rules that speak of the module's part K, with K told (within a comprehension's block it must not hang on the block) -/
namespace L2
open PySem PySem.Spec PyProof.Rows
section
variable {X : Cx} (K : PySem.W.Frag)
theorem ix_listK (h : X.K = K := by rfl) : IxR X (rIxL K) := h ▸ ix_list
theorem ix_tupK (h : X.K = K := by rfl) : IxR X (rIxT K) := h ▸ ix_tup
theorem op_eqDK (hu : X.A.units + 64 < cLine) (h : X.K = K := by rfl) : OpR X (compareOp .Eq) (rEqD K) := h ▸ op_eqD hu
theorem op_neDK (hu : X.A.units + 64 < cLine) (h : X.K = K := by rfl) : OpR X (compareOp .NotEq) (rNeD K) := h ▸ op_neD hu
theorem call_isiK (T : String) (h : X.K = K := by rfl) : CallR X (.builtin "isinstance") (rIsi K T) := h ▸ call_isi T
theorem call_len_seqK (h : X.K = K := by rfl) : CallR X (.builtin "len") (fun xs H Q => ∃ p ys, xs = [.ref p] ∧ (SqL K H p ys ∨ SqT K H p ys) ∧ Q (.int ys.length) H) := h ▸ call_len_seq
theorem call_list_ofK (h : X.K = K := by rfl) : CallR X (.type "list") (fun xs H Q => ∃ p ys, xs = [.ref p] ∧ (SqL K H p ys ∨ SqT K H p ys) ∧ ∀ l, H l = none → Q (.ref l) (upd H l (.lst ys))) := h ▸ call_list_of
theorem call_sortedK (h : X.K = K := by rfl) : CallR X (.builtin "sorted") (rSorted K) := h ▸ call_sorted
end
end L2
/-! MORE: list(d), methods within a block, what stands outside a set of addresses, a pick out of a written list -/
namespace L2
open PySem PySem.Spec PyProof.Rows
theorem keys_vals : ∀ (ns : List Int) (kvs : List (Key × V)) (vs : List (Key × Value)) (us : List Value), KV kvs vs → kvs.map (·.1) = ns.map Sum.inl → us.length = vs.length → (∀ (j : Nat) (u : Value), us[j]? = some u → ∃ k x, vs[j]? = some (k, x) ∧ keyIs k u = true) → Vals (ns.map V.int) us := by
  intro ns
  induction ns with
  | nil =>
    intro kvs vs us r e hl _
    have : kvs = [] := by simpa using e
    subst this
    cases r
    have : us = [] := List.eq_nil_of_length_eq_zero hl
    subst this
    exact .nil
  | cons n ns ih =>
    intro kvs vs us r e hl hu
    cases r with
    | nil => cases e
    | @cons a b l1 l2 r0 rr =>
      rw [List.map_cons, List.map_cons] at e
      injection e with e1 e2
      cases us with
      | nil => cases hl
      | cons u ur =>
        obtain ⟨k, x, hx, hki⟩ := hu 0 u rfl
        have hb : b = (k, x) := by simpa using hx
        have ek : k = Sum.inl n := by
          have : a.1 = k := by rw [r0.1, hb]
          rw [← this]; exact e1
        rw [ek] at hki
        refine .cons (keyIs_rel (k := Sum.inl n) hki) (ih l1 l2 ur rr e2 (by simpa using hl) fun j w hw => ?_)
        obtain ⟨k', x', h1, h2⟩ := hu (j + 1) w (by simpa using hw)
        exact ⟨k', x', by simpa using h1, h2⟩
section
variable {X : Cx}
/-- list(d), the keys ints -/
theorem call_list_dict (hcalm : X.calm = true) : CallR X (.type "list") (fun vs H Q => ∃ (d : Addr) (kvs : List (Key × V)) (ns : List Int), vs = [.ref d] ∧ H d = some (.dK kvs) ∧ kvs.map (·.1) = ns.map Sum.inl ∧ ∀ l : Addr, H l = none → Q (.ref l) (upd H l (.lst (ns.map V.int)))) := by
  intro pins s σ H xs us Q I r h
  obtain ⟨d, kvs, ns, rfl, hq, hk, q⟩ := h
  obtain ⟨u, rfl, ru⟩ := r.one
  cases ru
  obtain ⟨z, y, vs, rr, ob, es, ep, e, c1, c2, c3⟩ := I.hok d _ hq
  have hlen : kvs.length = ns.length := by have := congrArg List.length hk; simpa using this
  have hn : vs.length ≤ sizeLine := by rw [← rr.len]; exact z
  refine PySem.W.kdl_call (PySem.W.kdl_dict (prog := X.prog) (w := X.w) (knd := mixKind X.prog X.w) (d := d) (kvs := vs) (ep := ep) y) (I.ok.hd hcalm) ⟨ob, es, e, c1, c2, c3⟩ hn fun h' tk acc c' hkp hD hacc => ?_
  have hv : Vals (ns.map V.int) acc.toList := keys_vals ns kvs vs acc.toList rr hk (by rw [Array.length_toList]; exact hacc.1) fun j u hu => hacc.2 j u (by rw [← Array.getElem?_toList]; exact hu)
  refine ⟨.ref s.heap.objs.size, _, I.laid (t' := tk) hkp (Nat.le_refl _) (show ObjOk X.prog X.w _ h' _ (.lst (ns.map V.int)) from ⟨?_, acc.toList, c', hv, by simpa using hD⟩), rfl, q _ (I.hok.fresh (Nat.le_refl _))⟩
  rw [List.length_map, ← hlen]; exact z
theorem pe_bmK (K : PySem.W.Frag) {o e : Expr} {es : List Expr} {to : TE} {t : TA} {name : Str} {apos cpos : Pos} {T id : String} {r : V → List V → Hp → VK → Prop} (pa : PlainAttrs T) (slot : Slot T name id) (hty : typeOf (.builtin id) = pure (.type "method_descriptor")) (hm : MtR X id r) (ho : PE X o to) (ha : PA X (e :: es) t)
    (h : X.K = K := by rfl) (hbase : attributeBase o name X.env (eval o X.env) = eval o X.env := by rfl)
    (hfew : ((backTo cpos (starEach (e :: es) X.env)).all (fun x => !x.1) && (backToKw cpos (keywordEach [] X.env)).all (fun x => x.1.isSome)
      && decide ((e :: es).length + ([] : List Keyword).length + (if ([] : List Keyword).isEmpty then 0 else 1) < 30)) = true := by rfl)
    (hline : (apos.endLine == cpos.line) = true := by rfl) (hs : starEach (e :: es) X.env = (false, eval e X.env) :: starEach es X.env := by rfl) (hplain : (backTo cpos (starEach es X.env)).any (·.1) = false := by rfl) :
    PE X (.Call (.Attribute o name apos) (e :: es) [] cpos) (tBM K T r to t) := by
  subst h
  exact pe_bm pa slot hty hm ho ha hbase hfew hline hs hplain
end
/-- all outside S is as it was -/
def Ex (S : Addr → Prop) (H H' : Hp) : Prop := ∀ b o, ¬ S b → H b = some o → H' b = some o
theorem Ex.refl {S : Addr → Prop} {H : Hp} : Ex S H H := fun _ _ _ h => h
theorem Ex.trans {S : Addr → Prop} {H H1 H2 : Hp} (a : Ex S H H1) (b : Ex S H1 H2) : Ex S H H2 := fun c o n h => b c o n (a c o n h)
theorem Ex.same {S : Addr → Prop} {H H1 : Hp} (a : Same H H1) : Ex S H H1 := fun c o _ h => a c o h
theorem Ex.put {S : Addr → Prop} {H : Hp} {p : Addr} (o : HO) (hp : S p) : Ex S H (upd H p o) := fun c o' n h => by
  have : c ≠ p := fun e => n (e ▸ hp)
  rw [upd_ne this]; exact h
theorem Ex.new {S : Addr → Prop} {H : Hp} {p : Addr} (o : HO) (hp : H p = none) : Ex S H (upd H p o) := Ex.same (Same.new hp o)
theorem Ex.wide {S S' : Addr → Prop} {H H1 : Hp} (a : Ex S H H1) (h : ∀ b, S b → S' b) : Ex S' H H1 := fun c o n e => a c o (fun z => n (h c z)) e
/-- an item of a written list of ints at a drawn place -/
theorem pick_int (xs : List Int) {r : Int} (h0 : 0 ≤ r) (h1 : r < (xs.length : Nat)) : ∃ v, atI (xs.map V.int) r = some (.int v) ∧ v ∈ xs := by
  have hj : r.toNat < xs.length := by omega
  have e : r = ((r.toNat : Nat) : Int) := by omega
  refine ⟨xs[r.toNat], ?_, List.getElem_mem hj⟩
  have q : atI (xs.map V.int) ((r.toNat : Nat) : Int) = some (.int xs[r.toNat]) := atI_nat (by rw [List.getElem?_map, List.getElem?_eq_getElem hj] <;> rfl)
  rw [← e] at q
  exact q
theorem pick_ref (xs : List Addr) {r : Int} (h0 : 0 ≤ r) (h1 : r < (xs.length : Nat)) : ∃ v, atI (xs.map V.ref) r = some (.ref v) ∧ v ∈ xs := by
  have hj : r.toNat < xs.length := by omega
  have e : r = ((r.toNat : Nat) : Int) := by omega
  refine ⟨xs[r.toNat], ?_, List.getElem_mem hj⟩
  have q : atI (xs.map V.ref) ((r.toNat : Nat) : Int) = some (.ref xs[r.toNat]) := atI_nat (by rw [List.getElem?_map, List.getElem?_eq_getElem hj] <;> rfl)
  rw [← e] at q
  exact q
/-- the keys behind a store -/
theorem putK_keys {kvs : List (Key × V)} {ks : List Int} {x : Int} {v : V} (h : kvs.map (·.1) = ks.map Sum.inl) : (putK kvs (Sum.inl x) v).map (·.1) = (if x ∈ ks then ks else ks ++ [x]).map Sum.inl := by
  unfold putK
  have key : (kvs.any fun kv => decide (kv.1 = Sum.inl x)) = decide (x ∈ ks) := by
    have e1 : (kvs.any fun kv => decide (kv.1 = Sum.inl x)) = (kvs.map (·.1)).any fun k => decide (k = Sum.inl x) := by rw [List.any_map]; rfl
    rw [e1, h, List.any_map, Bool.eq_iff_iff, List.any_eq_true, decide_eq_true_iff]
    constructor
    · rintro ⟨y, hy, e⟩
      have e' : (Sum.inl y : Key) = Sum.inl x := of_decide_eq_true e
      cases e'
      exact hy
    · intro hx
      exact ⟨x, hx, decide_eq_true rfl⟩
  rw [key]
  by_cases hx : x ∈ ks
  · rw [decide_eq_true hx, if_pos rfl, if_pos hx, ← h, List.map_map]
    refine List.map_congr_left fun kv _ => ?_
    show (if kv.1 = Sum.inl x then (kv.1, v) else kv).1 = kv.1
    split <;> rfl
  · rw [decide_eq_false hx, if_neg Bool.false_ne_true, if_neg hx, List.map_append, List.map_append, h]
    rfl
/-! ### written lists of ints, and of such (told as a whole: Lean would else run them while it looks for a rule) -/
inductive CInts : List Expr → List Int → Prop where
  | nil : CInts [] []
  | cons {n : Int} {j : Nat} {p : Pos} {es : List Expr} {ns : List Int} : CInts es ns → CInts (.Constant (.int n) j p :: es) (n :: ns)
inductive CLists : List Expr → List (List Int) → Prop where
  | nil : CLists [] []
  | cons {fs es : List Expr} {ns : List Int} {nss : List (List Int)} {p : Pos} : CInts fs ns → CLists es nss → CLists (.List fs p :: es) (ns :: nss)
def tInts (ns : List Int) : TA := fun _ H Q => Q (ns.map V.int) H
def tLists : List (List Int) → TA
  | [] => fun _ H Q => Q [] H
  | ns :: nss => fun σ H Q => ns.length ≤ sizeLine ∧ ∀ p, H p = none → tLists nss σ (upd H p (.lst (ns.map V.int))) fun xs H2 => Q (.ref p :: xs) H2
section
variable {X : Cx}
theorem pa_ints {es : List Expr} {ns : List Int} (h : CInts es ns) : PA X es (tInts ns) := by
  induction h with
  | nil => exact fun _ _ _ _ H Q I h => Calls.spliced_nil ⟨[], H, I, .nil, h⟩
  | @cons n j p es ns _ ih =>
    intro pos pins s σ H Q I h
    exact pa_cons (te := tC (.int n)) pe_int ih (by rfl) pos pins s σ H Q I h
theorem pa_lists {es : List Expr} {nss : List (List Int)} (h : CLists es nss) : PA X es (tLists nss) := by
  induction h with
  | nil => exact fun _ _ _ _ H Q I h => Calls.spliced_nil ⟨[], H, I, .nil, h⟩
  | @cons fs es ns nss p hi _ ih =>
    intro pos pins s σ H Q I h
    refine pa_cons (te := tLst (tInts ns)) (pe_lst (pa_ints hi)) ih (by rfl) pos pins s σ H Q I ?_
    exact ⟨by rw [List.length_map]; exact h.1, h.2⟩
theorem pe_kinds {es : List Expr} {nss : List (List Int)} {pos : Pos} (h : CLists es nss) : PE X (.List es pos) (tLst (tLists nss)) := pe_lst (pa_lists h)
end
end L2
/-! in, not in of ints -/
namespace L2
open PySem PySem.Spec PyProof.Rows
theorem inV_int (x : Int) : ∀ xs : List Int, inV (.int x) (xs.map V.int) = xs.contains x
  | [] => rfl
  | y :: r => by
    have ih := inV_int x r
    unfold inV at ih ⊢
    rw [List.map_cons, List.any_cons, ih, List.contains_cons]
    have e : eqV (.int y) (.int x) = (x == y) := by
      show (y == x) = (x == y)
      exact Bool.eq_iff_iff.mpr ⟨fun h => beq_iff_eq.mpr (beq_iff_eq.mp h).symm, fun h => beq_iff_eq.mpr (beq_iff_eq.mp h).symm⟩
    rw [e]
theorem flat_ints : ∀ xs : List Int, (xs.map V.int).all flatV = true
  | [] => rfl
  | _ :: r => by rw [List.map_cons, List.all_cons, flat_ints r]; rfl
section
variable {X : Cx} (K : PySem.W.Frag)
def rInI (K : PySem.W.Frag) (neg : Bool) : R2 := fun x y H Q => ∃ (p : Addr) (i : Int) (xs : List Int), x = .int i ∧ y = .ref p ∧ SqL K H p (xs.map V.int) ∧ Q (.bl (if neg then !xs.contains i else xs.contains i)) H
theorem op_inI (h : X.K = K := by rfl) : OpR X (compareOp .In) (rInI K false) := by
  intro pins s σ H x y v u Q I rx ry ⟨p, i, xs, e1, e2, hs, q⟩
  subst e1 e2
  refine op_in_seq pins s σ H _ _ v u Q I rx ry ⟨p, xs.map V.int, rfl, .inl (h ▸ hs), rfl, flat_ints xs, ?_⟩
  rw [inV_int]
  exact q
theorem op_notInI (h : X.K = K := by rfl) : OpR X (compareOp .NotIn) (rInI K true) := by
  intro pins s σ H x y v u Q I rx ry ⟨p, i, xs, e1, e2, hs, q⟩
  subst e1 e2
  refine op_notIn_seq pins s σ H _ _ v u Q I rx ry ⟨p, xs.map V.int, rfl, .inl (h ▸ hs), rfl, flat_ints xs, ?_⟩
  rw [inV_int]
  exact q
end
/-- a truth is a truth -/
theorem op_isB {X : Cx} : OpR X (compareOp .Is) (fun x y H Q => ∃ a b : Bool, x = .bl a ∧ y = .bl b ∧ Q (.bl (a == b)) H) := by
  intro pins s σ H x y v u Q I rx ry ⟨a, b, e1, e2, q⟩
  subst e1 e2
  cases rx
  cases ry
  cases a <;> cases b <;> first | exact wpAny_pure ⟨.bl true, H, I, rfl, q⟩ | exact wpAny_pure ⟨.bl false, H, I, rfl, q⟩
end L2
/-! MORE RULES: a comprehension's turns by a word, enumerate, the least of a list, a base's method by its class -/
namespace L2
open PySem PySem.Spec PyProof.Rows
/-- enumerate(the list at a) -/
def Ite (a : Addr) : It :=
  ⟨fun i H => ∃ xs x, H a = some (.lst xs) ∧ xs[i]? = some x, fun i H x H' => ∃ T xs y, H T = none ∧ H a = some (.lst xs) ∧ xs[i]? = some y ∧ x = .ref T ∧ H' = upd H T (.tup [.int i, y]), fun i H => ∃ xs, H a = some (.lst xs) ∧ xs.length ≤ i⟩
theorem turns_any {J : It} {n : Nat} {g : TG} {tc : TT} {te : TE} {D : Addr} {Q : Hp → Prop} {σ0 : St} {H0 : Hp} (W : Nat → St → Hp → Prop) (h0 : W 0 σ0 H0)
    (step : ∀ i σ H, i < n → W i σ H → J.go i H ∧ ∀ x H', J.yld i H x H' → g x σ H' fun σ2 H2 => tc σ2 H2 fun b H3 =>
      if b = true then te σ2 H3 fun v H4 => ∃ zs, H4 D = some (.lst zs) ∧ zs.length < sizeLine ∧ W (i + 1) σ2 (upd H4 D (.lst (zs ++ [v]))) else W (i + 1) σ2 H3)
    (stop : ∀ σ H, W n σ H → J.stop n H ∧ Q H) : tTurns J g tc te D Q σ0 H0 := by
  refine ⟨fun i m σ H => m = n - i ∧ i ≤ n ∧ W i σ H, ⟨n, rfl, Nat.zero_le _, h0⟩, ?_⟩
  rintro i m σ H ⟨rfl, hi, w⟩
  by_cases hlt : i < n
  · obtain ⟨hg, hy⟩ := step i σ H hlt w
    exact .inr ⟨hg, W (i + 1), fun σ' H' w' => ⟨n - (i + 1), by omega, rfl, hlt, w'⟩, hy⟩
  · have e : i = n := by omega
    subst e
    exact .inl (stop σ H w)
theorem turns_enum {K : PySem.W.Frag} {a : Addr} {xs : List V} {tc : TT} {te : TE} {D : Addr} {Q : Hp → Prop} {σ : St} {H1 : Hp} (c : Nat → Bool) (v : Nat → V) (hS : H1 a = some (.lst xs)) (hD : H1 D = none) (hn : xs.length ≤ 1000)
    (ht : ∀ i H', i < xs.length → Same H1 H' → Tells tc (some (.int (i : Int)) :: some (xs.getD i .non) :: σ) H' (c i)) (he : ∀ i H', i < xs.length → c i = true → Same H1 H' → Gives te (some (.int (i : Int)) :: some (xs.getD i .non) :: σ) H' (v i))
    (hq : ∀ H', Same H1 H' → H' D = some (.lst (((List.range xs.length).filter c).map v)) → Q H') : tTurns (Ite a) (gTup K 2 (gCons (gName 0) (gCons (gName 1) gNil))) tc te D Q (none :: none :: σ) (upd H1 D (.lst [])) := by
  refine turns_any (n := xs.length) (fun i σ' H' => ∃ x y, σ' = x :: y :: σ ∧ Same H1 H' ∧ H' D = some (.lst (((List.range i).filter c).map v))) ⟨none, none, rfl, Same.new hD _, upd_same⟩ ?_ ?_
  · rintro i σ' H' hi ⟨x, y, rfl, g, hl⟩
    refine ⟨⟨xs, xs[i], g _ _ hS, List.getElem?_eq_getElem hi⟩, fun z H2 hz => ?_⟩
    obtain ⟨T, ys, u, hT, hy, hu, rfl, rfl⟩ := hz
    rw [g _ _ hS] at hy
    cases hy
    have eu : xs.getD i .non = u := by rw [List.getD_eq_getElem?_getD, hu]; rfl
    have g2 : Same H1 (upd H' T (.tup [.int (i : Int), u])) := fun b o hb => by
      have h1 := g _ _ hb
      rw [upd_ne (ne_of_none h1 hT)]; exact h1
    have hl2 : (upd H' T (.tup [.int (i : Int), u])) D = some (.lst (((List.range i).filter c).map v)) := by rw [upd_ne (ne_of_none hl hT)]; exact hl
    refine ⟨T, _, rfl, SqT.of upd_same, rfl, _, _, rfl, _, _, rfl, rfl, ?_⟩
    show tc (some (.int (i : Int)) :: some u :: σ) _ _
    rw [← eu] at g2 hl2 ⊢
    generalize upd H' T (.tup [.int (i : Int), xs.getD i .non]) = H3 at g2 hl2 ⊢
    refine ht i H3 hi g2 _ fun H4 g4 => ?_
    have hr : (List.range (i + 1)).filter c = (List.range i).filter c ++ (if c i = true then [i] else []) := by
      rw [List.range_succ, List.filter_append, List.filter_cons, List.filter_nil]
    refine ite2 (fun hc => ?_) (fun hc => ?_)
    · refine he i H4 hi hc (g2.trans g4) _ fun H5 g5 => ?_
      have l5 := g5 _ _ (g4 _ _ hl2)
      refine ⟨_, l5, ?_, _, _, rfl, fun b o hb => ?_, ?_⟩
      · rw [List.length_map]
        have := List.length_filter_le c (List.range i)
        rw [List.length_range] at this
        exact small1000 (by omega)
      · have hne : b ≠ D := fun e => by rw [e, hD] at hb; cases hb
        rw [upd_ne hne]
        exact g5 _ _ (g4 _ _ (g2 _ _ hb))
      · rw [upd_same, hr, if_pos hc, List.map_append]
        rfl
    · refine ⟨_, _, rfl, g2.trans g4, ?_⟩
      rw [hr, if_neg hc, List.append_nil]
      exact g4 _ _ hl2
  · rintro σ' H' ⟨x, y, rfl, g, hl⟩
    exact ⟨⟨xs, g _ _ hS, Nat.le_refl _⟩, hq H' g hl⟩
theorem fltT {α : Type} (l : List α) : l.filter (fun _ => true) = l := List.filter_eq_self.mpr fun _ _ => rfl
theorem rgD {α : Type} (xs : List α) (d : α) : (List.range xs.length).map (fun i => xs.getD i d) = xs := by
  have h := range_getD_filter (fun _ : α => true) d xs
  rw [fltT, fltT] at h
  exact h
/-- the int in a slot, as a measure -/
def slotN (i : Nat) (σ : St) : Nat := match σ[i]? with
  | some (some (.int v)) => v.toNat
  | _ => 0
theorem small2000 {n : Nat} (h : n ≤ 2000) : n < sizeLine := by rw [sizeLine_eq]; omega
section
variable {X : Cx} {pins : List (Addr × Obj)} {σ : St} {H : Hp} {s : Shared}
/-- untracked records of ours have turned -/
theorem Inv.turnedL {h' : Heap} {t' : Nat} {fp : List Addr} (I : Inv X pins σ H s) (k : ∀ b o, b ∉ fp → s.heap.get? b = some o → h'.get? b = some o) (hf : ∀ b ∈ fp, FpOk X pins H b) : Inv X pins σ H { s with heap := h', toks := t' } := by
  have nit : ∀ b u, H b = some u → b ∉ fp := fun b u e z => by rw [(hf b z).1] at e; cases e
  refine I.step (g' := s.gens) (d' := s.drawn) (ch := fp) (fun b hb => ?_) (fun b o _ _ hc e _ => k b o hc e) (fun b o _ _ hc e _ => ⟨o.slots, k b o hc e⟩) (fun _ _ _ _ n => n)
    (fun b o hc e => ⟨o, k b o hc e⟩) (fun _ _ e => e) (fun _ _ _ e => e) (fun b ps e => ⟨#[], by rw [e]; simp⟩) (fun m hm => ?_) (fun b u e => ?_) I.bare
  · obtain ⟨_, f1, _, f3, f4, f5⟩ := hf b hb
    exact ⟨f3, f1, f4, f5⟩
  · obtain ⟨o, es, ep, ho, r⟩ := hm
    exact ⟨o, es, ep, k _ o (fun z => (hf _ z).2.1 rfl) ho, r⟩
  · refine (I.hok b u e).stay (fun c v hc q => k c v ?_ q) (fun _ q => q) fun _ _ q => q
    rcases hc with z | z
    · rw [z]; exact nit b u e
    · exact nit c _ z
end
theorem turn_enum {P : Program} {w : World} {K : PySem.W.Frag} {es : List Expr} {k : Nat} {pos : Pos} (a e it : Addr) (hei : e ≠ it) :
    Turn P w K (.Tuple es k pos) (Ite a) [e, it] e (fun i h => (∃ old, IsEnum h e it ((i : Nat) : Int) old) ∧ h.IsListIter it a i) where
  mem := by simp
  obj := fun i h st b hb => by
    obtain ⟨⟨old, he⟩, o, e1, c, d⟩ := st
    rcases List.mem_cons.mp hb with z | z
    · subst z
      exact ⟨_, he, fun v z => by cases z⟩
    · have z : b = it := by simpa using z
      subst z
      exact ⟨o, e1, fun v z => by rw [d] at z; cases z⟩
  keep := fun i h h' st k => ⟨let ⟨old, he⟩ := st.1; ⟨old, k e (by simp) _ he⟩, st.2.at fun o e => k it (by simp) o e⟩
  item := by
    intro X hP hw hK hc i pins s σ H E I hf st hg
    subst hP hw hK
    obtain ⟨xs, x, hq, hx⟩ := hg
    obtain ⟨hz, its, n, r, hl, ea⟩ := I.lstM hq
    obtain ⟨u, hu, ru⟩ := r.get hx
    obtain ⟨⟨old, he⟩, hit⟩ := st
    have hL : s.heap.IsList a its.toArray := ⟨_, ea, rfl, n, rfl⟩
    have helt : e < s.heap.objs.size := Heap.lt_size he
    have hilt : it < s.heap.objs.size := by obtain ⟨_, x, _⟩ := id hit; exact Heap.lt_size x
    have hun : ∀ b ∈ [e, it], b < s.heap.objs.size := fun b hb => by
      rcases List.mem_cons.mp hb with z | z
      · rw [z]; exact helt
      · rw [show b = it by simpa using z]; exact hilt
    refine wpAny_pyNext_enum_item he hit hL (x := u) (by simpa using hu) hei fun h' ho hit' hT hsz hk => ?_
    refine ⟨_, rfl, wpAny_letOwnedTupleGo_enum ho fun h2 he2 hs2 => ?_⟩
    replace hs2 : Heap.SameBut e h' h2 := hs2
    have I1 : Inv X pins σ (upd H s.heap.objs.size (.tup [.int i, x])) { s with heap := s.heap.push { cls := .type "tuple", data := .seq #[.int i s.toks, u] }, toks := s.toks + 1 } :=
      I.laid (fun b o q => Heap.get?_push_of_some _ q) (Nat.le_refl _) ⟨by show 2 ≤ sizeLine; decide, [.int i s.toks, u], .cons ⟨_, rfl⟩ (.cons ru .nil), ⟨_, Heap.get?_push_size _ rfl, rfl, _, rfl⟩⟩
    have frs : ∀ b ∈ [e, it], upd H s.heap.objs.size (.tup [.int i, x]) b = none := fun b hb => by
      rw [upd_ne (Nat.ne_of_lt (hun b hb))]; exact (hf b hb).1
    have I2 : Inv X pins σ (upd H s.heap.objs.size (.tup [.int i, x])) { s with heap := h2, toks := s.toks + 1 } := by
      refine Inv.turnedL (s := { s with heap := s.heap.push { cls := .type "tuple", data := .seq #[.int i s.toks, u] }, toks := s.toks + 1 }) (h' := h2) (t' := s.toks + 1) (fp := [e, it]) I1 (fun b o hb q => ?_) (fun b hb => ⟨frs b hb, (hf b hb).2⟩)
      have n1 : b ≠ e := fun z => hb (by simp [z])
      have n2 : b ≠ it := fun z => hb (by simp [z])
      refine (hs2.2 b n1).trans ?_
      rcases Heap.get?_push_cases q with ⟨eb, eo⟩ | q
      · rw [eb, eo]; exact hT
      · exact hk b o n1 n2 q
    refine ⟨.ref s.heap.objs.size, _, I2, rfl, ⟨_, xs, x, I.fresh, hq, hx, rfl, rfl⟩, ⟨⟨u, ?_⟩, ?_⟩, frs⟩
    · have e1 : (((i + 1 : Nat)) : Int) = (i : Int) + 1 := by simp
      rw [e1]; exact he2
    · exact hit'.at fun o y => (hs2.2 it hei.symm).trans y
  done := by
    intro X hP hw hK hc i pins s σ H E I hf st hg
    subst hP hw hK
    obtain ⟨xs, hq, hx⟩ := hg
    obtain ⟨hz, its, n, r, hl, ea⟩ := I.lstM hq
    obtain ⟨⟨old, he⟩, hit⟩ := st
    have hL : s.heap.IsList a its.toArray := ⟨_, ea, rfl, n, rfl⟩
    exact wpAny_pyNext_enum_end (I.ok.hd hc) he hit hL (by simp; omega) fun h' eb => ⟨rfl, I.turnedL (t' := s.toks) (fp := [e, it]) (fun b o hb q => eb b o (fun z => hb (by simp [z])) q) hf⟩
  self := fun _ _ _ _ _ st h => let ⟨_, he⟩ := st.1; wpAny_pyIter_enum he h
section
variable {X : Cx}
def iEnum (ta : TA) : TI := fun σ H R => ta σ H fun vs H1 => ∃ a xs, vs = [.ref a] ∧ H1 a = some (.lst xs) ∧ R (Ite a) H1
theorem pg_tupK (K : PySem.W.Frag) {es : List Expr} {k : Nat} {t : TGs} {n : Nat} {pos : Pos} (hc : X.calm = true) (h : PGs X es t) (hK : X.K = K := by rfl)
    (hn : (assignEach es X.env).length = n := by rfl) (hst : (assignEach es X.env).findIdx? (·.1) = none := by rfl) : PG X (.Tuple es k pos) (gTup K n t) := hK ▸ pg_tup hc h hn hst
theorem boot_enumerate : bootBuiltins "enumerate" = some (.type "enumerate") := by decide +kernel
theorem pi_enum {es : List Expr} {k : Nat} {tp : Pos} {a : Expr} {ta : TA} {p pos : Pos} (hg : Gl X "enumerate") (hm : X.mg "enumerate" = none) (ha : PA X [a] ta) (hs : starEach [a] X.env = [(false, eval a X.env)] := by rfl) :
    PI X (.Tuple es k tp) (.Call (.Name "enumerate" p) [a] [] pos) (iEnum ta) := by
  intro pins s σ H R I h
  refine wpAny_Call_Name_kw (ld_blt I hg hm boot_enumerate ?_ (by decide) (by decide))
  refine PyProof.Rows.callWith_type1 (thn (ha pos pins s σ H _ I h) fun us s1 ⟨vs, H1, I1, r1, q1⟩ => ?_) hs rfl
  obtain ⟨a, xs, e, hq, q⟩ := q1
  subst e
  obtain ⟨u, rfl, ru⟩ := r1.one
  cases ru
  obtain ⟨hz, its, n, r, hl, ea⟩ := I1.lstM hq
  refine call_enumerate_1 ea fun h' he hit hsz hk => ?_
  refine wpAny_pyIter_enum he ?_
  have I2 : Inv X pins σ H1 { s1 with heap := h' } := I1.kept (t' := s1.toks) hk
  refine ⟨s1.heap.objs.size + 1, [s1.heap.objs.size + 1, s1.heap.objs.size], _, _, H1, rfl, I2, turn_enum a _ _ (Nat.succ_ne_self _), ⟨⟨_, he⟩, hit⟩, fun b hb => ?_, q⟩
  rcases List.mem_cons.mp hb with z | z
  · subst z; exact I1.fpOk (Nat.le_succ _) (I1.hok.fresh (Nat.le_succ _))
  · have z : b = s1.heap.objs.size := by simpa using z
    subst z; exact I1.fpOk (Nat.le_refl _) (I1.hok.fresh (Nat.le_refl _))
/-- an int as a test -/
theorem pt_valI {e : Expr} {t : TE} (h : PE X e t) (he : ∀ whole, isTrue e X.env whole = (do let v ← whole; standAt e.pos; holding [v] (truthy v)) := by intro _; rfl) : PT X e (fun σ H Q => t σ H fun x H1 => ∃ i, x = .int i ∧ Q (i != 0) H1) := by
  intro pins s σ H Q I hw
  refine isTrue_plain (thn (h pins s σ H _ I hw) fun v s1 ⟨x, H1, I1, r1, i, ex, q⟩ => ?_) (he _)
  subst ex
  obtain ⟨tk, rfl⟩ := r1
  exact PySem.P.truthy_int ⟨H1, I1, q⟩
/-- min of a list of ints -/
theorem call_minL (hcalm : X.calm = true) : CallR X (.builtin "min") (fun vs H Q => ∃ (p : Addr) (ns : List Int), vs = [.ref p] ∧ SqL X.K H p (ns.map V.int) ∧ 0 < ns.length ∧ ∀ M, M ∈ ns → (∀ a ∈ ns, M ≤ a) → Q (.int M) H) := by
  intro pins s σ H xs us Q I r h
  obtain ⟨p, ns, rfl, hq, hne, q⟩ := h
  obtain ⟨u, rfl, ru⟩ := r.one
  cases ru
  obtain ⟨its, rv, pl, hz⟩ := I.list hq
  have hi := vals_intsAre rv
  obtain ⟨ws, e⟩ := hi.allInts.items
  have hns : ns = ws.toList.map (·.1) := by rw [← hi.numsOf, ← nums_intItems, ← e]
  have hlen : ns.length = ws.size := by rw [hns, List.length_map, Array.length_toList]
  refine min_intList (I.ok.hd hcalm) (l := p) (xs := ws) (e ▸ pl.isList) (by omega) fun v h' tk hv hk => ?_
  obtain ⟨t, rfl⟩ := intItems_at hv
  obtain ⟨_, h2⟩ := argBest_lt (numAt ws) (ws.size - 1)
  refine ⟨.int _, H, I.kept hk, ⟨t, rfl⟩, q _ ?_ fun b hb => ?_⟩
  · rw [hns, numAt_eq]
    exact getD_mem (by rw [← hns]; omega)
  · rw [hns] at hb
    obtain ⟨j, hj, rfl⟩ := mem_getD hb
    rw [← hns] at hj
    rw [← numAt_eq]
    exact h2 j (by omega)
end
/-- a function of a class, asked by the class's name -/
structure Base (K : PySem.W.Frag) (C : Addr) (mc : Value) (m : Str) (f : Addr) : Prop where
  ga : PySem.W.specialIn K (.ref C) "__getattribute__" = some (some (.builtin "type.__getattribute__"))
  rd : PySem.W.readsIn K C mc = true
  at_ : PySem.W.findCls K (.ref C) mc m = some (.val (.ref f))
  kp : PySem.W.keepIn K (.ref f) = true
section
variable {X : Cx} {CX : CXT} {k : Nat} {f C : Addr} {mc : Value} {fd : FuncData} {ps : List Str} {sp : Sp} {dvs : List V} {ds : List Value} {E : XK} {x m : Str} {p pos apos : Pos} {e : Expr} {es : List Expr} {t : TA}
theorem pe_base {pl : Sem Bool} (B : Base X.K C mc m f) (F : FnOk X.prog X.w X.K X.mg X.base CX k f fd ps sp) (hr : Room k X.A) (hg : Gl X x) (hm : X.mg x = some (.ref C)) (hb : Binds X.K fd ps ds) (hd : Vals dvs ds) (hx : Passes CX X E) (ha : PA X (e :: es) t)
    (hdb : (x == ("__debug__" : Str)) = false := by decide) (hst : starEach (e :: es) X.env = (false, eval e X.env) :: starEach es X.env := by rfl) (hpl : (backTo pos (starEach es X.env)).any (·.1) = false := by rfl)
    (ht : eval (.Call (.Attribute (.Name x p) m apos) (e :: es) [] pos) X.env = (do
      let ov ← eval (.Name x p) X.env
      standAt apos.atName
      let (f, first) ← holding [ov] (getMethod ov m pl)
      callWith pos f first (backTo pos (starEach (e :: es) X.env)) (backToKw pos (keywordEach [] X.env))) := by rfl) :
    PE X (.Call (.Attribute (.Name x p) m apos) (e :: es) [] pos) (tCall sp dvs E t) := by
  intro pins s σ H Q I h
  refine PySem.W.methodCall_KW (pl := pl) (thn (pe_glob (v := .ref C) (pos := p) hg hm rfl hdb pins s σ H (fun v H1 => v = .ref C ∧ H1 = H) I ⟨rfl, rfl⟩) fun u s1 ⟨x, H1, I1, rx, ex, eH⟩ => ?_) ht
  subst ex eH
  obtain rfl : u = Value.ref C := rx
  refine PySem.W.method_cls I1.kIn B.ga (PySem.W.cls_value I1.kIn B.rd B.at_ rfl ?_)
  have I2 : Inv X pins σ H1 { s1 with toks := s1.toks + 1 } := I1.tok _
  refine PySem.W.callWith_K (first := []) (h₀ := X.base) I2.ok.mod.kin B.kp (thn (ha pos pins _ σ H1 _ I2 h) fun us s2 ⟨vs, H2, I3, r, q2⟩ => ⟨I3.kIn, ?_⟩) hst hpl
  exact run_fn F hr hb hd hx I3 r q2
end
end L2
/-! MORE RULES: the sum of a list, one of two functions called, zip of two lists -/
namespace L2
open PySem PySem.Spec PyProof.Rows
section
variable {X : Cx}
theorem call_sumL (hcalm : X.calm = true) : CallR X (.builtin "sum") (fun vs H Q => ∃ (p : Addr) (ns : List Int), vs = [.ref p] ∧ H p = some (.lst (ns.map V.int)) ∧ Q (.int ns.sum) H) := by
  intro pins s σ H xs us Q I r h
  obtain ⟨p, ns, rfl, hq, q⟩ := h
  obtain ⟨u, rfl, ru⟩ := r.one
  cases ru
  obtain ⟨its, rv, pl, hz⟩ := I.list (SqL.of hq)
  have hi := vals_intsAre rv
  obtain ⟨ws, e⟩ := hi.allInts.items
  have hns : ns = ws.toList.map (·.1) := by rw [← hi.numsOf, ← nums_intItems, ← e]
  refine sum_intListG (I.ok.hd hcalm) (l := p) (xs := ws) (e ▸ pl.isList) fun h' tk t' hk => ⟨.int _, H, I.kept hk, ⟨t', rfl⟩, ?_⟩
  have es : preSum (numAt ws) ws.size = ns.sum := by rw [hns, preSum_eq, List.take_of_length_le (by simp)]
  rw [es]
  exact q
theorem call_maxL (hcalm : X.calm = true) : CallR X (.builtin "max") (fun vs H Q => ∃ (p : Addr) (ns : List Int), vs = [.ref p] ∧ SqL X.K H p (ns.map V.int) ∧ 0 < ns.length ∧ ∀ M, M ∈ ns → (∀ a ∈ ns, a ≤ M) → Q (.int M) H) := by
  intro pins s σ H xs us Q I r h
  obtain ⟨p, ns, rfl, hq, hne, q⟩ := h
  obtain ⟨u, rfl, ru⟩ := r.one
  cases ru
  obtain ⟨its, rv, pl, hz⟩ := I.list hq
  have hi := vals_intsAre rv
  obtain ⟨ws, e⟩ := hi.allInts.items
  have hns : ns = ws.toList.map (·.1) := by rw [← hi.numsOf, ← nums_intItems, ← e]
  have hlen : ns.length = ws.size := by rw [hns, List.length_map, Array.length_toList]
  refine max_intList (I.ok.hd hcalm) (l := p) (xs := ws) (e ▸ pl.isList) (by omega) fun v h' tk hv hk => ?_
  obtain ⟨t, rfl⟩ := intItems_at hv
  obtain ⟨_, h2⟩ := argBest_gt (numAt ws) (ws.size - 1)
  refine ⟨.int _, H, I.kept hk, ⟨t, rfl⟩, q _ ?_ fun b hb => ?_⟩
  · rw [hns, numAt_eq]
    exact getD_mem (by rw [← hns]; omega)
  · rw [hns] at hb
    obtain ⟨j, hj, rfl⟩ := mem_getD hb
    rw [← hns] at hj
    rw [← numAt_eq]
    exact h2 j (by omega)
def tCallV2 (f g : Addr) (sp sq : Sp) (tf : TE) (t : TA) (E : XK) : TE := fun σ H Q => tf σ H fun x H1 => (x = .ref f ∧ t σ H1 fun vs H2 => sp vs H2 Q E) ∨ (x = .ref g ∧ t σ H1 fun vs H2 => sq vs H2 Q E)
/-- f(e, ..), f a value that is one of two functions -/
theorem pe_callV2 {CX : CXT} {k : Nat} {f g : Addr} {fd gd : FuncData} {ps qs : List Str} {sp sq : Sp} {E : XK} {fe e : Expr} {es : List Expr} {tf : TE} {t : TA} {pos : Pos} (F : FnOk X.prog X.w X.K X.mg X.base CX k f fd ps sp)
    (G : FnOk X.prog X.w X.K X.mg X.base CX k g gd qs sq) (hr : Room k X.A) (hk : PySem.W.keepIn X.K (.ref f) = true) (hk' : PySem.W.keepIn X.K (.ref g) = true) (hb : Binds X.K fd ps []) (hb' : Binds X.K gd qs []) (hx : Passes CX X E)
    (hf : PE X fe tf) (ha : PA X (e :: es) t)
    (hev : eval (.Call fe (e :: es) [] pos) X.env = (do callWith pos (← eval fe X.env) [] (backTo pos (starEach (e :: es) X.env)) (backToKw pos (keywordEach [] X.env))) := by rfl)
    (he : starEach (e :: es) X.env = (false, eval e X.env) :: starEach es X.env := by rfl) (hpl : (backTo pos (starEach es X.env)).any (·.1) = false := by rfl) :
    PE X (.Call fe (e :: es) [] pos) (tCallV2 f g sp sq tf t E) := by
  intro pins s σ H Q I h
  rw [hev]
  refine wpAny_bind (thn (hf pins s σ H _ I h) fun v s1 ⟨x, H1, I1, r, hx'⟩ => ?_)
  rcases hx' with ⟨ex, q⟩ | ⟨ex, q⟩
  · subst ex
    cases r
    refine PySem.W.callWith_K (h₀ := X.base) I1.ok.mod.kin hk (thn (ha pos pins s1 σ H1 _ I1 q) fun us s2 ⟨vs, H2, I2, r2, q2⟩ => ⟨I2.kIn, ?_⟩) he hpl
    exact run_fn F hr hb .nil hx I2 r2 (by rw [List.append_nil]; exact q2)
  · subst ex
    cases r
    refine PySem.W.callWith_K (h₀ := X.base) I1.ok.mod.kin hk' (thn (ha pos pins s1 σ H1 _ I1 q) fun us s2 ⟨vs, H2, I2, r2, q2⟩ => ⟨I2.kIn, ?_⟩) he hpl
    exact run_fn G hr hb' .nil hx I2 r2 (by rw [List.append_nil]; exact q2)
end
/-- zip(the lists at a and b) -/
def Itz (a b : Addr) : It :=
  ⟨fun i H => ∃ xs ys x y, H a = some (.lst xs) ∧ H b = some (.lst ys) ∧ xs[i]? = some x ∧ ys[i]? = some y,
   fun i H v H' => ∃ T xs ys x y, H T = none ∧ H a = some (.lst xs) ∧ H b = some (.lst ys) ∧ xs[i]? = some x ∧ ys[i]? = some y ∧ v = .ref T ∧ H' = upd H T (.tup [x, y]),
   fun i H => ∃ xs ys, H a = some (.lst xs) ∧ H b = some (.lst ys) ∧ (xs.length ≤ i ∨ ys.length ≤ i)⟩
theorem turn_zip {P : Program} {w : World} {K : PySem.W.Frag} {es : List Expr} {k : Nat} {pos : Pos} {a b z TI TO i1 i2 : Addr} (D : ZipApart z TI TO i1 i2 a b) :
    Turn P w K (.Tuple es k pos) (Itz a b) [z, TI, TO, i1, i2] z (fun i h => IsZip h z TI TO .none ∧ IsPair h TI (.ref i1) (.ref i2) ∧ (∃ u v, IsPair h TO u v) ∧ h.IsListIter i1 a i ∧ h.IsListIter i2 b i) where
  mem := by simp
  obj := fun i h st c hc => by
    obtain ⟨hz, hTI, ⟨u, v, hTO⟩, h1, h2⟩ := st
    simp only [List.mem_cons, List.not_mem_nil, or_false] at hc
    rcases hc with rfl | rfl | rfl | rfl | rfl
    · exact ⟨_, hz, fun v z => by cases z⟩
    · exact ⟨_, hTI, fun v z => by cases z⟩
    · exact ⟨_, hTO, fun v z => by cases z⟩
    · obtain ⟨o, e1, c, d⟩ := h1
      exact ⟨o, e1, fun v z => by rw [d] at z; cases z⟩
    · obtain ⟨o, e1, c, d⟩ := h2
      exact ⟨o, e1, fun v z => by rw [d] at z; cases z⟩
  keep := fun i h h' st k => by
    obtain ⟨hz, hTI, ⟨u, v, hTO⟩, h1, h2⟩ := st
    exact ⟨k z (by simp) _ hz, k TI (by simp) _ hTI, ⟨u, v, k TO (by simp) _ hTO⟩, h1.at fun o e => k i1 (by simp) o e, h2.at fun o e => k i2 (by simp) o e⟩
  item := by
    intro X hP hw hK hc i pins s σ H E I hf st hg
    subst hP hw hK
    obtain ⟨xs, ys, x, y, hqa, hqb, hx, hy⟩ := hg
    obtain ⟨_, its1, n1, r1, hl1, ea⟩ := I.lstM hqa
    obtain ⟨_, its2, n2, r2, hl2, eb⟩ := I.lstM hqb
    obtain ⟨u1, hu1, ru1⟩ := r1.get hx
    obtain ⟨u2, hu2, ru2⟩ := r2.get hy
    obtain ⟨hz, hTI, ⟨p, q, hTO⟩, h1, h2⟩ := st
    have hA : s.heap.IsList a its1.toArray := ⟨_, ea, rfl, n1, rfl⟩
    have hB : s.heap.IsList b its2.toArray := ⟨_, eb, rfl, n2, rfl⟩
    have lt : ∀ c ∈ [z, TI, TO, i1, i2], c < s.heap.objs.size := fun c hc => by
      simp only [List.mem_cons, List.not_mem_nil, or_false] at hc
      rcases hc with rfl | rfl | rfl | rfl | rfl
      · exact Heap.lt_size hz
      · exact Heap.lt_size hTI
      · exact Heap.lt_size hTO
      · obtain ⟨_, e, _⟩ := h1; exact Heap.lt_size e
      · obtain ⟨_, e, _⟩ := h2; exact Heap.lt_size e
    refine wpAny_pyNext_zip_item D hz hTI hTO h1 h2 hA hB (x := u1) (y := u2) (by simpa using hu1) (by simpa using hu2) fun h' a1 a2 a3 a4 a5 a6 hk => ?_
    refine ⟨_, rfl, wpAny_letOwnedTupleGo_zip a1 fun h2' hz2 hs2 => ?_⟩
    replace hs2 : Heap.SameBut z h' h2' := hs2
    have I1 : Inv X pins σ (upd H s.heap.objs.size (.tup [x, y])) { s with heap := s.heap.push { cls := .type "tuple", data := .seq #[u1, u2] }, toks := s.toks } :=
      I.laid (fun b o q => Heap.get?_push_of_some _ q) (Nat.le_refl _) ⟨by show 2 ≤ sizeLine; decide, [u1, u2], .cons ru1 (.cons ru2 .nil), ⟨_, Heap.get?_push_size _ rfl, rfl, _, rfl⟩⟩
    have frs : ∀ c ∈ [z, TI, TO, i1, i2], upd H s.heap.objs.size (.tup [x, y]) c = none := fun c hc => by
      rw [upd_ne (Nat.ne_of_lt (lt c hc))]; exact (hf c hc).1
    have I2 : Inv X pins σ (upd H s.heap.objs.size (.tup [x, y])) { s with heap := h2', toks := s.toks } := by
      refine Inv.turnedL (s := { s with heap := s.heap.push { cls := .type "tuple", data := .seq #[u1, u2] }, toks := s.toks }) (h' := h2') (t' := s.toks) (fp := [z, TI, TO, i1, i2]) I1 (fun c o hc q => ?_) (fun c hc => ⟨frs c hc, (hf c hc).2⟩)
      have n1 : c ≠ z := fun e => hc (by simp [e])
      refine (hs2.2 c n1).trans ?_
      rcases Heap.get?_push_cases q with ⟨ec, eo⟩ | q
      · rw [ec, eo]; exact a5
      · exact hk c o n1 (fun e => hc (by simp [e])) (fun e => hc (by simp [e])) (fun e => hc (by simp [e])) q
    refine ⟨.ref s.heap.objs.size, _, I2, rfl, ⟨_, xs, ys, x, y, I.fresh, hqa, hqb, hx, hy, rfl, rfl⟩, ⟨hz2, ?_, ⟨_, _, hs2.extBut _ _ D.TOz a2⟩, a3.extBut hs2.extBut D.i1z, a4.extBut hs2.extBut D.i2z⟩, frs⟩
    exact hs2.extBut _ _ D.TIz (hk _ _ D.TIz D.TITO D.TIi1 D.TIi2 hTI)
  done := by
    intro X hP hw hK hc i pins s σ H E I hf st hg
    subst hP hw hK
    obtain ⟨xs, ys, hqa, hqb, hend⟩ := hg
    obtain ⟨_, its1, n1, r1, hl1, ea⟩ := I.lstM hqa
    obtain ⟨_, its2, n2, r2, hl2, eb⟩ := I.lstM hqb
    obtain ⟨hz, hTI, ⟨p, q, hTO⟩, h1, h2⟩ := st
    have hA : s.heap.IsList a its1.toArray := ⟨_, ea, rfl, n1, rfl⟩
    have hB : s.heap.IsList b its2.toArray := ⟨_, eb, rfl, n2, rfl⟩
    have he : its1.toArray[i]? = none ∨ its2.toArray[i]? = none := by
      rcases hend with z | z
      · exact .inl (by simp; omega)
      · exact .inr (by simp; omega)
    exact wpAny_pyNext_zip_end (I.ok.hd hc) D hz hTI hTO h1 h2 hA hB he fun h' hk => ⟨rfl, I.turnedL (t' := s.toks) (fp := [z, TI, TO, i1, i2]) (fun c o hc q => hk c o (fun e => hc (by simp [e])) (fun e => hc (by simp [e])) (fun e => hc (by simp [e])) (fun e => hc (by simp [e])) q) hf⟩
  self := fun _ _ _ _ _ st h => wpAny_pyIter_zip st.1 h
section
variable {X : Cx}
def iZip (ta : TA) : TI := fun σ H R => ta σ H fun vs H1 => ∃ a b xs ys, vs = [.ref a, .ref b] ∧ H1 a = some (.lst xs) ∧ H1 b = some (.lst ys) ∧ R (Itz a b) H1
theorem pi_zip {es : List Expr} {k : Nat} {tp : Pos} {a b : Expr} {ta : TA} {p pos : Pos} (hg : Gl X "zip") (hm : X.mg "zip" = none) (ha : PA X [a, b] ta) (hs : starEach [a, b] X.env = (false, eval a X.env) :: starEach [b] X.env := by rfl) (hpl : (backTo pos (starEach [b] X.env)).any (·.1) = false := by rfl) :
    PI X (.Tuple es k tp) (.Call (.Name "zip" p) [a, b] [] pos) (iZip ta) := by
  intro pins s σ H R I h
  refine wpAny_Call_Name_kw (ld_blt I hg hm boot_zip ?_ (by decide) (by decide))
  refine PyProof.Rows.callWith_type1 (thn (ha pos pins s σ H _ I h) fun us s1 ⟨vs, H1, I1, r1, q1⟩ => ?_) hs hpl
  obtain ⟨a, b, xs, ys, e, hqa, hqb, q⟩ := q1
  subst e
  obtain ⟨u1, u2, rfl, ru1, ru2⟩ : ∃ u1 u2, us = [u1, u2] ∧ RelV (.ref a) u1 ∧ RelV (.ref b) u2 := by
    cases r1 with
    | cons x1 t1 =>
      cases t1 with
      | cons x2 t2 =>
        cases t2
        exact ⟨_, _, rfl, x1, x2⟩
  cases ru1
  cases ru2
  obtain ⟨_, its1, n1, rv1, hl1, ea⟩ := I1.lstM hqa
  obtain ⟨_, its2, n2, rv2, hl2, eb⟩ := I1.lstM hqb
  refine call_zip_2 (xs := its1.toArray) (ys := its2.toArray) ⟨_, ea, rfl, n1, rfl⟩ ⟨_, eb, rfl, n2, rfl⟩ fun h' hz hTI hTO hi1 hi2 hsz hk => ?_
  refine wpAny_pyIter_zip hz ?_
  have I2 : Inv X pins σ H1 { s1 with heap := h' } := I1.kept (t' := s1.toks) hk
  refine ⟨s1.heap.objs.size + 4, [s1.heap.objs.size + 4, s1.heap.objs.size + 2, s1.heap.objs.size + 3, s1.heap.objs.size, s1.heap.objs.size + 1], _, _, H1, rfl, I2, turn_zip (zipApart_new (Heap.lt_size ea) (Heap.lt_size eb)), ⟨hz, hTI, ⟨_, _, hTO⟩, hi1, hi2⟩, fun c hc => ?_, q⟩
  have hge : s1.heap.objs.size ≤ c := by
    simp only [List.mem_cons, List.not_mem_nil, or_false] at hc
    rcases hc with rfl | rfl | rfl | rfl | rfl <;> omega
  exact I1.fpOk hge (I1.hok.fresh hge)
end
/-- [elt for x, y in zip(xs, ys)] -/
theorem turns_zip {K : PySem.W.Frag} {a b : Addr} {xs ys : List V} {tc : TT} {te : TE} {D : Addr} {Q : Hp → Prop} {σ : St} {H1 : Hp} {n : Nat} (c : Nat → Bool) (v : Nat → V) (hA : H1 a = some (.lst xs)) (hB : H1 b = some (.lst ys)) (hmin : n = min xs.length ys.length) (hD : H1 D = none) (hn : n ≤ 1000)
    (ht : ∀ i H', i < n → Same H1 H' → Tells tc (some (xs.getD i .non) :: some (ys.getD i .non) :: σ) H' (c i)) (he : ∀ i H', i < n → c i = true → Same H1 H' → Gives te (some (xs.getD i .non) :: some (ys.getD i .non) :: σ) H' (v i))
    (hq : ∀ H', Same H1 H' → H' D = some (.lst (((List.range n).filter c).map v)) → Q H') : tTurns (Itz a b) (gTup K 2 (gCons (gName 0) (gCons (gName 1) gNil))) tc te D Q (none :: none :: σ) (upd H1 D (.lst [])) := by
  refine turns_any (n := n) (fun i σ' H' => ∃ x y, σ' = x :: y :: σ ∧ Same H1 H' ∧ H' D = some (.lst (((List.range i).filter c).map v))) ⟨none, none, rfl, Same.new hD _, upd_same⟩ ?_ ?_
  · rintro i σ' H' hi ⟨x, y, rfl, g, hl⟩
    have hix : i < xs.length := by omega
    have hiy : i < ys.length := by omega
    refine ⟨⟨xs, ys, xs[i], ys[i], g _ _ hA, g _ _ hB, List.getElem?_eq_getElem hix, List.getElem?_eq_getElem hiy⟩, fun z H2 hz => ?_⟩
    obtain ⟨T, xs', ys', u, u', hT, hxs, hys, hu, hu', rfl, rfl⟩ := hz
    rw [g _ _ hA] at hxs
    rw [g _ _ hB] at hys
    cases hxs
    cases hys
    have eu : u = xs.getD i .non := by rw [List.getD_eq_getElem?_getD, hu]; rfl
    have eu' : u' = ys.getD i .non := by rw [List.getD_eq_getElem?_getD, hu']; rfl
    subst eu eu'
    have g2 : Same H1 (upd H' T (.tup [xs.getD i .non, ys.getD i .non])) := fun b o hb => by
      have h1 := g _ _ hb
      rw [upd_ne (ne_of_none h1 hT)]; exact h1
    have hl2 : (upd H' T (.tup [xs.getD i .non, ys.getD i .non])) D = some (.lst (((List.range i).filter c).map v)) := by rw [upd_ne (ne_of_none hl hT)]; exact hl
    refine ⟨T, _, rfl, SqT.of upd_same, rfl, _, _, rfl, _, _, rfl, rfl, ?_⟩
    show tc (some (xs.getD i .non) :: some (ys.getD i .non) :: σ) _ _
    generalize upd H' T (.tup [xs.getD i .non, ys.getD i .non]) = H3 at g2 hl2 ⊢
    refine ht i H3 hi g2 _ fun H4 g4 => ?_
    have hr : (List.range (i + 1)).filter c = (List.range i).filter c ++ (if c i = true then [i] else []) := by
      rw [List.range_succ, List.filter_append, List.filter_cons, List.filter_nil]
    refine ite2 (fun hc => ?_) (fun hc => ?_)
    · refine he i H4 hi hc (g2.trans g4) _ fun H5 g5 => ?_
      have l5 := g5 _ _ (g4 _ _ hl2)
      refine ⟨_, l5, ?_, _, _, rfl, fun b o hb => ?_, ?_⟩
      · rw [List.length_map]
        have := List.length_filter_le c (List.range i)
        rw [List.length_range] at this
        exact small1000 (by omega)
      · have hne : b ≠ D := fun e => by rw [e, hD] at hb; cases hb
        rw [upd_ne hne]
        exact g5 _ _ (g4 _ _ (g2 _ _ hb))
      · rw [upd_same, hr, if_pos hc, List.map_append]
        rfl
    · refine ⟨_, _, rfl, g2.trans g4, ?_⟩
      rw [hr, if_neg hc, List.append_nil]
      exact g4 _ _ hl2
  · rintro σ' H' ⟨x, y, rfl, g, hl⟩
    exact ⟨⟨xs, ys, g _ _ hA, g _ _ hB, by omega⟩, hq H' g hl⟩
end L2
/-! xs[::-1], `is not` of truths, a call by a local name -/
namespace L2
open PySem PySem.Spec PyProof.Rows
section
variable {X : Cx}
/-- xs[::-1] -/
def tRev (K : PySem.W.Frag) (te : TE) : TE := fun σ H Q => te σ H fun x H1 => ∃ a xs, x = .ref a ∧ SqL K H1 a xs ∧ ∀ p, H1 p = none → Q (.ref p) (upd H1 p (.lst xs.reverse))
theorem pick_rev (its : List Value) : slicePick its.toArray none none (some (-1)) = its.reverse.toArray := by
  have hb : sliceBounds none none (some (-1)) its.toArray.size = ((its.length : Int) - 1, -1, -1) := by
    unfold sliceBounds
    simp
  unfold slicePick
  rw [hb]
  have hr : sliceRange ((its.length : Int) - 1) (-1) (-1) = (List.range its.length).map fun k : Nat => its.length - 1 - k := by
    unfold sliceRange
    have hc : (if (-1 : Int) > 0 then (if ((its.length : Int) - 1) < -1 then ((-1) - ((its.length : Int) - 1) + (-1) - 1) / (-1) else 0) else (if ((its.length : Int) - 1) > -1 then (((its.length : Int) - 1) - (-1) - (-1) - 1) / (-(-1)) else 0)) = (its.length : Int) := by
      rw [if_neg (by decide)]
      by_cases h : ((its.length : Int) - 1) > -1
      · rw [if_pos h]
        have e : -(-1 : Int) = 1 := by decide
        rw [e, Int.ediv_one]
        omega
      · rw [if_neg h]
        omega
    rw [hc]
    show (List.range ((its.length : Nat) : Int).toNat).map (fun k : Nat => ((its.length : Int) - 1 + -1 * (k : Int)).toNat) = _
    rw [Int.toNat_natCast]
    refine List.map_congr_left fun k hk => ?_
    have := List.mem_range.mp hk
    omega
  show (List.filterMap (fun x => its.toArray[x]?) (sliceRange ((its.length : Int) - 1) (-1) (-1))).toArray = _
  rw [hr]
  congr 1
  have key : ∀ l : List Value, ((List.range l.length).map fun k : Nat => l.length - 1 - k).filterMap (fun x => l.toArray[x]?) = l.reverse := by
    intro l
    have gen : ∀ (ks : List Nat), (∀ k ∈ ks, k < l.length) → (ks.map fun k : Nat => l.length - 1 - k).filterMap (fun x => l.toArray[x]?) = ks.map fun k => l.getD (l.length - 1 - k) .none := by
      intro ks
      induction ks with
      | nil => intro _; rfl
      | cons k r ih =>
        intro h
        have hk := h k List.mem_cons_self
        rw [List.map_cons, List.map_cons, List.filterMap_cons, ih fun x hx => h x (List.mem_cons_of_mem _ hx)]
        have e : l.toArray[l.length - 1 - k]? = some (l.getD (l.length - 1 - k) .none) := by
          rw [List.getElem?_toArray, List.getD_eq_getElem?_getD, List.getElem?_eq_getElem (by omega)]
          rfl
        rw [e]
    rw [gen _ fun k hk => List.mem_range.mp hk]
    refine List.ext_getElem (by rw [List.length_map, List.length_range, List.length_reverse]) fun i h1 h2 => ?_
    have hi : i < l.length := by rw [List.length_reverse] at h2; exact h2
    rw [List.getElem_map, List.getElem_range, List.getElem_reverse, List.getD_eq_getElem?_getD, List.getElem?_eq_getElem (by omega)]
    rfl
  exact key its
theorem pe_rev {e : Expr} {te : TE} {p1 p2 p3 pos : Pos} {j : Nat} (he : PE X e te) : PE X (.Subscript e (.Slice none none (some (.UnaryOp .USub (.Constant (.int 1) j p1) p2)) p3) pos) (tRev X.K te) := by
  intro pins s σ H Q I h
  refine Subscript_ (thn (he pins s σ H _ I h) fun v s1 ⟨x, H1, I1, r1, q1⟩ => ?_)
  obtain ⟨a, xs, rfl, hx, q⟩ := q1
  cases r1
  refine wpAny_Slice ?_
  rw [evalPart_none]
  refine wpAny_pure (wpAny_pure ?_)
  rw [evalPart_some]
  refine thn ((pe_un un_neg pe_int : PE X (.UnaryOp .USub (.Constant (.int 1) j p1) p2) _) pins s1 σ H1 (fun y H2 => y = .int (-1) ∧ H2 = H1) I1 ⟨1, rfl, rfl, rfl⟩) fun vs s2 ⟨y, H2, I2, r2, ey, eH⟩ => ?_
  subst ey eH
  obtain ⟨t, rfl⟩ := r2
  have I4 : Inv X pins σ H2 { s2 with heap := s2.heap.push { cls := .type "slice", data := .fields #[.none, .none, .int (-1) t] } } := I2.kept (t' := s2.toks) fun b ob q => Heap.get?_push_of_some _ q
  obtain ⟨its, r, ht, hz⟩ := I4.list hx
  have hlen := r.length
  have hg : wpAny (model X.prog X.w) X.A (getItem (.ref a) (.ref s2.heap.objs.size)) (EP X pins σ Q) X.xe { s2 with heap := s2.heap.push { cls := .type "slice", data := .fields #[.none, .none, .int (-1) t] } } := by
    refine wpAny_getItem_list_slice ht.isList (Heap.IsSliceOf.new ..) .none .none (.int (-1) t) (by decide) ?_ (by rw [List.size_toArray] <;> omega)
    rw [pick_rev]
    refine ⟨.ref _, _, I4.laid (t' := s2.toks) (o := .lst xs.reverse) (fun b ob q => Heap.get?_push_of_some _ q) (Nat.le_refl _) ?_, rfl, q _ (I4.hok.fresh (Nat.le_refl _))⟩
    exact ⟨by rw [List.length_reverse]; exact hz, its.reverse, 0, r.reverse, Heap.get?_push_size _ rfl⟩
  show wpAny (model X.prog X.w) X.A (subscriptTail e (.Slice none none (some (.UnaryOp .USub (.Constant (.int 1) j p1) p2)) p3) (.ref a) (.ref s2.heap.objs.size)) (EP X pins σ Q) X.xe { s2 with heap := s2.heap.push { cls := .type "slice", data := .fields #[.none, .none, .int (-1) t] } }
  exact tail_any (ops := [.ref a, .ref s2.heap.objs.size]) ht.isList.typeIs slot_list_getitem.lookup hg (by with_unfolding_all rfl)
theorem op_notB : OpR X (compareOp .IsNot) (fun x y H Q => ∃ a b : Bool, x = .bl a ∧ y = .bl b ∧ Q (.bl (a != b)) H) := by
  intro pins s σ H x y v u Q I rx ry ⟨a, b, e1, e2, q⟩
  subst e1 e2
  cases rx
  cases ry
  cases a <;> cases b <;> first | exact wpAny_pure ⟨.bl true, H, I, rfl, q⟩ | exact wpAny_pure ⟨.bl false, H, I, rfl, q⟩
/-- f(e, ..), f a local name that is one of two functions -/
theorem pe_callN2 {CX : CXT} {k : Nat} {f g : Addr} {fd gd : FuncData} {ps qs : List Str} {sp sq : Sp} {E : XK} {x : Str} {p : Pos} {e : Expr} {es : List Expr} {tf : TE} {t : TA} {pos : Pos} (F : FnOk X.prog X.w X.K X.mg X.base CX k f fd ps sp)
    (G : FnOk X.prog X.w X.K X.mg X.base CX k g gd qs sq) (hr : Room k X.A) (hk : PySem.W.keepIn X.K (.ref f) = true) (hk' : PySem.W.keepIn X.K (.ref g) = true) (hb : Binds X.K fd ps []) (hb' : Binds X.K gd qs []) (hx : Passes CX X E)
    (hf : PE X (.Name x p) tf) (ha : PA X (e :: es) t)
    (he : starEach (e :: es) X.env = (false, eval e X.env) :: starEach es X.env := by rfl) (hpl : (backTo pos (starEach es X.env)).any (·.1) = false := by rfl) :
    PE X (.Call (.Name x p) (e :: es) [] pos) (tCallV2 f g sp sq tf t E) := by
  intro pins s σ H Q I h
  refine wpAny_Call_Name_kw (thn (hf pins s σ H _ I h) fun v s1 ⟨x, H1, I1, r, hx'⟩ => ?_)
  rcases hx' with ⟨ex, q⟩ | ⟨ex, q⟩
  · subst ex
    cases r
    refine PySem.W.callWith_K (h₀ := X.base) I1.ok.mod.kin hk (thn (ha pos pins s1 σ H1 _ I1 q) fun us s2 ⟨vs, H2, I2, r2, q2⟩ => ⟨I2.kIn, ?_⟩) he hpl
    exact run_fn F hr hb .nil hx I2 r2 (by rw [List.append_nil]; exact q2)
  · subst ex
    cases r
    refine PySem.W.callWith_K (h₀ := X.base) I1.ok.mod.kin hk' (thn (ha pos pins s1 σ H1 _ I1 q) fun us s2 ⟨vs, H2, I2, r2, q2⟩ => ⟨I2.kIn, ?_⟩) he hpl
    exact run_fn G hr hb' .nil hx I2 r2 (by rw [List.append_nil]; exact q2)
end
end L2
/-! repr of data: lists, tuples, the empty dict, texts, ints, truths, None (the layer with patch_gd.py) -/
namespace L2
open PySem PySem.Spec PyProof.Rows
mutual
/-- what stands at a value, as data -/
inductive Dat (H : Hp) : V → PyData → Prop
  | non : Dat H .non .none
  | bl (b : Bool) : Dat H (.bl b) (.bool b)
  | int (i : Int) : Dat H (.int i) (.int i)
  | str (x : Str) : Dat H (.str x) (.str x)
  | lst {a : Addr} {xs : List V} {ds : List PyData} : H a = some (.lst xs) → DatAll H xs ds → Dat H (.ref a) (.list ds)
  | tup {a : Addr} {xs : List V} {ds : List PyData} : H a = some (.tup xs) → DatAll H xs ds → Dat H (.ref a) (.tuple ds)
  | dct {a : Addr} : H a = some (.dK []) → Dat H (.ref a) (.dict [])
  | dc1 {a : Addr} {x : Str} {i : Int} : H a = some (.dK [(Sum.inr x, .int i)]) → Dat H (.ref a) (.dict [(.str x, .int i)])
inductive DatAll (H : Hp) : List V → List PyData → Prop
  | nil : DatAll H [] []
  | cons {x : V} {d : PyData} {xs : List V} {ds : List PyData} : Dat H x d → DatAll H xs ds → DatAll H (x :: xs) (d :: ds)
end
mutual
theorem Dat.same {H H' : Hp} (g : Same H H') : ∀ {x : V} {d : PyData}, Dat H x d → Dat H' x d
  | _, _, .non => .non
  | _, _, .bl b => .bl b
  | _, _, .int i => .int i
  | _, _, .str x => .str x
  | _, _, .lst e h => .lst (g _ _ e) (h.same g)
  | _, _, .tup e h => .tup (g _ _ e) (h.same g)
  | _, _, .dct e => .dct (g _ _ e)
  | _, _, .dc1 e => .dc1 (g _ _ e)
theorem DatAll.same {H H' : Hp} (g : Same H H') : ∀ {xs : List V} {ds : List PyData}, DatAll H xs ds → DatAll H' xs ds
  | _, _, .nil => .nil
  | _, _, .cons h t => .cons (h.same g) (t.same g)
end
theorem DatAll.app {H : Hp} : ∀ {xs ys : List V} {ds es : List PyData}, DatAll H xs ds → DatAll H ys es → DatAll H (xs ++ ys) (ds ++ es)
  | _, _, _, _, .nil, h => h
  | _, _, _, _, .cons a t, h => .cons a (t.app h)
theorem DatAll.ints {H : Hp} : ∀ (ns : List Int), DatAll H (ns.map V.int) (ns.map PyData.int)
  | [] => .nil
  | n :: r => .cons (.int n) (DatAll.ints r)
section
variable {X : Cx} {pins : List (Addr × Obj)} {σ : St} {H : Hp} {s : Shared}
/-- the one entry of a dict of one text key -/
theorem ent1 {P : Program} {w : World} {es : List DictEntry} {x : Str} {i : Int} {vs : List (Key × Value)} (rv : KV [((Sum.inr x : Key), V.int i)] vs) (p : Pairs (mixKind P w) es vs) :
    ∃ (h : Int) (t u : Tok), es = [{ hash := h, key := .str x t, val := .int i u }] := by
  cases rv with
  | cons r1 r2 =>
    cases r2
    obtain ⟨e1, u, e2⟩ := r1
    cases p with
    | cons k1 k2 k3 =>
      cases k3
      rename_i q e
      obtain ⟨eh, ek, ev⟩ := e
      have k1' : keyIs q.1 ek = true := k1
      have e1' : (Sum.inr x : Key) = q.1 := e1
      rw [← e1'] at k1'
      rcases keyIs_shape k1' with ⟨_, _, z, _⟩ | ⟨x', t, z, rfl⟩
      · cases z
      · cases z
        refine ⟨eh, t, u, ?_⟩
        have k2' : ev = q.2 := k2
        rw [k2', e2]
mutual
theorem Dat.reads (I : Inv X pins σ H s) : ∀ {x : V} {d : PyData} {u : Value}, Dat H x d → RelV x u → ∃ as, Reads s.heap u d as
  | _, _, _, .non, r => by cases r; exact ⟨_, .none⟩
  | _, _, _, .bl b, r => by cases r; exact ⟨_, .bool b⟩
  | _, _, _, .int i, r => by obtain ⟨t, rfl⟩ := r; exact ⟨_, .int i t⟩
  | _, _, _, .str x, r => by obtain ⟨t, rfl⟩ := r; exact ⟨_, .str x t⟩
  | _, _, _, .lst (a := a) e h, r => by
    cases r
    obtain ⟨_, its, n, rv, _, eo⟩ := I.lstM e
    obtain ⟨as, q⟩ := h.reads I rv
    exact ⟨_, .list eo rfl rfl (by simpa using q)⟩
  | _, _, _, .tup e h, r => by
    cases r
    obtain ⟨_, its, rv, o, h1, h2, n, h3⟩ := I.hok _ _ e
    obtain ⟨as, q⟩ := h.reads I rv
    exact ⟨_, .tuple h1 h2 h3 (by simpa using q)⟩
  | _, _, _, .dct e, r => by
    cases r
    obtain ⟨z, y, vs, rv, ob, es, ep, h1, h2, h3, _, h5, _⟩ := I.hok _ _ e
    cases rv
    have he : es.toList = [] := by
      cases hh : es.toList with
      | nil => rfl
      | cons x r => rw [hh] at h5; cases h5
    exact ⟨_, .dict (kvs := []) (as := []) (bs := []) h1 h2.1 h3 (by rw [he]; exact .nil) (by rw [he]; exact .nil)⟩
  | _, _, _, .dc1 e, r => by
    cases r
    obtain ⟨z, y, vs, rv, ob, es, ep, h1, h2, h3, _, h5, _⟩ := I.hok _ _ e
    obtain ⟨hh, t, u, he⟩ := ent1 rv h5
    exact ⟨_, .dict (kvs := [(_, _)]) h1 h2.1 h3 (by rw [he]; exact .cons (.str _ t) .nil) (by rw [he]; exact .cons (.int _ u) .nil)⟩
theorem DatAll.reads (I : Inv X pins σ H s) : ∀ {xs : List V} {ds : List PyData} {us : List Value}, DatAll H xs ds → Vals xs us → ∃ as, ReadsAll s.heap us ds as
  | _, _, _, .nil, r => by cases r; exact ⟨_, .nil⟩
  | _, _, _, .cons h t, r => by
    cases r with
    | cons r1 r2 =>
      obtain ⟨as, q1⟩ := h.reads I r1
      obtain ⟨bs, q2⟩ := t.reads I r2
      exact ⟨_, .cons q1 q2⟩
end
/-- each of some texts is no longer than the line -/
def AllFit (ds : List PyData) : Prop := ∀ t ∈ PyData.shownAll ds, t.length ≤ sizeLine
mutual
/-- what repr makes of it, within others -/
theorem Dat.rk (I : Inv X pins σ H s) : ∀ {x : V} {d : PyData} {u : Value}, Dat H x d → RelV x u → d.showable = true → d.shown.length ≤ sizeLine → ∃ bs, ReadAtMost s.heap d.depth bs ∧ ReprK X.prog X.w bs s.heap d.depth u d.shown
  | _, _, _, .non, r, _, _ => by
    cases r
    rw [PyData.shown_none]
    exact ⟨[], fun _ h => (nomatch h), ReprK.of_is ReprIs.none _ _ _⟩
  | _, _, _, .bl b, r, _, _ => by
    cases r
    rw [PyData.shown_bool]
    exact ⟨[], fun _ h => (nomatch h), ReprK.of_is (ReprIs.bool b) _ _ _⟩
  | _, _, _, .int i, r, hs, _ => by
    obtain ⟨t, rfl⟩ := r
    rw [PyData.shown_int]
    refine ⟨[], fun _ h => (nomatch h), ReprK.of_is (ReprIs.int t ?_) _ _ _⟩
    simpa [PyData.showable] using hs
  | _, _, _, .str x, r, _, hz => by
    obtain ⟨t, rfl⟩ := r
    rw [PyData.shown_str] at hz ⊢
    exact ⟨[], fun _ h => (nomatch h), ReprK.of_is (ReprIs.str x t hz) _ _ _⟩
  | _, _, _, .lst (a := a) (ds := ds) e h, r, hs, hz => by
    cases r
    obtain ⟨_, its, n, rv, _, eo⟩ := I.lstM e
    obtain ⟨as, q⟩ := h.reads I rv
    have rd : Reads s.heap (.ref a) (.list ds) (a :: as) := .list eo rfl rfl (by simpa using q)
    have hz2 : (listText (PyData.shownAll ds)).length ≤ sizeLine := by
      rw [PyData.shown] at hz
      exact hz
    obtain ⟨bs, hb, hk⟩ := h.rk I rv (by simpa [PyData.showable] using hs) fun t ht => Nat.le_trans (listText_mem_le ht) hz2
    have hlt : PyData.depthAll ds < (PyData.list ds).depth := by simp only [PyData.depth]; omega
    refine ⟨a :: bs, ReadAtMost.cons rd (Nat.le_of_lt hlt) hb, ?_⟩
    have hn := not_mem_of_deeper rd hlt hb
    rw [PyData.depth, PyData.shown]
    cases its with
    | nil =>
      cases q
      rw [PyData.shownAll, listText_nil]
      exact ReprK.listEmpty eo rfl rfl
    | cons y l =>
      refine ReprK.list eo rfl rfl hn ?_ fun i z ez => hk.item i z ?_
      · have := hk.length_eq
        simpa using this
      · simpa using ez
  | _, _, _, .tup (a := a) (ds := ds) e h, r, hs, hz => by
    cases r
    obtain ⟨_, its, rv, o, h1, h2, n, h3⟩ := I.hok _ _ e
    obtain ⟨as, q⟩ := h.reads I rv
    have rd : Reads s.heap (.ref a) (.tuple ds) as := .tuple h1 h2 h3 (by simpa using q)
    have hz2 : (tupleText (PyData.shownAll ds)).length ≤ sizeLine := by
      rw [PyData.shown] at hz
      exact hz
    obtain ⟨bs, hb, hk⟩ := h.rk I rv (by simpa [PyData.showable] using hs) fun t ht => Nat.le_trans (tupleText_mem_le ht) hz2
    have hlt : PyData.depthAll ds < (PyData.tuple ds).depth := by simp only [PyData.depth]; omega
    refine ⟨a :: bs, ReadAtMost.cons rd (Nat.le_of_lt hlt) hb, ?_⟩
    have hn := not_mem_of_deeper rd hlt hb
    rw [PyData.depth, PyData.shown]
    exact ReprK.tuple h1 h2 h3 hn (by simpa using hk)
  | _, _, _, .dct (a := a) e, r, hs, hz => by
    obtain ⟨as, rd⟩ := (Dat.dct e).reads I r
    cases r
    obtain ⟨z, y, vs, rv, ob, es, ep, h1, h2, h3, _, h5, _⟩ := I.hok _ _ e
    cases rv
    have he : es.toList = [] := by
      cases hh : es.toList with
      | nil => rfl
      | cons x r => rw [hh] at h5; cases h5
    have hlt : 0 < (PyData.dict []).depth := by simp only [PyData.depth]; omega
    refine ⟨[a], ReadAtMost.cons (n := 0) rd (Nat.zero_le _) (fun _ h => (nomatch h)), ?_⟩
    rw [PyData.depth, PyData.shown]
    have hd := ReprK.dict (prog := X.prog) (w := X.w) (as := []) (d := PyData.depthKv []) (ps := []) h1 h2.1 h3 y (fun h => (nomatch h)) (by rw [he]; exact .nil)
    simpa [PyData.shownKv] using hd
  | _, _, _, .dc1 (a := a) (x := x) (i := i) e, r, hs, hz => by
    obtain ⟨as, rd⟩ := (Dat.dc1 e).reads I r
    cases r
    obtain ⟨z, y, vs, rv, ob, es, ep, h1, h2, h3, _, h5, _⟩ := I.hok _ _ e
    obtain ⟨hh, t, u, he⟩ := ent1 rv h5
    refine ⟨[a], ReadAtMost.cons (n := 0) rd (Nat.zero_le _) (fun _ h => (nomatch h)), ?_⟩
    have hs2 : (PyData.int i).showable = true := by simpa [PyData.showable, PyData.showableKv] using hs
    have hz2 : (dictText [(PyData.str x).shown ++ ": " ++ (PyData.int i).shown]).length ≤ sizeLine := by simpa [PyData.shown, PyData.shownKv] using hz
    have hz3 : ((PyData.str x).shown ++ ": " ++ (PyData.int i).shown).length ≤ sizeLine := Nat.le_trans (dictText_mem_le List.mem_cons_self) hz2
    have hz4 : (PyData.str x).shown.length ≤ sizeLine := by
      rw [Str.length_append, Str.length_append] at hz3
      omega
    rw [PyData.depth, PyData.shown]
    have hd := ReprK.dict (prog := X.prog) (w := X.w) (as := []) (d := PyData.depthKv [(.str x, .int i)]) (ps := [(PyData.str x).shown ++ ": " ++ (PyData.int i).shown]) h1 h2.1 h3 y (fun h => (nomatch h)) (by
      rw [he]
      refine .cons ?_ ?_ .nil
      · rw [PyData.shown_str] at hz4 ⊢
        exact ReprK.of_is (ReprIs.str x t hz4) _ _ _
      · rw [PyData.shown_int]
        refine ReprK.of_is (ReprIs.int u ?_) _ _ _
        simpa [PyData.showable] using hs2)
    simpa [PyData.shownKv] using hd
theorem DatAll.rk (I : Inv X pins σ H s) : ∀ {xs : List V} {ds : List PyData} {us : List Value}, DatAll H xs ds → Vals xs us → PyData.showableAll ds = true → AllFit ds → ∃ bs, ReadAtMost s.heap (PyData.depthAll ds) bs ∧ ReprAllK X.prog X.w bs s.heap (PyData.depthAll ds) us (PyData.shownAll ds)
  | _, _, _, .nil, r, _, _ => by
    cases r
    rw [PyData.shownAll]
    exact ⟨[], fun _ h => (nomatch h), .nil⟩
  | _, _, _, .cons (d := d) (ds := ds) h t, r, hs, hz => by
    cases r with
    | cons r1 r2 =>
      have hs' : d.showable = true ∧ PyData.showableAll ds = true := by simpa [PyData.showableAll] using hs
      have hz' : ∀ t ∈ d.shown :: PyData.shownAll ds, t.length ≤ sizeLine := by
        have := hz
        unfold AllFit at this
        rw [PyData.shownAll] at this
        exact this
      obtain ⟨b1, m1, k1⟩ := h.rk I r1 hs'.1 (hz' _ List.mem_cons_self)
      obtain ⟨b2, m2, k2⟩ := t.rk I r2 hs'.2 fun t ht => hz' t (List.mem_cons_of_mem _ ht)
      have l1 : d.depth ≤ PyData.depthAll (d :: ds) := by simp only [PyData.depthAll]; omega
      have l2 : PyData.depthAll ds ≤ PyData.depthAll (d :: ds) := by simp only [PyData.depthAll]; omega
      refine ⟨b1 ++ b2, (m1.mono l1).append (m2.mono l2), ?_⟩
      rw [PyData.shownAll]
      exact .cons ((k1.more fun b hb => List.mem_append_left b2 hb).level_le l1) (k2.more_le (fun b hb => List.mem_append_right b1 hb) l2)
end
/-- repr(e), e data -/
theorem call_repr (hu : X.A.units + 64 < cLine) (hg : X.A.guards = some []) : CallR X (.builtin "repr") (fun vs H Q => ∃ x d, vs = [x] ∧ Dat H x d ∧ d.showable = true ∧ d.depth ≤ 8 ∧ d.shown.length ≤ sizeLine ∧ Q (.str d.shown) H) := by
  intro pins s σ H xs us Q I r h
  obtain ⟨x, d, rfl, hd, hs, hp, hz, q⟩ := h
  obtain ⟨u, rfl, ru⟩ := r.one
  have fin : ∀ (h' : Heap) (t : Tok) (tk : Nat), (∀ b o, s.heap.get? b = some o → h'.get? b = some o) → EP X pins σ Q (.str d.shown t) { s with heap := h', toks := tk } := fun h' t tk hk => ⟨.str d.shown, H, I.kept hk, ⟨t, rfl⟩, q⟩
  cases hd with
  | non =>
    cases ru
    rw [PyData.shown_none] at fin
    exact PySem.P.repr_of_none (fin s.heap _ _ fun _ _ e => e)
  | bl b =>
    cases ru
    rw [PyData.shown_bool] at fin
    exact PySem.P.repr_of_bool (fin s.heap _ _ fun _ _ e => e)
  | int i =>
    obtain ⟨t, rfl⟩ := ru
    rw [PyData.shown_int] at fin
    exact PySem.P.repr_of_int (by simpa [PyData.showable] using hs) (fin s.heap _ _ fun _ _ e => e)
  | str x =>
    obtain ⟨t, rfl⟩ := ru
    rw [PyData.shown_str] at fin hz
    exact PySem.P.repr_of_str (fin s.heap _ _ fun _ _ e => e) hz
  | lst e h =>
    rename_i a xs ds
    cases ru
    obtain ⟨_, its, n, rv, _, eo⟩ := I.lstM e
    obtain ⟨as, q2⟩ := h.reads I rv
    have rd : Reads s.heap (.ref a) (.list ds) (a :: as) := .list eo rfl rfl (by simpa using q2)
    rw [PyData.shown] at hz fin
    rw [PyData.depth] at hp
    obtain ⟨bs, hb, hk⟩ := h.rk I rv (by simpa [PyData.showable] using hs) fun t ht => Nat.le_trans (listText_mem_le ht) hz
    have hn := not_mem_of_deeper rd (by simp only [PyData.depth]; omega) hb
    refine call_repr_slot (by omega) ⟨_, eo, rfl⟩ F.slot_list_repr.toG ?_
    cases its with
    | nil =>
      cases q2
      rw [PyData.shownAll, listText_nil] at fin
      exact call_list_repr_empty ⟨_, eo, rfl⟩ eo rfl ⟨_, _, rfl, fin s.heap _ _ fun _ _ e => e⟩
    | cons y l =>
      refine call_list_reprK eo rfl rfl hn ?_ (fun i z ez => hk.item i z ?_) hg (fun b _ => Clear.nil b) ?_ (fun _ _ e => e) (fun h' u tk hk' => ⟨_, _, rfl, fin h' u tk hk'⟩) hz
      · have := hk.length_eq
        simpa using this
      · simpa using ez
      · show X.A.units + 1 + (PyData.depthAll ds + 1) < cLine
        omega
  | tup e h =>
    rename_i a xs ds
    cases ru
    obtain ⟨_, its, rv, o, h1, h2, n, h3⟩ := I.hok _ _ e
    obtain ⟨as, q2⟩ := h.reads I rv
    have rd : Reads s.heap (.ref a) (.tuple ds) as := .tuple h1 h2 h3 (by simpa using q2)
    rw [PyData.shown] at hz fin
    rw [PyData.depth] at hp
    obtain ⟨bs, hb, hk⟩ := h.rk I rv (by simpa [PyData.showable] using hs) fun t ht => Nat.le_trans (tupleText_mem_le ht) hz
    have hn := not_mem_of_deeper rd (by simp only [PyData.depth]; omega) hb
    refine call_repr_slot (by omega) ⟨_, h1, h2⟩ F.slot_tuple_repr (call_tuple_reprK h1 h2 h3 hn (by simpa using hk) hg (fun b _ => Clear.nil b) ?_ (fun _ _ e => e) (fun h' u tk hk' => ⟨_, _, rfl, fin h' u tk hk'⟩) hz)
    show X.A.units + 1 + (PyData.depthAll ds + 1) < cLine
    omega
  | dct e =>
    rename_i a
    cases ru
    obtain ⟨z, y, vs, rv, ob, es, ep, h1, h2, h3, _, h5, _⟩ := I.hok _ _ e
    cases rv
    have he : es.toList = [] := by
      cases hh : es.toList with
      | nil => rfl
      | cons x r => rw [hh] at h5; cases h5
    have ht : (PyData.dict []).shown = dictText [] := by simp only [PyData.shown, PyData.shownKv]
    rw [ht] at hz fin
    refine call_repr_slot (by omega) ⟨_, h1, h2.1⟩ F.slot_dict_repr (call_dict_reprK (as := []) (d := 0) (ps := []) h1 h2.1 h3 y (fun h => (nomatch h)) (by rw [he]; exact .nil) hg (fun b _ => Clear.nil b) ?_ (fun _ _ e => e) (fun h' u tk hk' => ⟨_, _, rfl, fin h' u tk hk'⟩) hz)
    show X.A.units + 1 + (0 + 1) < cLine
    omega
  | dc1 e =>
    rename_i a x i
    cases ru
    obtain ⟨z, y, vs, rv, ob, es, ep, h1, h2, h3, _, h5, _⟩ := I.hok _ _ e
    obtain ⟨hh, t, u, he⟩ := ent1 rv h5
    have hs2 : (PyData.int i).showable = true := by simpa [PyData.showable, PyData.showableKv] using hs
    have ht : (PyData.dict [(.str x, .int i)]).shown = dictText [(PyData.str x).shown ++ ": " ++ (PyData.int i).shown] := by simp only [PyData.shown, PyData.shownKv]
    rw [ht] at hz fin
    have hz3 : ((PyData.str x).shown ++ ": " ++ (PyData.int i).shown).length ≤ sizeLine := Nat.le_trans (dictText_mem_le List.mem_cons_self) hz
    have hz4 : (PyData.str x).shown.length ≤ sizeLine := by
      rw [Str.length_append, Str.length_append] at hz3
      omega
    refine call_repr_slot (by omega) ⟨_, h1, h2.1⟩ F.slot_dict_repr (call_dict_reprK (as := []) (d := 0) (ps := [(PyData.str x).shown ++ ": " ++ (PyData.int i).shown]) h1 h2.1 h3 y (fun h => (nomatch h)) (by
      rw [he]
      refine .cons ?_ ?_ .nil
      · rw [PyData.shown_str] at hz4 ⊢
        exact ReprK.of_is (ReprIs.str x t hz4) _ _ _
      · rw [PyData.shown_int]
        refine ReprK.of_is (ReprIs.int u ?_) _ _ _
        simpa [PyData.showable] using hs2) hg (fun b _ => Clear.nil b) ?_ (fun _ _ e => e) (fun h' u tk hk' => ⟨_, _, rfl, fin h' u tk hk'⟩) hz)
    show X.A.units + 1 + (0 + 1) < cLine
    omega
end
end L2
/-! things: data of small size on a heap, also with a part of the heap left out; list(range(a, b)) of great ends -/
namespace L2
open PySem PySem.Spec PyProof.Rows
/-- a heap without what stands in S -/
noncomputable def msk (S : Addr → Prop) (H : Hp) : Hp := fun b => open Classical in if S b then none else H b
theorem msk_in {S : Addr → Prop} {H : Hp} {b : Addr} (h : ¬ S b) : msk S H b = H b := if_neg h
theorem msk_some {S : Addr → Prop} {H : Hp} {b : Addr} {o : HO} (h : msk S H b = some o) : ¬ S b ∧ H b = some o := by
  unfold msk at h
  split at h
  · cases h
  · exact ⟨by assumption, h⟩
theorem msk_le {S : Addr → Prop} {H : Hp} : Same (msk S H) H := fun _ _ h => (msk_some h).2
theorem msk_ex {S : Addr → Prop} {H H' : Hp} (x : Ex S H H') : Same (msk S H) (msk S H') := fun b o h => by
  obtain ⟨n, e⟩ := msk_some h
  rw [msk_in n]
  exact x b o n e
theorem msk_same {S : Addr → Prop} {H H' : Hp} (g : Same H H') : Same (msk S H) (msk S H') := fun b o h => by
  obtain ⟨n, e⟩ := msk_some h
  rw [msk_in n]
  exact g b o e
/-- data of at most n parts and k levels, of short ints and texts -/
structure Fine (n k : Nat) (d : PyData) : Prop where
  show_ : d.showable = true
  leaf : d.leavesShort 40 = true
  bulk : d.bulk ≤ n
  deep : d.depth ≤ k
/-- a thing at a value -/
def Th (H : Hp) (v : V) (n k : Nat) : Prop := ∃ d, Dat H v d ∧ Fine n k d
theorem Th.same {H H' : Hp} {v : V} {n k : Nat} (h : Th H v n k) (g : Same H H') : Th H' v n k := by
  obtain ⟨d, a, b⟩ := h
  exact ⟨d, a.same g, b⟩
theorem Th.mono {H : Hp} {v : V} {n k n' k' : Nat} (h : Th H v n k) (hn : n ≤ n') (hk : k ≤ k') : Th H v n' k' := by
  obtain ⟨d, a, b⟩ := h
  exact ⟨d, a, b.show_, b.leaf, Nat.le_trans b.bulk hn, Nat.le_trans b.deep hk⟩
theorem Fine.len {n k : Nat} {d : PyData} (h : Fine n k d) (hn : n ≤ 10000) : d.shown.length ≤ sizeLine := by
  have q := PyData.shown_le_bulk 40 (by decide) d h.leaf
  have b := h.bulk
  have e : sizeLine = 2 ^ 24 := rfl
  rw [e]
  omega
theorem Th.non {H : Hp} {n k : Nat} : Th H .non n k := ⟨_, .non, rfl, rfl, Nat.zero_le _, Nat.zero_le _⟩
theorem Th.bl {H : Hp} {n k : Nat} (b : Bool) : Th H (.bl b) n k := ⟨_, .bl b, rfl, rfl, Nat.zero_le _, Nat.zero_le _⟩
theorem Th.int {H : Hp} {n k : Nat} {i : Int} (h : i.natAbs < 10 ^ 30) : Th H (.int i) n k := by
  refine ⟨_, .int i, ?_, ?_, Nat.zero_le _, Nat.zero_le _⟩
  · rw [PyData.showable]
    refine decide_eq_true ?_
    by_cases z : i.natAbs = 0
    · rw [z]; decide
    · exact (Nat.log2_lt z).mpr (Nat.lt_trans h (Nat.lt_of_lt_of_le (show 10 ^ 30 < 2 ^ 100 by decide) (Nat.pow_le_pow_right (by decide) (by decide))))
  · have q := int_text_length_le10 (k := 30) (by decide) h
    simp only [PyData.leavesShort, PyData.shown_int, decide_eq_true_eq]
    rw [PySem.ofString_length]
    omega
theorem Th.str {H : Hp} {n k : Nat} {x : Str} (h1 : x.cps.toList.all (fun c => decide (c < 16 ^ 8)) = true) (h2 : x.cps.size ≤ n) : Th H (.str x) n k := ⟨_, .str x, rfl, by rw [PyData.leavesShort]; exact h1, h2, Nat.zero_le _⟩
/-- all of some values are things -/
theorem things {H : Hp} {n k : Nat} : ∀ {xs : List V}, (∀ x ∈ xs, Th H x n k) → ∃ ds, DatAll H xs ds ∧ PyData.showableAll ds = true ∧ PyData.leavesShortAll 40 ds = true ∧ PyData.bulkAll ds ≤ xs.length * (n + 1) ∧ PyData.depthAll ds ≤ k
  | [], _ => ⟨[], .nil, rfl, rfl, Nat.zero_le _, Nat.zero_le _⟩
  | x :: r, h => by
    obtain ⟨d, q, f⟩ := h x List.mem_cons_self
    obtain ⟨ds, q2, a, b, c, e⟩ := things fun y hy => h y (List.mem_cons_of_mem _ hy)
    refine ⟨d :: ds, .cons q q2, ?_, ?_, ?_, ?_⟩
    · rw [PyData.showableAll, f.show_, a]; rfl
    · rw [PyData.leavesShortAll, f.leaf, b]; rfl
    · have := f.bulk
      rw [PyData.bulkAll, List.length_cons, Nat.succ_mul]
      omega
    · have := f.deep
      rw [PyData.depthAll]
      omega
theorem Th.lst {H : Hp} {a : Addr} {xs : List V} {n k : Nat} (e : H a = some (.lst xs)) (h : ∀ x ∈ xs, Th H x n k) : Th H (.ref a) (xs.length * (n + 1)) (k + 1) := by
  obtain ⟨ds, q, a1, a2, a3, a4⟩ := things h
  refine ⟨_, .lst e q, ?_, ?_, ?_, ?_⟩
  · rw [PyData.showable]; exact a1
  · rw [PyData.leavesShort]; exact a2
  · rw [PyData.bulk]; exact a3
  · rw [PyData.depth]; omega
theorem Th.tup {H : Hp} {a : Addr} {xs : List V} {n k : Nat} (e : H a = some (.tup xs)) (h : ∀ x ∈ xs, Th H x n k) : Th H (.ref a) (xs.length * (n + 1)) (k + 1) := by
  obtain ⟨ds, q, a1, a2, a3, a4⟩ := things h
  refine ⟨_, .tup e q, ?_, ?_, ?_, ?_⟩
  · rw [PyData.showable]; exact a1
  · rw [PyData.leavesShort]; exact a2
  · rw [PyData.bulk]; exact a3
  · rw [PyData.depth]; omega
theorem Th.dc1 {H : Hp} {a : Addr} {n k : Nat} {x : Str} {i : Int} (e : H a = some (.dK [(Sum.inr x, .int i)])) (hi : i.natAbs < 10 ^ 30) (h1 : x.cps.toList.all (fun c => decide (c < 16 ^ 8)) = true) (h2 : x.cps.size + 2 ≤ n) : Th H (.ref a) n (k + 1) := by
  obtain ⟨d1, q1, f1⟩ := Th.int (H := H) (n := 0) (k := 0) hi
  cases q1
  refine ⟨_, .dc1 e, ?_, ?_, ?_, ?_⟩
  · have := f1.show_
    simp only [PyData.showable, PyData.showableKv] at this ⊢
    simpa using this
  · have := f1.leaf
    simp only [PyData.leavesShort, PyData.leavesShortKv] at this ⊢
    simp [this]
    simpa using h1
  · simp only [PyData.bulk, PyData.bulkKv]
    omega
  · simp [PyData.depth, PyData.depthKv]
theorem Th.dct {H : Hp} {a : Addr} {n k : Nat} (e : H a = some (.dK [])) : Th H (.ref a) n (k + 1) := ⟨_, .dct e, rfl, rfl, Nat.zero_le _, by simp [PyData.depth, PyData.depthKv]⟩
theorem pick_any {xs : List V} {r : Int} (h0 : 0 ≤ r) (h1 : r < (xs.length : Nat)) : ∃ v, atI xs r = some v ∧ v ∈ xs := by
  have hj : r.toNat < xs.length := by omega
  have e : r = ((r.toNat : Nat) : Int) := by omega
  refine ⟨xs[r.toNat], ?_, List.getElem_mem hj⟩
  have q : atI xs ((r.toNat : Nat) : Int) = some xs[r.toNat] := atI_nat (List.getElem?_eq_getElem hj)
  rw [← e] at q
  exact q
/-! what is asked of data -/
def tyD : PyData → String
  | .none => "NoneType" | .bool _ => "bool" | .int _ => "int" | .str _ => "str" | .list _ => "list" | .tuple _ => "tuple" | .dict _ => "dict"
theorem Dat.ty {K : PySem.W.Frag} {H : Hp} {v : V} {d : PyData} (h : Dat H v d) : TyOf K H v (.type (tyD d)) := by
  cases h with
  | non => exact .non
  | bl b => exact .bl b
  | int i => exact .int i
  | str x => exact .str x
  | lst e _ => exact .lst e
  | tup e _ => exact .tup e
  | dct e => exact .dK e
  | dc1 e => exact .dK e
def isL : PyData → Bool
  | .list _ => true
  | _ => false
def isT : PyData → Bool
  | .tuple _ => true
  | _ => false
def isI : PyData → Bool
  | .int _ => true
  | .bool _ => true
  | _ => false
def isB : PyData → Bool
  | .bool _ => true
  | _ => false
def isW : PyData → Bool
  | .int _ => true
  | _ => false
theorem kit_l (K : PySem.W.Frag) (d : PyData) : PySem.W.kitOne K (.type (tyD d)) (.type "list") = some (isL d) := by cases d <;> rfl
theorem kit_t (K : PySem.W.Frag) (d : PyData) : PySem.W.kitOne K (.type (tyD d)) (.type "tuple") = some (isT d) := by cases d <;> rfl
theorem kit_i (K : PySem.W.Frag) (d : PyData) : PySem.W.kitOne K (.type (tyD d)) (.type "int") = some (isI d) := by cases d <;> rfl
theorem kit_b (K : PySem.W.Frag) (d : PyData) : PySem.W.kitOne K (.type (tyD d)) (.type "bool") = some (isB d) := by cases d <;> rfl
def riseGo : Int → List PyData → Bool
  | _, [] => true
  | b, .int n :: r => decide (b < n) && riseGo n r
  | _, _ :: _ => false
def riseD (few : Int) : PyData → Bool
  | .list ds => decide (few ≤ (ds.length : Int)) && (decide (ds.length ≤ 10) && riseGo (-1) ds)
  | _ => false
def planD : PyData → Bool
  | .tuple [x, y] => riseD 1 x && riseD 0 y
  | _ => false
theorem DatAll.len {H : Hp} : ∀ {xs : List V} {ds : List PyData}, DatAll H xs ds → xs.length = ds.length
  | _, _, .nil => rfl
  | _, _, .cons _ h => by rw [List.length_cons, List.length_cons, h.len]
theorem DatAll.at {H : Hp} : ∀ {xs : List V} {ds : List PyData} (_ : DatAll H xs ds) {i : Nat} {x : V}, xs[i]? = some x → ∃ d, ds[i]? = some d ∧ Dat H x d
  | _, _, .nil, i, x, h => nomatch h
  | _, _, .cons q _, 0, x, h => by cases h; exact ⟨_, rfl, q⟩
  | _, _, .cons _ t, i + 1, x, h => by
    obtain ⟨d, e, q⟩ := t.at (i := i) (x := x) h
    exact ⟨d, e, q⟩
/-! list(range(a, b)), great ends -/
section
variable {X : Cx}
theorem rng_listW {pins : List (Addr × Obj)} {σ : St} {H : Hp} {s : Shared} {Q : VK} {E : Value → Shared → Prop} {lo hi : Int} {t u v : Tok} {tk : Nat} (hcalm : X.calm = true) (I : Inv X pins σ H s) (h1 : -(2 ^ 61) ≤ lo) (h2 : lo < 2 ^ 61) (h3 : lo - 1000 ≤ hi) (h4 : hi < lo + 1000)
    (q : ∀ p, H p = none → Q (.ref p) (upd H p (.lst ((List.range (hi - lo).toNat).map fun i : Nat => V.int (lo + i))))) :
    wpAny (model X.prog X.w) X.A (call (.type "list") [.ref s.heap.objs.size]) (EP X pins σ Q) E { s with heap := s.heap.push { cls := .type "range", data := .fields #[.int lo t, .int hi u, .int 1 v] }, toks := tk } := by
  have I1 : Inv X pins σ H { s with heap := s.heap.push { cls := .type "range", data := .fields #[.int lo t, .int hi u, .int 1 v] }, toks := tk } := I.kept fun b o e => Heap.get?_push_of_some _ e
  refine call_list_range (n := (hi - lo).toNat) (I.ok.hd hcalm) (IsRange.new ..) (small_one (by omega) (by omega) (by omega) (by omega)) (by rw [rangeSize_one]; split <;> omega) (by omega) fun h' tk' acc' c' hk hS hacc => ?_
  refine ⟨.ref _, _, I1.laid (t' := tk') hk (Nat.le_refl _) (show ObjOk X.prog X.w _ h' _ (.lst ((List.range (hi - lo).toNat).map fun i : Nat => V.int (lo + i))) from ⟨?_, acc'.toList, c', ?_, by simpa using hS⟩), rfl, q _ (I1.hok.fresh (Nat.le_refl _))⟩
  · rw [List.length_map, List.length_range]
    exact Nat.le_trans (show (hi - lo).toNat ≤ 2 ^ 22 by omega) (by decide)
  · have key : ∀ (n : Nat) (us : List Value) (f : Nat → Int), us.length = n → (∀ (j : Nat) (u : Value), us[j]? = some u → ∃ t, u = Value.int (f j) t) → Vals ((List.range n).map fun i : Nat => V.int (f i)) us := by
      intro n
      induction n with
      | zero => intro us f hl _; have : us = [] := List.eq_nil_of_length_eq_zero hl; subst this; exact .nil
      | succ n ih =>
        intro us f hl hu
        cases us with
        | nil => cases hl
        | cons u0 r =>
          rw [List.range_succ_eq_map, List.map_cons, List.map_map]
          refine .cons (hu 0 u0 rfl) ?_
          exact ih r (fun i => f (i + 1)) (by simpa using hl) fun j w hw => hu (j + 1) w (by simpa using hw)
    refine key _ _ (fun i => lo + i) (by rw [Array.length_toList]; exact hacc.1) fun j w hw => ?_
    obtain ⟨t, e⟩ := hacc.2 j w (by rw [← Array.getElem?_toList]; exact hw)
    exact ⟨t, by rw [e, Int.mul_one]⟩
def tLRngW (ta : TA) : TE := fun σ H Q => ta σ H fun vs H1 => ∃ i j, vs = [.int i, .int j] ∧ (-(2 ^ 61) ≤ i ∧ i < 2 ^ 61 ∧ i - 1000 ≤ j ∧ j < i + 1000) ∧ ∀ p, H1 p = none → Q (.ref p) (upd H1 p (.lst ((List.range (j - i).toNat).map fun k : Nat => V.int (i + k))))
theorem pe_list_rangeW {a b : Expr} {ta : TA} {p pos p' pos' : Pos} (hcalm : X.calm = true) (hg : Gl X "range") (hm : X.mg "range" = none) (hg' : Gl X "list") (hm' : X.mg "list" = none) (ha : PA X [a, b] ta)
    (hs : starEach [a, b] X.env = [(false, eval a X.env), (false, eval b X.env)] := by rfl) (hs2 : starEach [b] X.env = [(false, eval b X.env)] := by rfl)
    (hs' : starEach [.Call (.Name "range" p) [a, b] [] pos] X.env = [(false, eval (.Call (.Name "range" p) [a, b] [] pos) X.env)] := by rfl) :
    PE X (.Call (.Name "list" p') [.Call (.Name "range" p) [a, b] [] pos] [] pos') (tLRngW ta) := by
  intro pins s σ H Q I h
  refine Call_ (ld_blt I hg' hm' boot_list (PyProof.Rows.callWith_type1 ?_ hs' rfl))
  rw [hs']
  show wpAny _ _ (spliced ((false, eval (.Call (.Name "range" p) [a, b] [] pos) X.env) :: [])) _ _ s
  refine Calls.spliced_cons (Call_ (ld_blt I hg hm boot_range (PyProof.Rows.callWith_type1 (thn (ha pos pins s σ H _ I h) fun us s1 ⟨vs, H1, I1, r1, q1⟩ => ?_) (by rw [hs, hs2]) (by rw [hs2]; rfl))))
  obtain ⟨i, j, rfl, ⟨q1, q2, q3, q4⟩, q⟩ := q1
  obtain ⟨u, v, rfl, ⟨t, rfl⟩, ⟨t', rfl⟩⟩ := r1.two
  exact call_range_2 (Calls.spliced_nil (rng_listW hcalm I1 q1 q2 q3 q4 q))
end
end L2
/-! str(int) -/
namespace L2
open PySem PySem.Spec PyProof.Rows
theorem lg2 {i : Int} (h : i.natAbs < 10 ^ 30) : i.natAbs.log2 < 1920 := by
  by_cases z : i.natAbs = 0
  · rw [z]; decide
  · exact (Nat.log2_lt z).mpr (Nat.lt_trans h (Nat.lt_of_lt_of_le (show 10 ^ 30 < 2 ^ 100 by decide) (Nat.pow_le_pow_right (by decide) (by decide))))
theorem call_strI {X : Cx} : CallR X (.type "str") (fun vs H Q => ∃ i : Int, vs = [.int i] ∧ i.natAbs < 10 ^ 30 ∧ Q (.str (toString i)) H) := by
  intro pins s σ H vs us Q I r ⟨i, e, h, q⟩
  subst e
  cases r with
  | cons r1 r2 =>
    cases r2
    obtain ⟨t, rfl⟩ := r1
    exact PySem.P.str_of_int (lg2 h) ⟨.str (toString i), H, I.tok _, ⟨_, rfl⟩, q⟩
theorem Th.strI {H : Hp} {n k : Nat} {i : Int} (h : i.natAbs < 10 ^ 30) (hn : 40 ≤ n) : Th H (.str (toString i)) n k := by
  refine Th.str ?_ ?_
  · rw [PySem.Str.ofString_eq_toList]
    show ((((toString i).toList.map Char.toNat).toArray).toList.all fun c => decide (c < 16 ^ 8)) = true
    rw [List.toList_toArray, List.all_map, List.all_eq_true]
    intro c _
    exact decide_eq_true (Nat.lt_of_lt_of_le c.val.toNat_lt (by decide))
  · have q := int_text_length_le10 (k := 30) (by decide) h
    have q2 : (Str.ofString (toString i)).length = (toString i).length := PySem.ofString_length _
    have q3 : (Str.ofString (toString i)).cps.size = (Str.ofString (toString i)).length := rfl
    omega
end L2
/-! texts: slices -/
namespace L2
open PySem PySem.Spec PyProof.Rows
section
variable {X : Cx}
theorem part_of {v : Value} {lo : Option Int} (h : IsPart v lo) : ∃ l : Option (Int × Tok), v = partValue l ∧ l.map (·.1) = lo := by
  cases h with
  | none => exact ⟨none, rfl, rfl⟩
  | int i t => exact ⟨some (i, t), rfl, rfl⟩
theorem sl_str : SlR X (fun x lo hi H Q => ∃ z : Str, x = .str z ∧ z.length ≤ sizeLine ∧ Q (.str (Txt.slice z lo hi)) H) := by
  intro pins s σ H x v vl vu lo hi sl Q I rx hs pl pu h
  obtain ⟨z, rfl, hz, q⟩ := h
  obtain ⟨t, rfl⟩ := rx
  refine ⟨"str", _, F.slot_str_getitem.lookup, typeIs_str s z t, ?_⟩
  obtain ⟨l, rfl, el⟩ := part_of pl
  obtain ⟨u, rfl, eu⟩ := part_of pu
  refine wpAny_getItem_str_slice (l := l) (u := u) (st := none) hs rfl ?_
  subst el eu
  exact PySem.post_val_or_str ⟨Nat.le_trans (Txt.slice_le z _ _) hz, fun t' k => ⟨.str _, H, I.tok k, ⟨_, rfl⟩, q⟩⟩
/-- which signs stand in a slice -/
theorem slice_mem {z : Str} {lo hi : Option Int} {c : Nat} (h : c ∈ (Txt.slice z lo hi).cps.toList) : c ∈ z.cps.toList := by
  unfold Txt.slice at h
  split at h
  · exact h
  · simp only [List.mem_filterMap] at h
    obtain ⟨i, _, e⟩ := h
    rw [← Array.getElem?_toList] at e
    exact List.mem_of_getElem? e
theorem mt_upper : MtR X "str.upper" (fun x xs H Q => ∃ z : Str, x = .str z ∧ xs = [] ∧ Builtin.Str.tooLong (Txt.upper z).length = false ∧ Q (.str (Txt.upper z)) H) := by
  intro pins s σ H x xs v us Q I rx rs h
  obtain ⟨z, rfl, rfl, hf, q⟩ := h
  obtain ⟨t, rfl⟩ := rx
  cases rs
  exact SC.upper hf ⟨.str _, H, I.tok _, ⟨_, rfl⟩, q⟩
theorem vals_strs : ∀ {ws : List Str} {us : List Value}, Vals (ws.map V.str) us → ∃ l : List (Str × Tok), us = strValues l ∧ l.map (·.1) = ws
  | [], _, .nil => ⟨[], rfl, rfl⟩
  | w :: ws, _, .cons r rs => by
    obtain ⟨t, rfl⟩ := r
    obtain ⟨l, rfl, e⟩ := vals_strs rs
    exact ⟨(w, t) :: l, rfl, by rw [List.map_cons, e]⟩
theorem mt_join : MtR X "str.join" (fun x xs H Q => ∃ (z : Str) (D : Addr) (ws : List Str), x = .str z ∧ xs = [.ref D] ∧ SqL X.K H D (ws.map V.str) ∧ JoinOk z ws = true ∧ Q (.str (Txt.join z ws)) H) := by
  intro pins s σ H x xs v us Q I rx rs h
  obtain ⟨z, D, ws, rfl, rfl, hD, hj, q⟩ := h
  obtain ⟨t, rfl⟩ := rx
  obtain ⟨u, rfl, ru⟩ := rs.one
  cases ru
  obtain ⟨its, r, ht, _⟩ := I.list hD
  obtain ⟨l, rfl, e⟩ := vals_strs r
  exact SC.join ht.isList e hj fun t' k => ⟨.str _, H, I.tok k, ⟨_, rfl⟩, q⟩
end
end L2
/-! texts told by their signs and their length alone -/
namespace L2
open PySem PySem.Spec PyProof.Rows
/-- a text of at most n signs, none too great -/
structure Tx (n : Nat) (z : Str) : Prop where
  c : ∀ x ∈ z.cps.toList, x < 16 ^ 8
  n : z.cps.size ≤ n
theorem Tx.len {n : Nat} {z : Str} (h : Tx n z) : z.length ≤ n := h.n
theorem Tx.mono {n m : Nat} {z : Str} (h : Tx n z) (l : n ≤ m) : Tx m z := ⟨h.c, Nat.le_trans h.n l⟩
theorem Tx.fit {n : Nat} {z : Str} (h : Tx n z) (l : n ≤ 1000) : z.length ≤ sizeLine := Nat.le_trans h.n (Nat.le_trans l (by decide))
theorem Tx.slice {n : Nat} {z : Str} (h : Tx n z) (lo hi : Option Int) : Tx n (Txt.slice z lo hi) := ⟨fun x hx => h.c x (slice_mem hx), Nat.le_trans (Txt.slice_le z lo hi) h.n⟩
theorem Tx.app {n m : Nat} {z y : Str} (h : Tx n z) (g : Tx m y) : Tx (n + m) (z ++ y) := by
  refine ⟨fun x hx => ?_, ?_⟩
  · have hx' : x ∈ (z.cps ++ y.cps).toList := hx
    rw [Array.toList_append] at hx'
    rcases List.mem_append.mp hx' with q | q
    · exact h.c x q
    · exact g.c x q
  · show (z.cps ++ y.cps).size ≤ n + m
    rw [Array.size_append]
    exact Nat.add_le_add h.n g.n
theorem Tx.sign {c : Nat} (h : c < 16 ^ 8) : Tx 1 ⟨#[c]⟩ := ⟨fun x hx => by
  have e : x = c := by simpa using hx
  rw [e]
  exact h, Nat.le_refl _⟩
theorem Tx.th {H : Hp} {n k m : Nat} {z : Str} (h : Tx m z) (l : m ≤ n) : Th H (.str z) n k := Th.str (List.all_eq_true.mpr fun x hx => decide_eq_true (h.c x hx)) (Nat.le_trans h.n l)
theorem Tx.lit {n : Nat} {z : Str} (h : (z.cps.toList.all fun c => decide (c < 16 ^ 8)) = true) (l : z.cps.size ≤ n) : Tx n z := ⟨fun x hx => of_decide_eq_true (List.all_eq_true.mp h x hx), l⟩
/-- a sign of a text, by a place in it -/
theorem sign_at {z : Str} {n : Nat} (h : Tx n z) {r : Int} (r0 : 0 ≤ r) (r1 : r < (z.cps.size : Nat)) : ∃ c, atI z.cps.toList r = some c ∧ Tx 1 ⟨#[c]⟩ := by
  have hj : r.toNat < z.cps.toList.length := by rw [Array.length_toList]; omega
  have e : r = ((r.toNat : Nat) : Int) := by omega
  refine ⟨z.cps.toList[r.toNat], ?_, Tx.sign (h.c _ (List.getElem_mem hj))⟩
  have q : atI z.cps.toList ((r.toNat : Nat) : Int) = some z.cps.toList[r.toNat] := atI_nat (List.getElem?_eq_getElem hj)
  rw [← e] at q
  exact q
theorem Tx.nil : Tx 0 Str.empty := ⟨fun x hx => (by cases hx), Nat.le_refl _⟩
theorem join_nil : ∀ {ws : List Str}, (∀ z ∈ ws, Tx 1 z) → Tx ws.length (Str.join Str.empty ws)
  | [], _ => Tx.nil
  | [x], h => h x List.mem_cons_self
  | x :: y :: r, h => by
    have ih := join_nil (ws := y :: r) fun z hz => h z (List.mem_cons_of_mem _ hz)
    have q := ((h x List.mem_cons_self).app Tx.nil).app ih
    exact q.mono (by simp only [List.length_cons]; omega)
theorem join_ok {ws : List Str} (h : ∀ z ∈ ws, Tx 1 z) (l : ws.length ≤ 100) : JoinOk Str.empty ws = true ∧ Tx ws.length (Txt.join Str.empty ws) := by
  constructor
  · unfold JoinOk
    rw [StrLaws.joinTotal]
    have hs : (ws.map (·.length)).sum ≤ ws.length := by
      clear l
      induction ws with
      | nil => exact Nat.le_refl _
      | cons x r ih =>
        have h1 := ih fun z hz => h z (List.mem_cons_of_mem _ hz)
        have h2 := (h x List.mem_cons_self).len
        simp only [List.map_cons, List.sum_cons, List.length_cons]
        omega
    have hz : Builtin.Str.tooLong ((ws.map (·.length)).sum + ws.length * Str.empty.length) = false := by
      unfold Builtin.Str.tooLong
      refine decide_eq_false ?_
      have e : sizeLine = 16777216 := sizeLine_eq
      have e2 : Str.empty.length = 0 := rfl
      rw [e2, Nat.mul_zero]
      omega
    rw [hz]
    rfl
  · show Tx ws.length (Builtin.Str.glued Str.empty ws)
    rw [StrLaws.glued_eq_join]
    exact join_nil h
theorem not_long {n : Nat} (h : n ≤ 1000) : Builtin.Str.tooLong n = false := by
  unfold Builtin.Str.tooLong
  refine decide_eq_false ?_
  have e : sizeLine = 16777216 := sizeLine_eq
  omega
end L2
/-! EXCEPTIONS: how one lies behind a call; raise; leaving a def; try .. except C as e: name = e -/
namespace L2
open PySem PySem.Spec PyProof.Rows
theorem ObjOk.there {P : Program} {w : World} {H : Hp} {h : Heap} {a : Addr} {o : HO} (x : ObjOk P w H h a o) : ∃ ob, h.get? a = some ob := by
  cases o with
  | lst xs => obtain ⟨_, _, _, _, e⟩ := x; exact ⟨_, e⟩
  | tup xs => obtain ⟨_, _, _, ob, e, _⟩ := x; exact ⟨_, e⟩
  | dK kvs => obtain ⟨_, _, _, _, o, _, _, e, _⟩ := x; exact ⟨_, e⟩
  | dT kvs => obtain ⟨_, _, _, _, o, _, _, e, _⟩ := x; exact ⟨_, e⟩
  | set S n => obtain ⟨o, _, _, _, e, _⟩ := x; exact ⟨_, e⟩
  | ins C dx fs => obtain ⟨_, _, _, e, _⟩ := x; exact ⟨_, e⟩
  | own y => exact x
  | xd fs => obtain ⟨_, ⟨_, _, _, e, _⟩, _⟩ := x; exact ⟨_, e⟩
  | rng lo hi => obtain ⟨_, _, _, e⟩ := x; exact ⟨_, e⟩
  | frz ob u => obtain ⟨e, _⟩ := x; exact ⟨_, e⟩
  | tbl ps => exact ⟨_, show h.get? a = some _ from x⟩
  | met f y => exact ⟨_, show h.get? a = some _ from x⟩
  | ext φ => exact x.2.1
/-- what stays in B: all that stood ahead (frames aside), all that is tracked -/
def InB (B : Heap) (fs : List Addr) (H' : Hp) (h h' : Heap) : Prop := ∀ b o, h'.get? b = some o → ((∃ o', h.get? b = some o') ∧ b ∉ fs) ∨ (∃ u, H' b = some u) → B.get? b = some o
/-- an exception behind a call: it flies; its class, and the abstract heap behind it -/
def CX1 (P : Program) (w : World) : CXT := fun outer H s E e s' => ∃ (ea : Addr) (C a0 : Value) (H' : Hp) (B : Heap),
  e = .ref ea ∧ s'.os = s.os ∧ AllBare s'.gens ∧ Un (frs outer) [] H H' s.heap s'.heap ∧ HOk P w H' s'.heap ∧ Heap.FlyingW B outer ea C a0 s'.heap ∧ InB B (frs outer) H' s.heap s'.heap ∧ H' ea = none ∧ E C none H'
section
variable {X : Cx} {pins : List (Addr × Obj)} {σ : St} {H H' : Hp} {s s' : Shared} {B h'' : Heap}
/-- the state behind a call that raised, once the exception has been noted -/
theorem Inv.flown (I : Inv X pins σ H s) (os : s'.os = s.os) (bare : AllBare s'.gens) (un : Un (frs X.stack) [] H H' s.heap s'.heap) (hok : HOk X.prog X.w H' s'.heap)
    (hB : InB B (frs X.stack) H' s.heap s'.heap) (st : B.StaysIn h'') (up : s'.heap.UpToSlots h'') : Inv X pins σ H' { s' with heap := h'' } := by
  have ff := I.stack
  have slot : ∀ b o, s.heap.get? b = some o → H b = none → b ∈ frs X.stack → ∃ sl, h''.get? b = some { o with slots := sl } := fun b o q n m => by
    obtain ⟨sl, e1⟩ := un.slot b o q n m (by simp)
    obtain ⟨_, o', q', nf⟩ := ff.mem m
    rw [q] at q'
    cases q'
    obtain ⟨sl', e2⟩ := up b _ e1 nf
    exact ⟨sl', e2⟩
  refine I.call' (s' := { s' with heap := h'' }) (ch := []) os ⟨fun b o q n m _ => st b o (hB b o (un.keep b o q n m (by simp)) (.inl ⟨⟨o, q⟩, m⟩)), fun b o q n m _ => slot b o q n m, fun b o q n m => un.free b o q n m, fun b o q _ => ?_, un.tups, un.frzs, un.tbls⟩ (fun a o e => ?_) bare (fun b z => absurd z (by simp))
  · by_cases m : b ∈ frs X.stack
    · obtain ⟨sl, e⟩ := slot b o q (I.stkFree b m) m
      exact ⟨_, e⟩
    · obtain ⟨o', e⟩ := un.there b o q (by simp)
      exact ⟨o', st b o' (hB b o' e (.inl ⟨⟨o, q⟩, m⟩))⟩
  · refine (hok a o e).stay (fun b u z q => st b u (hB b u q (.inr ?_))) (fun _ z => z) fun _ _ z => z
    rcases z with z | z
    · subst z; exact ⟨_, e⟩
    · exact ⟨_, z⟩
/-- it leaves the def -/
theorem Inv.gone {ea : Addr} {C a0 : Value} {E : XK} (I : Inv X pins σ H s) (os : s'.os = s.os) (bare : AllBare s'.gens) (un : Un (frs X.stack) [] H H' s.heap s'.heap) (hok : HOk X.prog X.w H' s'.heap)
    (hB : InB B (frs X.stack) H' s.heap s'.heap) (fl : Heap.FlyingW B X.outer ea C a0 h'') (up : s'.heap.UpToSlots h'') (hn : H' ea = none) (hE : E C none H')
    (hst : X.stack = X.env :: X.outer) (hfr : X.env.frame = some X.env.locals) (hex : X.ex = []) : CX1 X.prog X.w X.outer X.H₀ X.s₀ E (.ref ea) { s' with heap := h'' } := by
  have J := I.flown os bare un hok hB fl.1 up
  have jb := J.base
  have ib := I.base
  rw [hex] at jb ib
  refine ⟨ea, C, a0, H', B, rfl, J.os, J.bare, jb, J.hok, fl, fun b o q z => ?_, hn, hE⟩
  rcases z with ⟨⟨o₀, q₀⟩, m⟩ | ⟨u, z⟩
  · have m2 : b ∉ frs X.stack := fun z => by
      rw [hst] at z
      unfold frs at z
      rw [List.filterMap_cons, hfr] at z
      rcases List.mem_cons.mp z with z | z
      · have := I.ok.above
        rw [← z] at this
        exact absurd (Heap.lt_size q₀) (Nat.not_lt.mpr this)
      · exact m z
    obtain ⟨o1, q1⟩ := ib.there b o₀ q₀ (by simp)
    obtain ⟨o2, q2⟩ := un.there b o1 q1 (by simp)
    have e := hB b o2 q2 (.inl ⟨⟨o1, q1⟩, m2⟩)
    have e2 := fl.1 b o2 e
    have q' : h''.get? b = some o := q
    rw [q'] at e2
    cases e2
    exact e
  · obtain ⟨o2, q2⟩ := (hok b u z).there
    have e := hB b o2 q2 (.inr ⟨u, z⟩)
    have e2 := fl.1 b o2 e
    have q' : h''.get? b = some o := q
    rw [q'] at e2
    cases e2
    exact e
end
section
variable {P : Program} {w : World} {K : PySem.W.Frag} {mg : Str → Option Value} {base : Heap} {N : List Str} {qual : Str} {scope : Scope} {f : Addr} {cd : Value} {A : Around} {outer : List Env} {s₀ : Shared} {H₀ : Hp} {E : XK}
/-- a callee's exception passes -/
theorem pass1 : Passes (CX1 P w) (cxOf (CX1 P w) P w K mg base N qual scope f cd A outer s₀ H₀ E) E := by
  intro pins σ H s e s' I h
  obtain ⟨ea, C, a0, H', B, rfl, os, bare, un, hok, fl, hB, hn, hE⟩ := h
  refine wpAny_leaves_onW (outer := outer) I.ok.frames rfl fl fun h'' fl2 up => ?_
  exact I.gone os bare un hok hB fl2 up hn hE rfl rfl rfl
/-- what raising asks -/
def RaisesIn (X : Cx) (E : XK) : Prop := ∀ (pins : List (Addr × Obj)) (σ : St) (H : Hp) (s : Shared) (h' : Heap) (ea : Addr) (C : Value) (vs : List Value), Inv X pins σ H s → Heap.MadeExcOf s.heap h' ea C vs → E C none H → X.xe (.ref ea) { s with heap := h' }
theorem raises1 : RaisesIn (cxOf (CX1 P w) P w K mg base N qual scope f cd A outer s₀ H₀ E) E := by
  intro pins σ H s h' ea C vs I hx hE
  have hin : ∀ env ∈ (envOfC qual scope s₀.heap.objs.size f cd :: outer), ∀ b, env.frame = some b → b ∈ (envOfC qual scope s₀.heap.objs.size f cd :: outer).filterMap (·.frame) := fun env he b hb => List.mem_filterMap.mpr ⟨env, he, hb⟩
  refine wpAny_leaves_madeW (base := PySem.W.hideAll s.heap ((envOfC qual scope s₀.heap.objs.size f cd :: outer).filterMap (·.frame))) (outer := outer) I.ok.frames rfl (fun b o q => PySem.W.of_hideAll _ q) (PySem.W.funFrames_hide I.stack hin) hx fun h'' t x1 x2 x3 x4 => ?_
  have hn : H ea = none := by
    cases q : H ea with
    | none => rfl
    | some u =>
      obtain ⟨o, e⟩ := (I.hok ea u q).there
      rw [hx.new] at e
      cases e
  refine I.gone (s' := { s with heap := h' }) (H' := H) rfl I.bare (Un.kept hx.keeps) (I.hok.kept hx.keeps) (fun b o q z => ?_) x1 x4 hn hE rfl rfl rfl
  have q' : h'.get? b = some o := q
  have key : ∃ o', s.heap.get? b = some o' ∧ b ∉ (envOfC qual scope s₀.heap.objs.size f cd :: outer).filterMap (·.frame) := by
    rcases z with ⟨⟨o', e⟩, m⟩ | ⟨u, z⟩
    · exact ⟨o', e, m⟩
    · obtain ⟨o', e⟩ := (I.hok b u z).there
      exact ⟨o', e, fun m => by have := I.stkFree b m; rw [z] at this; cases this⟩
  obtain ⟨o', e, m⟩ := key
  have e2 := hx.keeps b o' e
  rw [q'] at e2
  cases e2
  exact PySem.W.hideAll_get _ e m
/-- THE RULE for a def that may raise -/
theorem Fun.ok1 {x qual : Str} {st : Stmt} {f : Addr} {fd : FuncData} {N ps : List Str} {k : Nat} {sp : Sp} (F : Fun K x qual st f fd) (S : FnScope N ps (defScope st)) (len : ∀ vs H Q E, sp vs H Q E → vs.length = ps.length)
    (hbody : ∀ (cdv : Value) (A : Around) (outer : List Env) (s : Shared) (H : Hp) (vs : List V) (Q : VK) (E : XK), Room k (A.deeper (envOfC qual (defScope st) s.heap.objs.size f cdv)) → sp vs H Q E →
      ∃ t, PSs (cxOf (CX1 P w) P w K mg base N qual (defScope st) f cdv A outer s H E) (defBody st) t ∧ t { nx := fun _ H' => Q .non H', rt := Q } (start N vs) H) : FnOk P w K mg base (CX1 P w) (k + 1) f fd ps sp := by
  obtain ⟨oc, od, kV, doc, pm, an, cdv, ct, osl, rfl, lk, hcd⟩ := F.ex
  exact fn_of lk hcd S len fun A outer s H vs Q E hr hsp => hbody cdv A outer s H vs Q E hr hsp
end
theorem own_obj {K : PySem.W.Frag} {h : Heap} {C : Addr} {bmB : List Value} {newId : String} (X : K.In h) (q : PySem.W.excIn K C bmB newId = true) :
    ∃ bm N nm q bs hdct sn sub ab col dd k0 k1 k2 k3 k5 mN, h.get? C = some (excClassObj nm q C N bs bm hdct sn sub ab col dd k0 k1 k2 k3 k5 newId) ∧ h.Ns N mN ∧ mN "__init__" = none ∧ OwnTail h bmB bm := by
  unfold PySem.W.excIn at q
  split at q
  · rename_i dd cd sl ho
    split at q
    · rename_i C' bm k0 k1 k2 k3 n k5 hm hs
      simp only [Bool.and_eq_true, beq_iff_eq, Bool.not_eq_true'] at q
      obtain ⟨⟨⟨⟨⟨rfl, rfl⟩, hdel⟩, ht⟩, hok⟩, hni⟩ := q
      obtain ⟨nm, bs, mro, ns, qn, hd, sn, sub, ab, col, del⟩ := cd
      dsimp only at hm hdel hok hni
      subst hm hdel
      have hsl : sl = #[k0, k1, k2, k3, some (.builtin n), k5] := by
        obtain ⟨l⟩ := sl
        simp only at hs
        rw [hs]
      subst hsl
      exact ⟨bm, ns, nm, qn, bs, hd, sn, sub, ab, col, dd, k0, k1, k2, k3, k5, _, X _ _ ho, .of_isNs (PySem.W.isNs_of_in X hok), PySem.W.nsMap_none_of_in X hok hni, PySem.W.tail_of_in X ht⟩
    · cases q
  · cases q
section
variable {X : Cx} {E : XK} {x : Str} {C : Addr} {B newId initId : String} {bm : List Value} {np cpos pos : Pos} {e : Expr} {es : List Expr} {t : TA}
def tRaise (C : Addr) (E : XK) (t : TA) : TS := fun _ σ H => t σ H fun vs H1 => vs.length ≤ 1000 ∧ E (.ref C) none H1
/-- raise C(e, ..), C a class of the module -/
theorem ps_raise (hr : RaisesIn X E) (hc : X.calm = true) (FB : ExcBaseFacts B newId initId bm) (hq : PySem.W.excIn X.K C bm newId = true) (hg : Gl X x) (hm : X.mg x = some (.ref C)) (ha : PA X (e :: es) t)
    (hd : (x == ("__debug__" : Str)) = false := by decide) (he : starEach (e :: es) X.env = (false, eval e X.env) :: starEach es X.env := by rfl) (hpl : (backTo cpos (starEach es X.env)).any (·.1) = false := by rfl) :
    PS X (.Raise (some (.Call (.Name x np) (e :: es) [] cpos)) none pos) (tRaise C E t) := by
  intro pins s σ H D I h
  obtain ⟨tl, N, nm, q, bs, hdct, sn, sub, ab, col, dd, k0, k1, k2, k3, k5, mN, hC, hN, hni, T⟩ := own_obj I.mod.kin hq
  refine wpAny_Raise_call_subT (C := C) (nm := nm) (q := q) (N := N) (bs := bs) (bm := tl) (hdct := hdct) (sn := sn) (sub := sub) (ab := ab) (col := col) (dd := dd) (k0 := k0) (k1 := k1) (k2 := k2) (k3 := k3) (k5 := k5)
    FB (mN := mN) (T.hasType FB.hasBase) (I.ok.hd hc) (by rw [he]; show (false || (backTo cpos (starEach es X.env)).any (·.1)) = false; rw [hpl]; rfl) hni (ld_glob I hg hm ⟨rfl, ?_⟩ hd)
  have ha' := ha cpos pins s σ H _ I h
  rw [he] at ha' ⊢
  refine Calls.evalArgs_plain (wpAny_mono ha' (fun us s₂ ⟨vs, H1, I1, r, l, q⟩ => ?_) fun _ _ y => y)
  exact ⟨rfl, by rw [← r.length]; exact Nat.le_trans l (by decide), I1.bk _ _ hC, hN.keeps I1.bk, T.keeps I1.bk, fun h' ea hx => hr pins σ H1 s₂ h' ea _ _ I1 hx q⟩
end
/-! ### the body of a try -/
/-- a try's body: F stands behind an exception of a callee -/
def PB (X : Cx) (st : List Stmt) (tb : XK → TS) : Prop := ∀ (pins : List (Addr × Obj)) (s : Shared) (σ : St) (H : Hp) (D : Ends) (E : XK) (F : Value → Shared → Prop), Inv X pins σ H s →
  (∀ H1 s1 e s', Inv X pins σ H1 s1 → CX1 X.prog X.w X.stack H1 s1 E e s' → F e s') → tb E D σ H → wpAny (model X.prog X.w) X.A (execs st X.env) (SP X pins D) F s
section
variable {X : Cx} {k : Nat} {f : Addr} {fd : FuncData} {ps : List Str} {sp : Sp} {dvs : List V} {ds : List Value} {x : Str} {p pos cpos : Pos} {e : Expr} {es : List Expr} {t : TA}
def tbCall (sp : Sp) (dvs : List V) (t : TA) : XK → TS := fun E D σ H => t σ H fun vs H1 => sp (vs ++ dvs) H1 (fun _ H2 => D.nx σ H2) E
theorem pb_call (hx : ∀ e s, ¬ X.xe e s) (Fn : FnOk X.prog X.w X.K X.mg X.base (CX1 X.prog X.w) k f fd ps sp) (hr : Room k X.A) (hg : Gl X x) (hm : X.mg x = some (.ref f)) (hk : PySem.W.keepIn X.K (.ref f) = true) (hb : Binds X.K fd ps ds) (hd : Vals dvs ds)
    (ha : PA X (e :: es) t) (hdb : (x == ("__debug__" : Str)) = false := by decide) (he : starEach (e :: es) X.env = (false, eval e X.env) :: starEach es X.env := by rfl) (hpl : (backTo cpos (starEach es X.env)).any (·.1) = false := by rfl)
    (hs : swapsWith (.Call (.Name x p) (e :: es) [] cpos) none pos.line X.env = pure false := by rfl) :
    PB X [.Expr (.Call (.Name x p) (e :: es) [] cpos) pos] (tbCall sp dvs t) := by
  intro pins s σ H D E F I hF h
  have hq : wpAny (model X.prog X.w) X.A (eval (.Call (.Name x p) (e :: es) [] cpos) X.env) (EP X pins σ fun _ H2 => D.nx σ H2) F s := by
    refine wpAny_Call_Name_kw (ld_glob I hg hm ?_ hdb)
    refine PySem.W.callWith_K (h₀ := X.base) I.ok.mod.kin hk (wpAny_mono (ha cpos pins s σ H _ I h) (fun us s1 ⟨vs, H1, I1, r, q⟩ => ⟨I1.kIn, ?_⟩) fun _ _ z => (hx _ _ z).elim) he hpl
    have r2 : Vals (vs ++ dvs) (us ++ ds) := r.append hd
    have hl : (us ++ ds).length = ps.length := by rw [← r2.length]; exact Fn.len _ _ _ _ q
    refine wpAny_call (codeAny_mono (Fn.run X.A X.stack s1 H1 ⟨us, []⟩ (us ++ ds) (vs ++ dvs) _ E hr I1.env0 (hb s1 us I1.kIn hl) r2 q) fun r s' hq => ?_)
    cases r with
    | error e => exact hF H1 s1 e s' I1 hq
    | ok fl =>
      cases fl with
      | ret u => exact I1.after hq
      | next => exact False.elim hq
      | brk => exact False.elim hq
      | cont => exact False.elim hq
  refine wpAny_execs_cons ?_
  exact wpAny_Expr_any (thn hq fun v s1 ⟨x, H1, I1, r1, q1⟩ => wpAny_execs_nil ⟨σ, H1, I1, q1⟩) I.quiet hs
def tbIf (c : TT) (t u : XK → TS) : XK → TS := fun E D σ H => c σ H fun b H1 => if b = true then t E D σ H1 else u E D σ H1
theorem pb_if {c : Expr} {a b : List Stmt} {tc : TT} {ta tb : XK → TS} (hx : ∀ e s, ¬ X.xe e s) (hc : PT X c tc) (ha : PB X a ta) (hb : PB X b tb) : PB X [.If c a b pos] (tbIf tc ta tb) := by
  intro pins s σ H D E F I hF h
  refine wpAny_execs_cons (wpAny_If (wpAny_mono (hc pins s σ H _ I h) (fun d s1 ⟨H1, I1, q1⟩ => ?_) fun _ _ z => (hx _ _ z).elim))
  cases d with
  | true => exact wpAny_mono (ha pins s1 σ H1 D E F I1 hF q1) (fun fl s2 q => by cases fl <;> first | exact wpAny_execs_nil q | exact q) fun _ _ z => z
  | false => exact wpAny_mono (hb pins s1 σ H1 D E F I1 hF q1) (fun fl s2 q => by cases fl <;> first | exact wpAny_execs_nil q | exact q) fun _ _ z => z
end
/-- an exception that was caught -/
def ExcAt (ea : Addr) (C : Value) : Heap → Prop := fun h => ∃ o vs, h.get? ea = some o ∧ o.cls = C ∧ o.data = .fields vs
/-- within an except suite -/
abbrev Cx.mark (X : Cx) (v : Value) : Cx := { X with A := X.A.mark (some v), calm := false, xe := fun _ _ => False }
section
variable {X : Cx} {pins : List (Addr × Obj)} {σ : St} {H : Hp} {s : Shared} {v : Value}
theorem Inv.mark (I : Inv X pins σ H s) (v : Value) : Inv (X.mark v) pins σ H s :=
  ⟨⟨I.ok.mod, I.ok.kind, I.ok.glob, I.ok.blt, I.ok.above, I.ok.inj, I.ok.has, I.ok.cab, fun z => Bool.noConfusion z, I.ok.frames, I.ok.stk, I.ok.exf, I.ok.bs, I.ok.bsz, I.ok.noex, I.ok.exfs, I.ok.funs, I.ok.frf⟩, I.os, I.bare, I.base, I.loc, I.cell, I.free, I.freeC, I.pin, I.hok, I.len⟩
theorem Inv.unmark (ok : X.Ok) (I : Inv (X.mark v) pins σ H s) : Inv X pins σ H s := ⟨ok, I.os, I.bare, I.base, I.loc, I.cell, I.free, I.freeC, I.pin, I.hok, I.len⟩
end
section
variable {X : Cx} {pins : List (Addr × Obj)} {σ : St} {H : Hp} {s : Shared}
/-- a local name goes (behind an except suite) -/
theorem goes_ok {M : Model} {A : Around} {E : Value → Shared → Prop} {i : Nat} {x : Str} {pos : Pos} {Q : Unit → Shared → Prop} (I : Inv X pins σ H s) (hN : X.N.Nodup) (hi : X.N[i]? = some x) (hk : X.env.scope.names.lookup x = some .local)
    (h : ∀ s', Inv X pins (σ.set i none) H s' → Q () s') : wpAny M A (do bindName X.env x .none; unbindBehindTheSuite X.env x pos) Q E s := by
  obtain ⟨m, hn, hl⟩ := id I.loc
  have hcls : (X.env.scope.kind == .class || (X.env.scope.kind == .module && X.env.locals != X.env.globals)) = false := by rw [I.ok.kind]; rfl
  have hiσ : i < σ.length := by rw [I.len]; exact (List.getElem?_eq_some_iff.mp hi).1
  have cne := I.cne
  refine wpAny_nameGoes_keeps hk hn hcls (fun h' vv hn' hs => ?_)
  obtain ⟨oL, _, _, hoL, _⟩ := id hn
  have tracked : HOk X.prog X.w H h' := fun b ob e => by
    refine (I.hok b ob e).stay (fun c w' hc q => (hs.2 c ?_).trans q) (fun _ q => q) fun _ _ q => q
    rintro rfl
    rcases hc with rfl | hc
    · rw [I.free] at e; cases e
    · rw [I.free] at hc; cases hc
  refine h _ ⟨I.ok, I.os, I.bare, ⟨fun b o e n hb hx => ?_, fun b o e n hb hx => ?_, I.base.free, fun b o e hx => ?_, I.base.tups, I.base.frzs, I.base.tbls⟩, ⟨_, hn', fun j y v' e1 e2 e3 => ?_⟩, fun y c e => ?_, I.free, I.freeC, fun p hp => ?_, tracked, by simpa using I.len⟩
  · exact (hs.2 b (Nat.ne_of_lt (Nat.lt_of_lt_of_le (Heap.lt_size e) I.ok.above))).trans (I.base.keep b o e n hb hx)
  · obtain ⟨sl, e1⟩ := I.base.slot b o e n hb hx
    exact ⟨sl, (hs.2 b (Nat.ne_of_lt (Nat.lt_of_lt_of_le (Heap.lt_size e) I.ok.above))).trans e1⟩
  · obtain ⟨o', e1⟩ := I.base.there b o e hx
    exact ⟨o', (hs.2 b (Nat.ne_of_lt (Nat.lt_of_lt_of_le (Heap.lt_size e) I.ok.above))).trans e1⟩
  · by_cases hj : j = i
    · subst hj
      rw [List.getElem?_set_self hiσ] at e2
      cases e2
    · rw [List.getElem?_set_ne (Ne.symm hj)] at e2
      obtain ⟨u', r', q⟩ := hl j y v' e1 e2 e3
      refine ⟨u', r', ?_⟩
      rcases q with ⟨k, e⟩ | ⟨k, c, e, z⟩
      · refine .inl ⟨k, ?_⟩
        have : y ≠ x := fun e => hj (nodup_ix hN e1 (e ▸ hi))
        simp [this, e]
      · exact .inr ⟨k, c, e, z.sameBut hs (cne y c e)⟩
  · obtain ⟨w', z⟩ := I.cell y c e
    exact ⟨w', z.sameBut hs (cne y c e)⟩
  · obtain ⟨e, n, ne, nf, d⟩ := I.pin p hp
    exact ⟨(hs.2 p.1 ne).trans e, n, ne, nf, d⟩
/-- an object that was made since the entry is tracked from here on -/
theorem Inv.track {a : Addr} {o : HO} (I : Inv X pins σ H s) (hn : H a = none) (new : X.s₀.heap.get? a = none) (hL : X.env.locals ≠ a) (hC : ∀ x c, X.env.cells.lookup x = some c → c ≠ a) (hp : ∀ p ∈ X.pn ++ pins, p.1 ≠ a)
    (hO : ObjOk X.prog X.w (upd H a o) s.heap a o) : Inv X pins σ (upd H a o) s := by
  have ne : ∀ b u, H b = some u → b ≠ a := fun b u q z => by rw [z, hn] at q; cases q
  have nw : ∀ b u, X.s₀.heap.get? b = some u → b ≠ a := fun b u q z => by rw [z, new] at q; cases q
  refine ⟨I.ok, I.os, I.bare, ⟨I.base.keep, I.base.slot, fun b u q n hx => by rw [upd_ne (nw b u q)]; exact I.base.free b u q n hx, I.base.there, fun b xs q => ?_, fun b u xs q => ?_, fun b ps q => ?_⟩, I.loc, I.cell, by rw [upd_ne hL]; exact I.free, fun x c e => by rw [upd_ne (hC x c e)]; exact I.freeC x c e, fun p z => ?_, fun b u e => ?_, I.len⟩
  · have := I.base.tups b xs q
    rw [upd_ne (ne _ _ this)]; exact this
  · have := I.base.frzs b u xs q
    rw [upd_ne (ne _ _ this)]; exact this
  · obtain ⟨m, this⟩ := I.base.tbls b ps q
    exact ⟨m, by rw [upd_ne (ne _ _ this)]; exact this⟩
  · obtain ⟨e, n, ne', nf, d⟩ := I.pin p z
    exact ⟨e, by rw [upd_ne (hp p z)]; exact n, ne', nf, d⟩
  · by_cases h : b = a
    · subst h
      rw [upd_same] at e
      cases e
      exact hO
    · rw [upd_ne h] at e
      exact (I.hok b u e).stay (fun _ _ _ q => q) (fun c q => by rw [upd_ne (ne _ _ q)]; exact q) fun c xs q => by rw [upd_ne (ne _ _ q)]; exact q
end
section
variable {X : Cx} {S : Addr} {cls n c : Str} {i j : Nat} {np cp np2 apos hpos pos : Pos} {body : List Stmt} {tb : XK → TS}
/-- try: body except cls as n: c = n -/
def tTry (K : PySem.W.Frag) (S : Addr) (i j : Nat) (tb : XK → TS) : TS := fun D σ H =>
  tb (fun C _ H' => PySem.W.exmOne K C (.ref S) = some true ∧ ∀ ea : Addr, H' ea = none → D.nx ((σ.set i (some (.ref ea))).set j none) (upd H' ea (.ext (ExcAt ea C)))) D σ H
theorem ps_try (hb : PB X body tb) (hst : X.stack = X.env :: X.outer) (hfr : X.env.frame = some X.env.locals) (hex : X.ex = []) (hN : X.N.Nodup) (hg : Gl X cls) (hm : X.mg cls = some (.ref S)) (hi : X.N[i]? = some c) (hc : Loc X.env.scope c)
    (hj : X.N[j]? = some n) (hn : X.env.scope.names.lookup n = some .local) (hij : i ≠ j)
    (hd : (cls == ("__debug__" : Str)) = false := by decide) (hnd : (n == ("__debug__" : Str)) = false := by decide) (hcd : (n == ("__classdict__" : Str)) = false := by decide)
    (hs : swapsWith (.Name n np2) (some (.Name c cp)) apos.line X.env = pure false := by rfl) (hf : X.fn c = true ∨ X.env.scope.names.lookup c = some .local := by first | exact .inl rfl | exact .inr rfl | assumption) :
    PS X (.Try body [.ExceptHandler (some (.Name cls np)) (some n) [.Assign [.Name c cp] (.Name n np2) apos] hpos] [] [] pos) (tTry X.K S i j tb) := by
  intro pins s σ H D I h
  refine wpAny_Try_except (wpAny_mono (hb pins s σ H D _ (fun e s₁ => wpAny (model X.prog X.w) X.A (noteFrame e X.env) (fun _ s₂ => wpAny (model X.prog X.w) X.A (setFlight e none) (fun _ s₃ => wpAny (model X.prog X.w) X.A (handleBy e X.env [.ExceptHandler (some (.Name cls np)) (some n) [.Assign [.Name c cp] (.Name n np2) apos] hpos]) (SP X pins D) X.xe s₃) X.xe s₂) X.xe s₁) I (fun H1 s1 e s' I1 hx => ?_) h) (fun fl s1 q => ?_) fun _ _ z => z)
  · obtain ⟨ea, C, a0, H', B, rfl, os, bare, un, hok, fl, hB, hn', hE, hk⟩ := hx
    rw [hst] at fl
    refine wpAny_looks_onW (outer := X.outer) (by rw [I1.ok.frames, hst]) hfr fl fun h₄ held₄ up₄ => ?_
    refine wpAny_landsW held₄ fun h₅ fl₅ up₅ => ?_
    have J := I1.flown os bare un hok hB fl₅.1 (up₄.trans up₅)
    have LT : PySem.W.Looks (model X.prog X.w) h₅ (typeOf (.ref ea)) C := by
      obtain ⟨ob, hob, hobc⟩ := fl₅.there
      exact hobc ▸ (PySem.W.Looks.ld hob).andThen .now
    refine wpAny_handleBy_cons (codeAny_handlers_test (ld_glob (J.mark (.ref ea)) hg hm ?_ hd)) (by intro q; cases q)
    refine PySem.W.Looks.here (PySem.W.exm_one (K := X.K) J.kIn LT hE) ?_
    refine codeAny_handlers_suite_as (lands_againW fl₅ fun h₆ fl₆ up₆ => ?_)
    have J6 := I1.flown os bare un hok hB fl₆.1 ((up₄.trans up₅).trans up₆)
    obtain ⟨oe, ws, hoe, hoec, hoed, _⟩ := fl₆.first
    have nofr : ea ∉ frs X.stack := fun m => by
      rw [hst] at m
      obtain ⟨_, o, q, nf⟩ := fl₆.2.2.1.mem m
      rw [hoe] at q
      cases q
      exact nf _ hoed
    have inB : ∀ b o, s1.heap.get? b = some o → b ∉ frs X.stack → b ≠ ea := fun b o q m z => by
      obtain ⟨o', q'⟩ := un.there b o q (by simp)
      have e := hB b o' q' (.inl ⟨⟨o, q⟩, m⟩)
      rw [z, fl₆.2.1] at e
      cases e
    have hLs : X.env.locals ∈ frs X.stack := by
      rw [hst]
      unfold frs
      rw [List.filterMap_cons, hfr]
      exact List.mem_cons_self
    have T : Inv X pins σ (upd H' ea (.ext (ExcAt ea C))) { s' with heap := h₆ } := by
      refine J6.track hn' ?_ (fun z => nofr (z ▸ hLs)) (fun x c e z => ?_) (fun p hp => ?_) ⟨⟨oe, ws, hoe, hoec, hoed⟩, ⟨oe, hoe⟩, fun a b ⟨o, us, q1, q2⟩ k => ⟨o, us, k o q1, q2⟩⟩
      · cases q : X.s₀.heap.get? ea with
        | none => rfl
        | some o =>
          have ib := I1.base
          rw [hex] at ib
          obtain ⟨o1, q1⟩ := ib.there ea o q (by simp)
          exact absurd rfl (inB ea o1 q1 nofr)
      · obtain ⟨v, o, q, d⟩ := J6.cell x c e
        have q' : h₆.get? c = some o := q
        rw [z, hoe] at q'
        cases q'
        rw [hoed] at d
        cases d
      · obtain ⟨e, n, ne, nf, d⟩ := I1.pin p hp
        refine inB p.1 p.2 e fun m => ?_
        rw [hst] at m
        unfold frs at m
        rw [List.filterMap_cons, hfr] at m
        rcases List.mem_cons.mp m with z | z
        · exact ne z
        · exact nf z
    have hjσ : j < σ.length := by rw [I1.len]; exact (List.getElem?_eq_some_iff.mp hj).1
    refine store_ok T hN hj (.inl hn) (show RelV (.ref ea) (.ref ea) from rfl) (fun s7 I7 => ?_) (.inr hn)
    refine wpAny_mono (pss_one (ps_set (X := X.mark (.ref ea)) hN hi hc (pe_var hj (.inl hn) hnd hcd) hs hf) pins s7 _ _ { nx := fun σ' H'' => σ' = (σ.set j (some (.ref ea))).set i (some (.ref ea)) ∧ H'' = upd H' ea (.ext (ExcAt ea C)), rt := fun _ _ => False } (I7.mark (.ref ea)) ⟨.ref ea, List.getElem?_set_self hjσ, rfl, rfl⟩) (fun fl s8 q => ?_) (fun _ _ z => z.elim)
    cases fl with
    | next =>
      obtain ⟨σ', H'', I8, rfl, rfl⟩ := q
      refine goes_ok (Inv.unmark I1.ok I8) hN hj hn fun s9 I9 => ⟨_, _, I9, ?_⟩
      have e : ((σ.set j (some (V.ref ea))).set i (some (.ref ea))).set j none = (σ.set i (some (.ref ea))).set j none := by
        rw [List.set_comm _ _ (Ne.symm hij), List.set_set]
      rw [e]
      exact hk ea hn'
    | ret v => obtain ⟨_, _, _, _, _, z⟩ := q; exact z.elim
    | brk => obtain ⟨_, _, _, z⟩ := q; exact z.elim
    | cont => obtain ⟨_, _, _, z⟩ := q; exact z.elim
  · cases fl with
    | next => exact wpAny_execs_nil q
    | ret v => exact q
    | brk => exact q
    | cont => exact q
end
end L2
namespace L2
open PySem PySem.Spec PyProof.Rows PySem.W PySem.Builtin PySem.Builtin.ObjectAttr PySem.Builtin.Getset_descriptor
section
variable {prog : Program} {w : World} {A : Around} {E : Value → Shared → Prop} {h : Heap} {g : Array GenState} {d : Drawn} {t : Nat} {os : OsState} {K : PySem.W.Frag} {a C : Addr} {o : Obj}
theorem exc_class_get {tp : Value} {R : Result → Shared → Prop} (X : K.In h) (hx : h.get? a = some o) (hc : o.cls = .ref C) (hm : mroIn K C (.type "object") = some true)
    (q : R (.ok (.ret (.ref C))) ⟨h, g, d, t, os⟩) : codeAny (model prog w) A (.call (.builtin "getset_descriptor.__get__") ⟨[.builtin "object.__class__", .ref a, tp], []⟩) R ⟨h, g, d, t, os⟩ := by
  have L0 : Looks (model prog w) h (typeOf (.ref a)) (.ref C) := hc ▸ (Looks.ld hx).andThen .now
  have L1 := looks_mroIn (M := model prog w) X hm
  refine codeAny_call_builtin KF.slot_gs.plain KF.entry_gs (KF.slot_gs.check _ _ _ _ _ _ _ _ KF.type_class (KF.args_gs _ _ _) ?_)
  unfold Builtin.«getset_descriptor.__get__» descrGet
  rw [dga_obj]
  refine wpAny_bind (wpAny_pure ?_)
  unfold descrGetter descrCheckInstance descrNameAndClass isInstance
  simp only [KF.owner_class]
  repeat lk
  refine ⟨Code.quiet_builtin _ (by decide +kernel), codeAny_builtin KF.entry_class ?_⟩
  unfold Builtin.«object.__class__» shownTypeOf
  repeat lk
  exact q
/-- the class of an exception is plain -/
structure ExcCls (K : PySem.W.Frag) (C : Addr) : Prop where
  ga : findIn K (.ref C) "__getattribute__" = some (some (.builtin "BaseException.__getattribute__"))
  gh : findIn K (.ref C) "__getattr__" = some none
  ca : findIn K (.ref C) "__class__" = some (some (.builtin "object.__class__"))
  ob : mroIn K C (.type "object") = some true
  be : mroIn K C (.type "BaseException") = some true
  cl : (clsIn K C).isSome = true
  hn : specialIn K (.builtin "object.__class__") "__get__" = some (some (.builtin "getset_descriptor.__get__"))
  htk : takesIn K (.builtin "object.__class__") = some true
theorem exc_find {M : Model} (X : K.In h) (c : ExcCls K C) : Looks M h (find (.ref a) (.ref C) "__class__") (.bind (.builtin "getset_descriptor.__get__") (.builtin "object.__class__")) := by
  refine (looks_findIn X c.ca).andThen ((looks_specialIn X c.hn).andThen ?_)
  exact (show Looks M h (dataDescriptor? (some (.builtin "object.__class__")) (some (.builtin "getset_descriptor.__get__"))) _ from (looks_takesIn X c.htk).andThen .now).andThen (Looks.tag .now)
theorem exc_entry {tk : Tok} {Q : Fin → Shared → Prop} (X : K.In h) (c : ExcCls K C) (hx : h.get? a = some o) (hc : o.cls = .ref C) (q : Q (.done (.ret (.ref C))) ⟨h, g, d, t, os⟩) :
    wpAny (model prog w) A (Builtin.«object.__getattribute__» ⟨[.ref a, .str "__class__" tk], []⟩) Q E ⟨h, g, d, t, os⟩ := by
  have L0 : Looks (model prog w) h (typeOf (.ref a)) (.ref C) := hc ▸ (Looks.ld hx).andThen .now
  have L1 := exc_find (M := model prog w) (a := a) X c
  unfold Builtin.«object.__getattribute__»
  refine wpAny_bind (wpAny_pure (wpAny_bind (wpAny_pure (wpAny_bind (L0.at (wpAny_bind (L1.at ?_)))))))
  refine wpAny_bind (wpAny_holding (wpAny_call (exc_class_get X hx hc c.ob ?_)))
  exact wpAny_pure q
theorem exc_check {M : Model} {nameV : Value} {Q : Unit → Shared → Prop} (X : K.In h) (c : ExcCls K C) (hx : h.get? a = some o) (hc : o.cls = .ref C) (q : Q () ⟨h, g, d, t, os⟩) : wpAny M A (checkBuiltinCall "BaseException.__getattribute__" ⟨[.ref a, nameV], []⟩) Q E ⟨h, g, d, t, os⟩ := by
  have hk : builtinKind "BaseException.__getattribute__" = some .slot := by decide +kernel
  have hsplit : splitId "BaseException.__getattribute__" = some ("BaseException", "__getattribute__") := by decide +kernel
  have ha := F.args_bexc_ga (.ref a) nameV
  have L0 : Looks M h (typeOf (.ref a)) (.ref C) := hc ▸ (Looks.ld hx).andThen .now
  have LI : Looks M h (isInstance (.ref a) (.type "BaseException")) true := L0.andThen (looks_mroIn X c.be)
  simp only [checkBuiltinCall, hk, hsplit]
  refine wpAny_bind (LI.at ?_)
  repeat (first | wp_step)
  exact q
theorem exc_by {tk : Tok} {Q : Value → Shared → Prop} (X : K.In h) (c : ExcCls K C) (hx : h.get? a = some o) (hc : o.cls = .ref C) (q : Q (.ref C) ⟨h, g, d, t, os⟩) :
    wpAny (model prog w) A (getAttrBy (.ref a) (.str "__class__" tk) false) Q E ⟨h, g, d, t, os⟩ := by
  have L0 : Looks (model prog w) h (typeOf (.ref a)) (.ref C) := hc ▸ (Looks.ld hx).andThen .now
  have L1 := looks_findIn (M := model prog w) X c.ga
  have L2 := looks_findIn (M := model prog w) X c.gh
  have hb : bindSpecial (.builtin "BaseException.__getattribute__") (.ref a) = pure (.builtin "BaseException.__getattribute__", [.ref a]) := by
    have hop : withoutEnding? "BaseException.__getattribute__" "#opaque" = none := by decide +kernel
    have hdat : withoutEnding? "BaseException.__getattribute__" "#data" = none := by decide +kernel
    have hk : builtinKind "BaseException.__getattribute__" = some .slot := by decide +kernel
    simp only [bindSpecial, typeOf, builtinType, hop, hdat, hk]; rfl
  have hx2 : (Value.builtin "BaseException.__getattribute__" == Value.builtin "object.__getattribute__") = false := by decide +kernel
  have hx1 : (onTheHeap (Value.ref C) && Value.builtin "BaseException.__getattribute__" == Value.builtin "object.__getattribute__") = false := by rw [hx2]; rfl
  unfold getAttrBy
  refine wpAny_holding (wpAny_bind (L0.at (wpAny_bind (L1.at ?_))))
  dsimp only
  rw [hx1, if_neg Bool.false_ne_true]
  unfold getAttrByItsOwn hookBefore
  rw [show onTheHeap (Value.ref C) = true from rfl, if_pos rfl]
  refine wpAny_bind (L2.at (wpAny_bind (wpAny_attempt (wpAny_holding ?_))))
  unfold callGetattribute
  rw [Bool.false_and, if_neg Bool.false_ne_true]
  unfold boundAndCalled
  rw [hb]
  refine wpAny_bind (wpAny_pure ?_)
  refine wpAny_call (codeAny_call_builtin (by decide +kernel) F.entry_bexc_ga (exc_check X c hx hc (exc_entry X c hx hc ?_)))
  exact wpAny_pure q
theorem kitx_exc (c : ExcCls K C) : KitX K (.ref a) (.ref C) (ExcAt a (.ref C)) where
  ty := fun _ _ _ ⟨_, _, hx, hc, _⟩ => hc ▸ (Looks.ld hx).andThen .now
  it := fun _ _ X _ => by
    have hcD := c.cl
    unfold clsIn at hcD
    split at hcD
    · rename_i c' d' cd' sl' ho
      intro A' Q' E' s' k q
      unfold isType loadHead
      exact wpAny_bind (wpAny_loadPart (k _ _ (X _ _ ho)) (wpAny_pure q))
    · cases hcD
  ne := fun h tp dd its n sl X htp => by
    have hcD := c.cl
    refine Bool.eq_false_iff.mpr fun q => ?_
    have e : C = tp := Value.ref.inj (beq_iff_eq.mp q)
    subst e
    unfold clsIn at hcD
    split at hcD
    · rename_i c' d' cd' sl' ho
      have z := (X _ _ ho).symm.trans htp
      cases z
    · cases hcD
  ca := fun {_ _ _ _ _ s} X ⟨_, _, hx, hc, _⟩ k => by
    obtain ⟨h, g, d, t, os⟩ := s
    unfold getAttr? getAttrBy?
    refine wpAny_bind (wpAny_mkText (wpAny_bind (wpAny_attempt (exc_by X c hx hc ?_))))
    exact wpAny_pure k
end
end L2
namespace L2
open PySem PySem.Spec PyProof.Rows
/-- isinstance of an exception that was caught -/
def rIsiE (K : PySem.W.Frag) : List V → Hp → VK → Prop := fun vs H Q => ∃ (ea D : Addr) (c : V) (cv : Value) (b : Bool), vs = [.ref ea, c] ∧ H ea = some (.ext (ExcAt ea (.ref D))) ∧ ExcCls K D ∧ (∀ u, RelV c u → u = cv) ∧ PySem.W.kitOne K (.ref D) cv = some b ∧ Q (.bl b) H
theorem call_isiE {X : Cx} : CallR X (.builtin "isinstance") (rIsiE X.K) := by
  intro pins s σ H vs us Q I r ⟨ea, D, c, cv, b, e, h, hc, hu, hk, q⟩
  subst e
  obtain ⟨u, v, rfl, h1, h2⟩ := r.two
  cases h1
  cases hu _ h2
  have ho : ExcAt ea (.ref D) s.heap := (I.hok ea _ h).1
  exact PySem.W.kia_one (kitx_exc hc) I.kIn ho hk (fun z => nomatch z) fun tk => ⟨.bl b, H, I.tok tk, rfl, q⟩
end L2
/-! A COMPREHENSION in whose turns a callee may raise -/
namespace L2
open PySem PySem.Spec PyProof.Rows
theorem frameOf_congr {a b : Env} (h : a.frame = b.frame) : PySem.frameOf a = PySem.frameOf b := by unfold PySem.frameOf; rw [h]
theorem noteFrame_congr {a b : Env} {e : Value} (h : a.frame = b.frame) : noteFrame e a = noteFrame e b := by unfold noteFrame; rw [frameOf_congr h, h]
section
variable {M : Model} {A : Around} {E : Value → Shared → Prop} {s : Shared}
/-- the flight set to anything -/
theorem setFlight_any {base : Heap} {l : List Env} {e : Addr} {cls a0 fl : Value} {fr : Option Addr} {Q : Unit → Shared → Prop}
    (hkb : base.StaysIn s.heap) (hl : s.heap.FunFrames base l) (ht : s.heap.TracedAtW base e cls a0 fl)
    (h : ∀ h' fl', base.StaysIn h' → h'.FunFrames base l → h'.TracedAtW base e cls a0 fl' → s.heap.UpToSlots h' → Q () { s with heap := h' }) :
    wpAny M A (setFlight (.ref e) fr) Q E s := by
  obtain ⟨oe, vs, T, oT, ts, he, hcls, hd, h1, hnT, hTe, hT, hdT, h3⟩ := ht
  have hsz3 : 3 < ts.size := (Array.getElem?_eq_some_iff.mp h3).1
  have other : ∀ b, b ≠ T → (s.heap.update T (Obj.mapFields (·.setIfInBounds 3 (fr.elim Value.none fun f => rawInt f)))).get? b = s.heap.get? b :=
    fun b hb => Heap.get?_update_other _ _ (Ne.symm hb)
  have noRecord : ∀ b o, s.heap.get? b = some o → (∀ vs, o.data ≠ .fields vs) → b ≠ T := fun b o hb hnf q => by
    rw [q, hT] at hb; injection hb with hb; subst hb; exact hnf ts hdT
  unfold setFlight
  refine wpAny_bind (wpAny_field he hd h1 ?_)
  rw [if_pos (show (Value.ref T != Value.none) = true from by simp)]
  refine wpAny_setField hT hdT hsz3 (h _ (fr.elim Value.none fun f => rawInt f) (fun b o hbo => (other b fun q => by rw [q, hnT] at hbo; cases hbo).trans (hkb b o hbo))
    (hl.of_keeps fun b o hb hnf => ⟨o, (other b (noRecord b o hb hnf)).trans hb, rfl⟩) ?_ fun b o hb hnf => ⟨o.slots, (other b (noRecord b o hb hnf)).trans hb⟩)
  exact ⟨oe, vs, T, _, _, (other e (Ne.symm hTe)).trans he, hcls, hd, h1, hnT, hTe, Heap.get?_update_self _ hT (Obj.isFreed_of_fields (Obj.data_mapFields hdT _)), Obj.data_mapFields hdT _, by simp [hsz3]⟩
/-- it leaves, whatever its flight -/
theorem leaves_any {base : Heap} {env : Env} {outer : List Env} {L e : Addr} {cls a0 fl : Value} {Q : Unit → Shared → Prop}
    (hfr : A.frames = some (env :: outer)) (hf : env.frame = some L) (hkb : base.StaysIn s.heap) (hen : base.get? e = none) (hl : s.heap.FunFrames base (env :: outer)) (ht : s.heap.TracedAtW base e cls a0 fl)
    (hQ : ∀ h', Heap.FlyingW base outer e cls a0 h' → s.heap.UpToSlots h' → Q () { s with heap := h' }) : wpAny M A (leaving env (.ref e)) Q E s := by
  by_cases hfl : fl = rawInt L
  · subst hfl
    unfold leaving
    refine wpAny_bind (wpAny_noteFrame_againW hf ht ?_)
    refine wpAny_landsW ⟨hkb, hen, hl, ht⟩ fun h' x up => ?_
    obtain ⟨k1, k2, ⟨_, _, k3⟩, k4⟩ := x
    exact hQ h' ⟨k1, k2, k3, k4⟩ up
  · obtain ⟨oe, vs, T, oT, ts, he, ⟨hcls, h0⟩, hd, h1, hnT, hTe, hT, hdT, h3⟩ := ht
    subst hcls
    unfold leaving noteFrame
    simp only [hf]
    refine wpAny_bind (wpAny_bind (wpAny_field he hd h1 ?_))
    rw [if_pos (show (Value.ref T != Value.none) = true from by simp)]
    refine wpAny_bind (wpAny_field hT hdT h3 ?_)
    rw [if_neg (show ¬ ((fl == rawInt L) = true) from fun z => hfl (eq_of_beq z))]
    refine wpAny_bind (wpAny_setField hT hdT (Array.getElem?_eq_some_iff.mp h3).1 ?_)
    have other : ∀ b, b ≠ T → (s.heap.update T (Obj.mapFields (·.setIfInBounds 3 Value.none))).get? b = s.heap.get? b := fun b hb => Heap.get?_update_other _ _ (Ne.symm hb)
    have noRecord : ∀ b o, s.heap.get? b = some o → (∀ vs, o.data ≠ .fields vs) → b ≠ T := fun b o hb hnf q => by
      rw [q, hT] at hb; injection hb with hb; subst hb; exact hnf ts hdT
    refine wpAny_newEntryW hfr (hl.of_keeps fun b o hb hnf => ⟨o, (other b (noRecord b o hb hnf)).trans hb, rfl⟩) hf ((other e (Ne.symm hTe)).trans he)
      (fun b o hbo => (other b fun q => by rw [q, hnT] at hbo; cases hbo).trans (hkb b o hbo)) hen hd (Array.getElem?_eq_some_iff.mp h1).1 h0
      fun h' ⟨x1, ⟨_, _, x2⟩, x3, x4⟩ => hQ h' ⟨x1, hen, x2, x3⟩ fun b o hb hnf => x4 b o ((other b (noRecord b o hb hnf)).trans hb) hnf
/-- a block's exception passes on -/
theorem passOn_any {base : Heap} {l : List Env} {e : Addr} {cls a0 fl : Value} {what : String} {env : Env} {α : Type} {Q : α → Shared → Prop}
    (hkb : base.StaysIn s.heap) (hl : s.heap.FunFrames base l) (ht : s.heap.TracedAtW base e cls a0 fl)
    (h : ∀ h' fl', base.StaysIn h' → h'.FunFrames base l → h'.TracedAtW base e cls a0 fl' → s.heap.UpToSlots h' → E (.ref e) { s with heap := h' }) :
    wpAny M A (PySem.passOn what (.ref e) env : Sem α) Q E s := by
  have ht' := ht
  obtain ⟨oe, vs, T, oT, ts, he, hcls, hd, h1, hnT, hTe, hT, hdT, h3⟩ := ht'
  unfold PySem.passOn
  refine wpAny_bind (wpAny_field he hd h1 ?_)
  rw [if_neg (show ¬ ((Value.ref T == Value.none) = true) from by simp)]
  exact wpAny_bind (setFlight_any hkb hl ht fun h' fl' k1 k2 k3 k4 => wpAny_throw (h h' fl' k1 k2 k3 k4))
end
theorem comp_loopX {P : Program} {w : World} {K : PySem.W.Frag} {Y : Cx} (hP : Y.prog = P) (hw : Y.w = w) (hK : Y.K = K) {tg iter elt : Expr} {ifs : List Expr} {scope : Scope} {pos : Pos} {J : It} {fp : List Addr} {it D : Addr} {tn : Nat → Heap → Prop} {g : TG} {tc : TT} {te : TE}
    {Q : Hp → Prop} {R : Result → Shared → Prop} {s : Shared} {σ : St} {H : Hp}
    (hcalm : Y.calm = true) (hx : ∀ e s', Y.xe e s' → notedBy (model P w) Y.A Y.env (fun e s' => R (.error e) s') e s') (T : Turn P w K tg J fp it tn) (hg : PG Y tg g) (hc : PIf Y ifs tc) (he : PE Y elt te) (I : Inv Y [] σ H s) (st : tn 0 s.heap) (hf : ∀ b ∈ fp, FpOk Y [] H b) (h : tTurns J g tc te D Q σ H)
    (hR : ∀ σ' H' s', Inv Y [] σ' H' s' → Q H' → R (.ok .next) s') :
    codeAny (model P w) Y.A (.compLoop (.ListComp elt [⟨tg, iter, ifs, 0⟩] scope pos) 0 (.ref it) (.ref D) Y.env) R s := by
  subst hP hw hK
  obtain ⟨W, ⟨m0, w0⟩, turn⟩ := h
  have stat : ∀ {H' : Hp}, (∀ b ∈ fp, H' b = none) → ∀ b ∈ fp, FpOk Y [] H' b := fun hn b hb => ⟨hn b hb, (hf b hb).2⟩
  have no : ∀ {α : Type} {t : Sem α} {Qa : α → Shared → Prop} {s : Shared}, wpAny (model Y.prog Y.w) Y.A t Qa Y.xe s → wpAny (model Y.prog Y.w) Y.A t Qa (notedBy (model Y.prog Y.w) Y.A Y.env (fun e s' => R (.error e) s')) s := fun z => wpAny_mono z (fun _ _ q => q) hx
  refine codeAny_loop rfl (fun n s' => ∃ i σ' H', Inv Y [] σ' H' s' ∧ tn i s'.heap ∧ (∀ b ∈ fp, H' b = none) ∧ W i n σ' H') ?_ m0 ⟨0, σ, H, I, st, fun b hb => (hf b hb).1, w0⟩
  rintro n s3 ⟨i, σ3, H3, I3, st3, fr3, w3⟩
  show wpAny _ Y.A ((compTurn (.ListComp elt [⟨tg, iter, ifs, 0⟩] scope pos) 0 (.ref it) (.ref D) Y.env).onRaise (fun x => do noteFrame x Y.env; theTreesLotGoes x)) _ _ s3
  refine wpAny_noted ?_
  rw [compTurn_list]
  refine wpAny_bind (wpAny_standAt (wpAny_bind ?_))
  rcases turn i n σ3 H3 w3 with ⟨stop, qn⟩ | ⟨go, N, hN, step⟩
  · refine wpAny_mono (T.done Y rfl rfl rfl hcalm i [] s3 σ3 H3 _ I3 (stat fr3) st3 stop) (fun r s4 ⟨hr, I4⟩ => ?_) fun _ _ q => q
    subst hr
    exact wpAny_pure (hR σ3 H3 s4 I4 qn)
  · refine wpAny_mono (T.item Y rfl rfl rfl hcalm i [] s3 σ3 H3 _ I3 (stat fr3) st3 go) (fun r s4 ⟨u, hr, h4⟩ => ?_) fun _ _ q => q
    subst hr
    refine wpAny_bind (wpAny_mono h4 (fun _ s5 ⟨x, H5, I5, r5, y5, st5, fr5⟩ => ?_) fun _ _ q => q)
    have I5' := I5.pinned (stat fr5) (T.obj _ _ st5)
    have again : ∀ {s7 : Shared} {σ7 : St} {H7 : Hp}, Inv Y ([] ++ pinsAt fp s5.heap) σ7 H7 s7 → N σ7 H7 → ∃ m, m < n ∧ ∃ i σ' H', Inv Y [] σ' H' s7 ∧ tn i s7.heap ∧ (∀ b ∈ fp, H' b = none) ∧ W i m σ' H' := fun {s7 σ7 H7} I7 n7 => by
      obtain ⟨m', hm, w7⟩ := hN σ7 H7 n7
      refine ⟨m', hm, i + 1, σ7, H7, I7.unpinned, T.keep _ _ _ st5 fun b hb o e => (I7.pin (b, o) (List.mem_append_right _ (List.mem_append_right _ (mem_pinsAt hb e)))).1, fun b hb => ?_, w7⟩
      obtain ⟨o, e, d⟩ := T.obj _ _ st5 b hb
      exact (I7.pin (b, o) (List.mem_append_right _ (List.mem_append_right _ (mem_pinsAt hb e)))).2.1
    refine wpAny_bind (no (thn (hg _ s5 σ3 H5 x u _ I5' r5 (step x H5 y5)) fun _ s6 ⟨σ6, H6, I6, q6⟩ => ?_))
    refine wpAny_bind (no (thn (hc _ s6 σ6 H6 _ I6 q6) fun ok s7 ⟨H7, I7, q7⟩ => ?_))
    cases ok with
    | false => exact wpAny_pure ⟨rfl, again I7 q7⟩
    | true =>
      refine wpAny_bind (wpAny_bind (no (thn (he _ s7 σ6 H7 _ I7 q7) fun v s8 ⟨y, H8, I8, r8, ys, eD, hz, n8⟩ => ?_)))
      refine wpAny_bind (no (thn (mt_append _ s8 σ6 H8 (.ref D) [y] (.ref D) [v] (fun _ H9 => N σ6 H9) I8 rfl (.cons r8 .nil) ⟨D, ys, y, rfl, rfl, eD, hz, n8⟩) fun _ s9 ⟨_, H9, I9, _, n9⟩ => ?_))
      exact wpAny_pure (wpAny_pure ⟨rfl, again I9 n9⟩)


theorem ff_move {h h' B B' : Heap} : ∀ {l : List Env}, h.FunFrames B l → (∀ L, B.get? L = none → B'.get? L = none) → (∀ L, B.get? L = none → h'.get? L = h.get? L) → h'.FunFrames B' l
  | [], _, _, _ => trivial
  | _ :: _, ⟨hk, ⟨L, o, hf, hn, ho, hd⟩, hr⟩, k1, k2 => ⟨hk, ⟨L, o, hf, k1 L hn, (k2 L hn).trans ho, hd⟩, ff_move hr k1 k2⟩
section
variable {X : Cx} {pins : List (Addr × Obj)} {xs : List Str} {sc : Scope} {σ : St} {H2 : Hp} {s2 : Shared} {fp : List Addr} {E : XK}
/-- a context whose exceptions lie behind its calls as CX1 tells -/
structure CxDef (X : Cx) (E : XK) : Prop where
  st : X.stack = X.env :: X.outer
  fr : X.env.frame = some X.env.locals
  ex : X.ex = []
  xe : ∀ e s', wpAny (model X.prog X.w) X.A (leaving X.env e) (fun _ s'' => CX1 X.prog X.w X.outer X.H₀ X.s₀ E e s'') (fun e' s'' => CX1 X.prog X.w X.outer X.H₀ X.s₀ E e' s'') s' → X.xe e s'
theorem blk_raise {Q : Value → Shared → Prop} {D : Value} {pnb : List (Addr × Obj)} {σb : St} {H1 : Hp} {s1 s' : Shared} {e : Value} (dX : CxDef X E) (I2 : Inv X pins σ H2 s2) (f2 : ∀ b ∈ fp, FpOk X pins H2 b)
    (Jb : Inv (blk X pins xs sc (s2.heap.objs.size + 1) fp { s2 with heap := s2.heap.push { cls := .type "list", data := .seq ([] : List Value).toArray } } (upd H2 s2.heap.objs.size (.lst []))) pnb σb H1 s1)
    (cx : CX1 X.prog X.w X.stack H1 s1 E e s') {cl : List (Str × Addr)} :
    notedBy (model X.prog X.w) X.A (compEnvC sc cl (s2.heap.objs.size + 1) X.env) (fun e s => compPost (model X.prog X.w) X.A X.xe none Q D (s2.heap.objs.size + 1) (.error e) s) e s' := by
  obtain ⟨ea, Cc, a0, H', B, rfl, os, bare, un, hok, fl, hB, hn, hE⟩ := cx
  unfold notedBy
  rw [noteFrame_congr (a := compEnvC sc cl (s2.heap.objs.size + 1) X.env) (b := X.env) rfl]
  have fls := fl
  rw [dX.st] at fl
  refine wpAny_looks_onW (outer := X.outer) (I2.ok.frames.trans (congrArg some dX.st)) dX.fr fl fun h1 held up1 => ?_
  have Jf := Jb.flown (h'' := h1) os bare un hok hB held.1 up1
  have I1 := blk_end (sc := sc) I2 f2 (Inv.unpinned (pins := []) (pl := pnb) Jb)
  obtain ⟨m, hm, _⟩ := Jf.loc
  refine ⟨m, hm, fun h2 sb cenv' _ => ?_⟩
  have hC' : H' (s2.heap.objs.size + 1) = none := Jf.free
  obtain ⟨m1, hm1, _⟩ := Jb.loc
  obtain ⟨o1, _, _, eo1, _⟩ := hm1
  obtain ⟨oC, eoC⟩ := un.there _ _ eo1 (by simp)
  have nC : s2.heap.objs.size + 1 ∉ frs X.stack := fun z => by
    rcases List.mem_cons.mp (I2.stkSub _ z) with q | q
    · exact absurd I2.lt (Nat.not_lt.mpr (by rw [← q]; exact Nat.le_succ _))
    · exact I2.nofs (Nat.le_succ _) q
  have bC : B.get? (s2.heap.objs.size + 1) = some oC := hB _ _ eoC (.inl ⟨⟨o1, eo1⟩, nC⟩)
  have ne : ∀ L, B.get? L = none → L ≠ s2.heap.objs.size + 1 := fun L z q => by rw [q, bC] at z; cases z
  have hid' : ∀ b o, B.get? b = some o → b ≠ s2.heap.objs.size + 1 → (PySem.W.hideAll B [s2.heap.objs.size + 1]).get? b = some o := fun b o q z => PySem.W.hideAll_get _ q (by simpa using z)
  have unh : ∀ b o, (PySem.W.hideAll B [s2.heap.objs.size + 1]).get? b = some o → B.get? b = some o ∧ b ≠ s2.heap.objs.size + 1 := fun b o q => ⟨PySem.W.of_hideAll _ q, fun z => by
    rw [z, PySem.W.hideAll_none _ (List.mem_singleton.mpr rfl)] at q; cases q⟩
  have nn : ∀ L, B.get? L = none → (PySem.W.hideAll B [s2.heap.objs.size + 1]).get? L = none := fun L z => by
    cases q : (PySem.W.hideAll B [s2.heap.objs.size + 1]).get? L with
    | none => rfl
    | some o => rw [(unh _ _ q).1] at z; cases z
  generalize PySem.W.hideAll B [s2.heap.objs.size + 1] = B' at hid' unh nn
  obtain ⟨g1, g2, g3, g4⟩ := held
  have k1 : B'.StaysIn h2 := fun b o q => (sb.2 b (unh b o q).2).trans (g1 b o (unh b o q).1)
  have k2 : h2.FunFrames B' (X.env :: X.outer) := ff_move g3 nn fun L z => sb.2 L (ne L z)
  have k3 : h2.TracedAtW B' ea Cc a0 (rawInt X.env.locals) := by
    obtain ⟨oe, vs, T, oT, ts, he, hcls, hd, h1', hnT, hTe, hT, hdT, h3⟩ := g4
    exact ⟨oe, vs, T, oT, ts, (sb.2 _ (ne _ g2)).trans he, hcls, hd, h1', nn _ hnT, hTe, (sb.2 _ (ne _ hnT)).trans hT, hdT, h3⟩
  refine passOn_any k1 k2 k3 fun h3 fl3 p1 p2 p3 up3 => dX.xe _ _ ?_
  refine leaves_any (outer := X.outer) (I2.ok.frames.trans (congrArg some dX.st)) dX.fr p1 (nn _ g2) p2 p3 fun h4 fl4 up4 => ?_
  have lt1 : ∀ b o, s2.heap.get? b = some o → b ≠ s2.heap.objs.size + 1 := fun b o q => Nat.ne_of_lt (Nat.lt_succ_of_lt (Heap.lt_size q))
  have u0 : Un (frs X.stack) fp H2 H1 s2.heap s1.heap :=
    (Un.laid (fun b o e => Heap.get?_push_of_some _ e) (Nat.le_refl _) (I2.hok.fresh (Nat.le_refl _))).trans Jb.base
  have u1 : Un (frs X.stack) fp H2 H' s2.heap h1 :=
    (Un.laid (fun b o e => Heap.get?_push_of_some _ e) (Nat.le_refl _) (I2.hok.fresh (Nat.le_refl _))).trans Jf.base
  have stay : ∀ b o o0, s2.heap.get? b = some o0 → b ∉ fp → b ∉ frs X.stack → h1.get? b = some o → h4.get? b = some o := fun b o o0 q nf ns q1 => by
    obtain ⟨oa, qa⟩ := u0.there b o0 q nf
    obtain ⟨ob, qb⟩ := un.there b oa qa (by simp)
    have z := hB b ob qb (.inl ⟨⟨oa, qa⟩, ns⟩)
    have z1 := g1 b ob z
    rw [q1] at z1
    cases z1
    exact fl4.1 b o (hid' b o z (lt1 b o0 q))
  have up : ∀ b o o0, s2.heap.get? b = some o0 → b ∈ frs X.stack → h1.get? b = some o → ∃ sl, h4.get? b = some { o with slots := sl } := fun b o o0 q m q1 => by
    have nf : ∀ vs, o.data ≠ .fields vs := by
      have ff := g3
      rw [← dX.st] at ff
      obtain ⟨_, o', q', nf⟩ := ff.mem m
      rw [q1] at q'
      cases q'
      exact nf
    exact (up3.trans up4) b o ((sb.2 b (lt1 b o0 q)).trans q1) nf
  have u4 : Un (frs X.stack) fp H2 H' s2.heap h4 := ⟨fun b o q n m x => stay b o o q x m (u1.keep b o q n m x), fun b o q n m x => by
      obtain ⟨sl, z⟩ := u1.slot b o q n m x
      obtain ⟨sl2, z2⟩ := up b _ o q m z
      exact ⟨sl2, z2⟩, u1.free, fun b o q x => by
      obtain ⟨o', z⟩ := u1.there b o q x
      by_cases m : b ∈ frs X.stack
      · obtain ⟨sl, z2⟩ := up b o' o q m z
        exact ⟨_, z2⟩
      · exact ⟨o', stay b o' o q x m z⟩, u1.tups, u1.frzs, u1.tbls⟩
  have hok4 : HOk X.prog X.w H' h4 := fun a o e => by
    refine (hok a o e).stay (fun b u z q => ?_) (fun _ z => z) fun _ _ z => z
    have tr : ∃ v, H' b = some v := by
      rcases z with z | z
      · subst z; exact ⟨_, e⟩
      · exact ⟨_, z⟩
    have z2 := hB b u q (.inr tr)
    exact fl4.1 b u (hid' b u z2 fun y => by obtain ⟨v, y2⟩ := tr; rw [y, hC'] at y2; cases y2)
  have J4 : Inv X pins σ H' { s' with heap := h4 } := I2.call' (s' := { s' with heap := h4 }) (ch := fp) Jf.os u4 hok4 bare fun b hb => ⟨(f2 b hb).2.2.2.1, (f2 b hb).2.1, (f2 b hb).2.2.2.2.1, (f2 b hb).2.2.2.2.2⟩
  have jb := J4.base
  rw [dX.ex] at jb
  refine ⟨ea, Cc, a0, H', B', rfl, J4.os, J4.bare, jb, hok4, fl4, fun b o q z => ?_, hn, hE⟩
  have q' : h4.get? b = some o := q
  have fin : ∀ o2, B.get? b = some o2 → b ≠ s2.heap.objs.size + 1 → B'.get? b = some o := fun o2 y1 y2 => by
    have y3 := hid' b o2 y1 y2
    have y4 := fl4.1 b o2 y3
    rw [q'] at y4
    cases y4
    exact y3
  rcases z with ⟨⟨o₀, q₀⟩, mm⟩ | ⟨u, z⟩
  · have ib := I1.base
    rw [dX.ex] at ib
    have m2 : b ∉ frs X.stack := fun z => by
      rw [dX.st] at z
      unfold frs at z
      rw [List.filterMap_cons, dX.fr] at z
      rcases List.mem_cons.mp z with z | z
      · have := I2.ok.above
        rw [← z] at this
        exact absurd (Heap.lt_size q₀) (Nat.not_lt.mpr this)
      · exact mm z
    obtain ⟨oa, qa⟩ := ib.there b o₀ q₀ (by simp)
    obtain ⟨ob, qb⟩ := un.there b oa qa (by simp)
    exact fin ob (hB b ob qb (.inl ⟨⟨oa, qa⟩, m2⟩)) (Nat.ne_of_lt (Nat.lt_succ_of_lt (Nat.lt_of_lt_of_le (Heap.lt_size q₀) I2.sz)))
  · obtain ⟨ob, qb⟩ := (hok b u z).there
    exact fin ob (hB b ob qb (.inr ⟨u, z⟩)) fun y => by rw [y, hC'] at z; cases z
end
section
variable {X : Cx} {E : XK}
/-- the block, its callees may raise -/
abbrev blkX (X : Cx) (pins : List (Addr × Obj)) (xs : List Str) (sc : Scope) (C : Addr) (fp : List Addr) (s3 : Shared) (H3 : Hp) (E : XK) : Cx :=
  (blk X pins xs sc C fp s3 H3).wish fun e s' => ∃ (pn : List (Addr × Obj)) (σ : St) (H : Hp) (s : Shared), Inv (blk X pins xs sc C fp s3 H3) pn σ H s ∧ CX1 X.prog X.w X.stack H s E e s'
theorem passB {pins : List (Addr × Obj)} {xs : List Str} {sc : Scope} {C : Addr} {fp : List Addr} {s3 : Shared} {H3 : Hp} : Passes (CX1 X.prog X.w) (blkX X pins xs sc C fp s3 H3 E) E :=
  fun pn σ H s _ _ I h => ⟨pn, σ, H, s, I.unwish, h⟩
theorem cxDef1 {P : Program} {w : World} {K : PySem.W.Frag} {mg : Str → Option Value} {base : Heap} {N : List Str} {qual : Str} {scope : Scope} {f : Addr} {cd : Value} {A : Around} {outer : List Env} {s₀ : Shared} {H₀ : Hp} :
    CxDef (cxOf (CX1 P w) P w K mg base N qual scope f cd A outer s₀ H₀ E) E := ⟨rfl, rfl, rfl, fun _ _ h => h⟩
theorem comp_coreX {tg iter elt : Expr} {ifs : List Expr} {sc : Scope} {pos pos' : Pos} {xs : List Str} {wi : TI} {g : TG} {tc : TT} {te : TE} (dX : CxDef X E) (hcalm : X.calm = true) (B : BlkScope X xs sc) (hi : PI X tg iter wi)
    (hb : ∀ pins C fp s3 H3, PG (blkX X pins xs sc C fp s3 H3 E) tg g ∧ PIf (blkX X pins xs sc C fp s3 H3 E) ifs tc ∧ PE (blkX X pins xs sc C fp s3 H3 E) elt te)
    {pins : List (Addr × Obj)} {s : Shared} {σ : St} {H : Hp} {Q : Value → Shared → Prop} {QA : Addr → Hp → Prop} (I : Inv X pins σ H s) (h : wi σ H fun J H1 => ∀ D, H1 D = none → tTurns J g tc te D (QA D) (blkσ xs σ) (upd H1 D (.lst [])))
    (fin : ∀ C D H' s' m, s'.heap.Ns C m → H' C = none → Inv X pins σ H' s' → QA D H' → (∀ σ2 H2 s2 h2, Inv X pins σ2 H2 s2 → H2 C = none → Heap.SameBut C s2.heap h2 → Inv X pins σ2 H2 { s2 with heap := h2 }) → C ≠ X.env.locals → (∀ x c, X.env.cells.lookup x = some c → c ≠ C) →
      ∀ h', Heap.SameBut C s'.heap h' → Q (.ref D) { s' with heap := h' })
    (hs : ∀ x, foldedSetIterable iter X.env x = pure x := by intro _; rfl) :
    wpAny (model X.prog X.w) X.A (comprehension (.ListComp elt [⟨tg, iter, ifs, 0⟩] sc pos) sc X.env pos' (newList []) false (eval iter X.env) none) Q X.xe s := by
  refine wpAny_comprehension_free (cl := closL X.env.cells sc.names []) (use := none) rfl hs (closureFor_closL (B.cells I.ok)) B.kind B.locs
    (thn (hi pins s σ H _ I h) fun v s1 h1 => thn h1 fun itv s2 h2 => ?_)
  obtain ⟨it, fp, tn, J, H2, e, I2, T, st2, f2, tr⟩ := h2
  subst e
  have hfl : ∀ b ∈ fp, b < s2.heap.objs.size := fun b hb => by obtain ⟨o, e, _⟩ := T.obj _ _ st2 b hb; exact Heap.lt_size e
  have hD : H2 s2.heap.objs.size = none := I2.hok.fresh (Nat.le_refl _)
  refine wpAny_newObj_type (wpAny_newFunctionEnv B.nocell (by intro y hy; simp at hy) (fun h1 hns hsb => ?_) B.kind)
  have hsz : (s2.heap.push { cls := .type "list", data := .seq ([] : List Value).toArray }).objs.size = s2.heap.objs.size + 1 := Heap.size_push ..
  dsimp only at hns hsb ⊢
  rw [hsz] at hns hsb ⊢
  have hk : ∀ b o, (s2.heap.push { cls := .type "list", data := .seq ([] : List Value).toArray }).get? b = some o → h1.get? b = some o := fun b o e =>
    (hsb.2 b (Nat.ne_of_lt (by have := Heap.lt_size e; rw [hsz] at this; exact this))).trans (Heap.get?_push_of_some _ e)
  have J0 := blk_start (tk := s2.toks + ([] : List (Str × Value)).length) hcalm B I2 f2 hfl hns hk
  have st3 : tn 0 h1 := T.keep _ _ _ st2 fun b _ o e => hk b o (Heap.get?_push_of_some _ e)
  have fY : ∀ b ∈ fp, FpOk (blk X pins xs sc (s2.heap.objs.size + 1) fp { s2 with heap := s2.heap.push { cls := .type "list", data := .seq ([] : List Value).toArray } } (upd H2 s2.heap.objs.size (.lst []))) [] (upd H2 s2.heap.objs.size (.lst [])) b := fun b hb => by
    obtain ⟨q1, q2, q3, q4, q5, q6⟩ := f2 b hb
    refine ⟨by rw [upd_ne (Nat.ne_of_lt (hfl b hb))]; exact q1, Nat.ne_of_lt (Nat.lt_succ_of_lt (hfl b hb)), fun z => ?_, .inl hb, fun x c e => q5 x c (B.sub I2.ok e), fun p hp => ?_⟩
    · rcases List.mem_cons.mp (I2.stkSub _ z) with e | z
      · exact q2 e
      · exact q3 z
    · rcases List.mem_append.mp hp with z | z
      · exact q6 p z
      · exact nomatch z
  have loop : (∀ σ' H' s', Inv (blk X pins xs sc (s2.heap.objs.size + 1) fp { s2 with heap := s2.heap.push { cls := .type "list", data := .seq ([] : List Value).toArray } } (upd H2 s2.heap.objs.size (.lst []))) [] σ' H' s' → QA s2.heap.objs.size H' → compPost (model X.prog X.w) X.A X.xe none Q (.ref s2.heap.objs.size) (s2.heap.objs.size + 1) (.ok .next) s') →
      codeAny (model X.prog X.w) X.A (.compLoop (.ListComp elt [⟨tg, iter, ifs, 0⟩] sc pos) 0 (.ref it) (.ref s2.heap.objs.size) (compEnvC sc (closL X.env.cells sc.names []) (s2.heap.objs.size + 1) X.env)) (compPost (model X.prog X.w) X.A X.xe none Q (.ref s2.heap.objs.size) (s2.heap.objs.size + 1))
        { s2 with heap := h1, toks := s2.toks + ([] : List (Str × Value)).length } := fun hR =>
    comp_loopX (Y := blkX X pins xs sc (s2.heap.objs.size + 1) fp { s2 with heap := s2.heap.push { cls := .type "list", data := .seq ([] : List Value).toArray } } (upd H2 s2.heap.objs.size (.lst [])) E) rfl rfl rfl rfl (fun e s' ⟨pn, σb, H1, s1, Jb, cx⟩ => blk_raise dX I2 f2 Jb cx) T (hb _ _ _ _ _).1 (hb _ _ _ _ _).2.1 (hb _ _ _ _ _).2.2 (J0.wish _) st3 fY (tr _ hD) fun σ' H' s' J' q' => hR σ' H' s' J'.unwish q'
  refine codeAny_compStart_list (loop ?_) (T.self _ 0 _ _ _ st3 (loop ?_))
  all_goals
    intro σ' H' s' J' q'
    have I' := blk_end (sc := sc) I2 f2 J'
    obtain ⟨m, hm, _⟩ := J'.loc
    have hC : H' (s2.heap.objs.size + 1) = none := J'.free
    have z := fin (s2.heap.objs.size + 1) s2.heap.objs.size H' s' m hm hC I' q' (fun σ3 H3 s3 h3 I3 c3 sb => blk_gone (fp := fp) (s' := s') (σ' := σ') (H' := H') I2 c3 I3 sb) (Nat.ne_of_gt (Nat.lt_succ_of_lt I2.lt))
      (fun x c e => by obtain ⟨v, q⟩ := I2.cell x c e; exact Nat.ne_of_lt (Nat.lt_succ_of_lt q.lt))
    exact ⟨m, hm, fun h' sb => z h' sb⟩
theorem pe_compX {tg iter elt : Expr} {ifs : List Expr} {sc : Scope} {pos : Pos} (xs : List Str) {wi : TI} {g : TG} {tc : TT} {te : TE} (dX : CxDef X E) (hcalm : X.calm = true) (B : BlkScope X xs sc) (hi : PI X tg iter wi)
    (hb : ∀ pins C fp s3 H3, PG (blkX X pins xs sc C fp s3 H3 E) tg g ∧ PIf (blkX X pins xs sc C fp s3 H3 E) ifs tc ∧ PE (blkX X pins xs sc C fp s3 H3 E) elt te) (hs : ∀ x, foldedSetIterable iter X.env x = pure x := by intro _; rfl) :
    PE X (.ListComp elt [⟨tg, iter, ifs, 0⟩] sc pos) (tComp xs wi g tc te) := by
  intro pins s σ H Q I h
  rw [eval_ListComp]
  exact comp_coreX dX (Q := EP X pins σ Q) (QA := fun D H' => Q (.ref D) H') hcalm B hi hb I h (fun C D H' s' m _ hC I' q back _ _ h' sb => ⟨.ref D, H', back σ H' s' h' I' hC sb, rfl, q⟩) hs
end
end L2
namespace N32
open PySem PySem.Spec PyProof.Rows L2
def top (i : Nat) : Stmt := PySem.Challenge.pw_nearsums_k32_no_kinds_of_lengths.main.body.getD i (.Pass ⟨0, 0, 0, 0⟩)
abbrev sDeck : Stmt := top 45
abbrev sDraw : Stmt := top 46
/-! THE DECK: _law_deck and _law_draw, once for each law (the texts differ in their places alone). sDeck, sDraw: their statements -/
/-- the built-in names that the text does not bind -/
structure Bt (mg : Str → Option Value) : Prop where
  len : mg "len" = none
  max : mg "max" = none
  min : mg "min" = none
  range : mg "range" = none
  list : mg "list" = none
  int : mg "int" = none
/-- the deck at d: the pools at p, each of three ints; c: how often was drawn -/
structure Dk (H : Hp) (d p : Addr) (qs : List Addr) : Prop where
  dk : ∃ c : Int, H d = some (.lst [.ref p, .int c])
  pl : H p = some (.lst (qs.map V.ref))
  ne : 0 < qs.length
  le : qs.length ≤ 63
  q : ∀ q ∈ qs, ∃ a b c : Int, H q = some (.lst [.int a, .int b, .int c])
/-- what stands outside the deck's changing parts is as it was -/
def Off (d : Addr) (qs : List Addr) (H H' : Hp) : Prop := ∀ b, b ≠ d → b ∉ qs → H' b = H b
theorem Off.refl {d : Addr} {qs : List Addr} {H : Hp} : Off d qs H H := fun _ _ _ => rfl
theorem Off.trans {d : Addr} {qs : List Addr} {H H1 H2 : Hp} (a : Off d qs H H1) (b : Off d qs H1 H2) : Off d qs H H2 := fun x h1 h2 => (b x h1 h2).trans (a x h1 h2)
theorem Dk.p_ne_d {H : Hp} {d p : Addr} {qs : List Addr} (D : Dk H d p qs) : p ≠ d := fun e => by
  obtain ⟨c, hd⟩ := D.dk
  have hp := D.pl
  rw [e, hd] at hp
  have e2 : [V.ref p, V.int c] = qs.map V.ref := HO.lst.inj (Option.some.inj hp)
  have e3 : (qs.map V.ref)[1]? = some (V.int c) := by rw [← e2]; rfl
  rw [List.getElem?_map] at e3
  cases h : qs[1]? with
  | none => rw [h] at e3; cases e3
  | some z => rw [h] at e3; cases e3
theorem Dk.q_ne_d {H : Hp} {d p : Addr} {qs : List Addr} (D : Dk H d p qs) {q : Addr} (hq : q ∈ qs) : q ≠ d := fun e => by
  obtain ⟨c, hd⟩ := D.dk
  obtain ⟨x, y, z, h⟩ := D.q q hq
  rw [e, hd] at h
  cases h
theorem Dk.q_ne_p {H : Hp} {d p : Addr} {qs : List Addr} (D : Dk H d p qs) {q : Addr} (hq : q ∈ qs) : q ≠ p := fun e => by
  obtain ⟨x, y, z, h⟩ := D.q q hq
  rw [e, D.pl] at h
  have e2 : qs.map V.ref = [.int x, .int y, .int z] := HO.lst.inj (Option.some.inj h)
  have e3 : (qs.map V.ref)[0]? = some (V.int x) := by rw [e2]; rfl
  rw [List.getElem?_map] at e3
  cases h : qs[0]? with
  | none => rw [h] at e3; cases e3
  | some z => rw [h] at e3; cases e3
/-- the deck is counted on, a pool is written -/
theorem Dk.put {H : Hp} {d p q : Addr} {qs : List Addr} (D : Dk H d p qs) (hq : q ∈ qs) (c x y z : Int) : Dk (upd (upd H d (.lst [.ref p, .int c])) q (.lst [.int x, .int y, .int z])) d p qs := by
  refine ⟨⟨c, ?_⟩, ?_, D.ne, D.le, fun r hr => ?_⟩
  · rw [upd_ne (Ne.symm (D.q_ne_d hq)), upd_same]
  · rw [upd_ne (Ne.symm (D.q_ne_p hq)), upd_ne D.p_ne_d, D.pl]
  · by_cases e : r = q
    · subst e; exact ⟨x, y, z, upd_same⟩
    · obtain ⟨a, b, c', h⟩ := D.q r hr
      exact ⟨a, b, c', by rw [upd_ne e, upd_ne (D.q_ne_d hr), h]⟩
theorem Dk.off {H : Hp} {d p q : Addr} {qs : List Addr} (hq : q ∈ qs) (o u : HO) : Off d qs H (upd (upd H d o) q u) := fun b h1 h2 => by
  have hb : b ≠ q := fun e => h2 (by rw [e]; exact hq)
  rw [upd_ne hb, upd_ne h1]
theorem Dk.stay {H H' : Hp} {d p : Addr} {qs : List Addr} (D : Dk H d p qs) (h : ∀ b, b = d ∨ b = p ∨ b ∈ qs → H' b = H b) : Dk H' d p qs := by
  obtain ⟨c, hd⟩ := D.dk
  refine ⟨⟨c, (h d (.inl rfl)).trans hd⟩, (h p (.inr (.inl rfl))).trans D.pl, D.ne, D.le, fun r hr => ?_⟩
  obtain ⟨a, b, c', e⟩ := D.q r hr
  exact ⟨a, b, c', (h r (.inr (.inr hr))).trans e⟩
theorem Dk.same {H H' : Hp} {d p : Addr} {qs : List Addr} (D : Dk H d p qs) (h : Same H H') : Dk H' d p qs := by
  obtain ⟨c, hd⟩ := D.dk
  refine ⟨⟨c, h _ _ hd⟩, h _ _ D.pl, D.ne, D.le, fun r hr => ?_⟩
  obtain ⟨a, b, c', e⟩ := D.q r hr
  exact ⟨a, b, c', h _ _ e⟩
def spDraw : Sp := fun vs H Q _ => ∃ (d p : Addr) (qs : List Addr) (many : Int), vs = [.ref d, .int many] ∧ Dk H d p qs ∧ 0 < many ∧ many < 1073741824 ∧
  ∀ (r : Int) (H' : Hp), 0 ≤ r → r < many → Dk H' d p qs → Off d qs H H' → Q (.int r) H'
def spDeck (K : PySem.W.Frag) : Sp := fun vs H Q _ => ∃ (a : Addr) (ns : List Int), vs = [.ref a] ∧ SqL K H a (ns.map V.int) ∧ ns.length ≤ 63 ∧
  ∀ (d p : Addr) (qs : List Addr) (H' : Hp), Dk H' d p qs → Same H H' → H d = none → H p = none → (∀ q ∈ qs, H q = none) → Q (.ref d) H'
theorem same_new {H : Hp} {p : Addr} (h : H p = none) (o : HO) : Same H (upd H p o) := fun b u q => by rw [upd_ne (ne_of_none q h)]; exact q
theorem Same.refl {H : Hp} : Same H H := fun _ _ h => h
theorem small {n : Nat} (h : n ≤ 1000) : n ≤ sizeLine := Nat.le_of_lt (small1000 h)
section
variable {P : Program} {w : World} {K : PySem.W.Frag} {mg : Str → Option Value} {base : Heap} {f : Addr} {fd : FuncData}
theorem scDeck : FnScope ["script", "pools", "k", "cell"] ["script"] (defScope sDeck) := ⟨rfl, rfl, rfl, by decide +kernel, rfl, by decide +kernel, by decide +kernel⟩
theorem scDraw : FnScope ["deck", "many", "pool", "found", "number"] ["deck", "many"] (defScope sDraw) := ⟨rfl, rfl, rfl, by decide +kernel, rfl, by decide +kernel, by decide +kernel⟩
theorem ok_draw (F : Fun K "_law_draw" "_law_draw" sDraw f fd) (B : Bt mg) : FnOk P w K mg base CX0 1 f fd ["deck", "many"] spDraw := by
  refine F.ok scDraw (fun vs H Q E h => ?_) (fun cdv A outer s H vs Q E hr h => ?_)
  · obtain ⟨d, p, qs, many, rfl, _⟩ := h
    rfl
  obtain ⟨d, p, qs, many, rfl, D, m0, m1, q⟩ := h
  refine ⟨_, (@pss_cons _ _ _ _ _ (ps_set (i := 2) scDraw.nd rfl (Or.inl rfl) (pe_ix ix_list (pe_ix ix_list (pv 0) pe_int (fun _ _ => rfl)) (pe_op op_mod (pe_ix ix_list (pv 0) pe_int (fun _ _ => rfl)) (pe_callB call_len_seq rfl B.len PySem.boot_len (pa_cons (pe_ix ix_list (pv 0) pe_int (fun _ _ => rfl)) pa_nil))) (fun _ _ => rfl))) (@pss_cons _ _ _ _ _ (ps_asg (pe_op op_add (pe_ix ix_list (pv 0) pe_int (fun _ _ => rfl)) pe_int) (pg_sub (pv 0) pe_int set_list)) (@pss_cons _ _ _ _ _ (ps_if (PW.pt (pw_and (pt_cmpR op_eq (pe_ix ix_list (pv 2) pe_int (fun _ _ => rfl)) pe_int (nomark _)) (pw_and1 (pt_cmpR op_gt (pe_ix ix_list (pv 2) pe_int (fun _ _ => rfl)) pe_int (nomark _))))) (@pss_cons _ _ _ _ _ (ps_set (i := 3) scDraw.nd rfl (Or.inl rfl) (pe_op op_mod (pe_ix ix_list (pv 2) pe_int (fun _ _ => rfl)) (pv 1))) (@pss_cons _ _ _ _ _ (ps_asg (pe_op op_fdiv (pe_ix ix_list (pv 2) pe_int (fun _ _ => rfl)) (pv 1)) (pg_sub (pv 2) pe_int set_list)) (@pss_one _ _ _ (ps_ret (pv 3))))) pss_nil) (@pss_cons _ _ _ _ _ (ps_asg (pe_op op_add (pe_ix ix_list (pv 2) pe_int (fun _ _ => rfl)) pe_int) (pg_sub (pv 2) pe_int set_list)) (@pss_cons _ _ _ _ _ (ps_set (i := 4) scDraw.nd rfl (Or.inl rfl) (pe_op op_mod (pe_op op_add (pe_op op_mod (pe_ix ix_list (pv 2) pe_int (fun _ _ => rfl)) pe_int) (pe_op op_mul pe_int (pe_ix ix_list (pv 2) pe_int (fun _ _ => rfl)))) pe_int)) (@pss_cons _ _ _ _ _ (ps_set (i := 4) scDraw.nd rfl (Or.inl rfl) (pe_op op_mod (pe_op op_mul (pv 4) (pv 4)) pe_int)) (@pss_cons _ _ _ _ _ (ps_set (i := 4) scDraw.nd rfl (Or.inl rfl) (pe_op op_mod (pe_op op_mul (pv 4) (pe_op op_add (pv 4) pe_int)) pe_int)) (@pss_one _ _ _ (ps_ret (pe_op op_mod (pe_op op_fdiv (pv 4) pe_int) (pv 1))))))))))), ?_⟩
  obtain ⟨c, hd⟩ := D.dk
  have hp := D.pl
  have hlen : (qs.map V.ref).length = qs.length := List.length_map _
  have hne := D.ne
  -- which pool
  have hc0 : 0 ≤ c % ((qs.length : Nat) : Int) := Int.emod_nonneg _ (by omega)
  have hc1 : c % ((qs.length : Nat) : Int) < (qs.length : Nat) := Int.emod_lt_of_pos _ (by omega)
  obtain ⟨j, hj⟩ : ∃ j : Nat, c % ((qs.length : Nat) : Int) = (j : Int) := ⟨(c % ((qs.length : Nat) : Int)).toNat, by omega⟩
  have hjl : j < qs.length := by omega
  have hqm : qs[j] ∈ qs := List.getElem_mem hjl
  have hat : atI (qs.map V.ref) (c % (((qs.map V.ref).length : Nat) : Int)) = some (.ref qs[j]) := by
    rw [hlen, hj]
    exact atI_nat (by rw [List.getElem?_map, List.getElem?_eq_getElem hjl]; rfl)
  obtain ⟨x, y, z, hq⟩ := D.q _ hqm
  generalize hqj : qs[j] = qa at *
  have hmod : (0 : Int) < (((qs.map V.ref).length : Nat) : Int) := by rw [hlen]; omega
  refine ⟨_, rfl, d, _, 0, _, rfl, rfl, SqL.of hd, rfl, _, rfl, d, _, 1, _, rfl, rfl, SqL.of hd, rfl, _, rfl, d, _, 0, _, rfl, rfl, SqL.of hd, rfl, p, _, rfl, .inl (SqL.of hp), _, _, rfl, rfl, hmod, p, _, _, _, rfl, rfl, SqL.of hp, hat, ?_⟩
  refine ⟨_, rfl, d, _, 1, _, rfl, rfl, SqL.of hd, rfl, _, _, rfl, rfl, _, rfl, d, _, 1, 1, rfl, rfl, hd, rfl, ?_⟩
  have hqd := D.q_ne_d hqm
  have hqp := D.q_ne_p hqm
  have h1q : upd H d (.lst [.ref p, .int (c + 1)]) qa = some (.lst [.int x, .int y, .int z]) := by rw [upd_ne hqd]; exact hq
  have fin : ∀ (a b e r : Int), 0 ≤ r → r < many → Q (.int r) (upd (upd H d (.lst [.ref p, .int (c + 1)])) qa (.lst [.int a, .int b, .int e])) := fun a b e r r0 r1 =>
    q r _ r0 r1 (D.put hqm _ _ _ _) (Dk.off (p := p) hqm _ _)
  have mm : ∀ k : Int, 0 ≤ k % many ∧ k % many < many := fun k => ⟨Int.emod_nonneg _ (by omega), Int.emod_lt_of_pos _ m0⟩
  -- the way that takes digits
  have way1 : tSeq (tAsg (tOp (rI (fun _ j => 0 < j) fun i j => .int (i % j)) (tOp (rIxL K) (tVar 2) (tC (.int 0))) (tVar 1)) (gName 3))
      (tSeq (tAsg (tOp (rI CDiv fun i j => .int (i / j)) (tOp (rIxL K) (tVar 2) (tC (.int 0))) (tVar 1)) (gSub (tVar 2) (tC (.int 0)) rSetL)) (tRet (tVar 3)))
      { nx := fun _ H' => Q .non H', rt := Q } [some (.ref d), some (.int many), some (.ref qa), none, none] (upd H d (.lst [.ref p, .int (c + 1)])) := by
    refine ⟨_, rfl, qa, _, 0, _, rfl, rfl, SqL.of h1q, rfl, _, rfl, _, _, rfl, rfl, m0, ?_⟩
    refine ⟨_, rfl, qa, _, 0, _, rfl, rfl, SqL.of h1q, rfl, _, rfl, _, _, rfl, rfl, ⟨m0, m1⟩, _, rfl, qa, _, 0, 0, rfl, rfl, h1q, rfl, ?_⟩
    exact ⟨_, rfl, fin _ _ _ _ (mm x).1 (mm x).2⟩
  have way2 : tSeq (tAsg (tOp (rI0 fun i j => .int (i + j)) (tOp (rIxL K) (tVar 2) (tC (.int 2))) (tC (.int 1))) (gSub (tVar 2) (tC (.int 2)) rSetL))
      (tSeq (tAsg (tOp (rI (fun _ j => 0 < j) fun i j => .int (i % j)) (tOp (rI0 fun i j => .int (i + j)) (tOp (rI (fun _ j => 0 < j) fun i j => .int (i % j)) (tOp (rIxL K) (tVar 2) (tC (.int 0))) (tC (.int 99999999977))) (tOp (rI CMul fun i j => .int (i * j)) (tC (.int 700001)) (tOp (rIxL K) (tVar 2) (tC (.int 2))))) (tC (.int 99999999947))) (gName 4))
      (tSeq (tAsg (tOp (rI (fun _ j => 0 < j) fun i j => .int (i % j)) (tOp (rI CMul fun i j => .int (i * j)) (tVar 4) (tVar 4)) (tC (.int 99999999821))) (gName 4))
      (tSeq (tAsg (tOp (rI (fun _ j => 0 < j) fun i j => .int (i % j)) (tOp (rI CMul fun i j => .int (i * j)) (tVar 4) (tOp (rI0 fun i j => .int (i + j)) (tVar 4) (tC (.int 19)))) (tC (.int 9999999967))) (gName 4))
      (tRet (tOp (rI (fun _ j => 0 < j) fun i j => .int (i % j)) (tOp (rI CDiv fun i j => .int (i / j)) (tVar 4) (tC (.int 13))) (tVar 1))))))
      { nx := fun _ H' => Q .non H', rt := Q } [some (.ref d), some (.int many), some (.ref qa), none, none] (upd H d (.lst [.ref p, .int (c + 1)])) := by
    refine ⟨_, rfl, qa, _, 2, _, rfl, rfl, SqL.of h1q, rfl, _, _, rfl, rfl, _, rfl, qa, _, 2, 2, rfl, rfl, h1q, rfl, ?_⟩
    have h2q : upd (upd H d (.lst [.ref p, .int (c + 1)])) qa (.lst [.int x, .int y, .int (z + 1)]) qa = some (.lst [.int x, .int y, .int (z + 1)]) := upd_same
    refine ⟨_, rfl, qa, _, 0, _, rfl, rfl, SqL.of h2q, rfl, _, _, rfl, rfl, (by show (0 : Int) < 99999999977; decide), _, rfl, qa, _, 2, _, rfl, rfl, SqL.of h2q, rfl, _, _, rfl, rfl, .inl ⟨by decide, by decide⟩, _, _, rfl, rfl, _, _, rfl, rfl, (by show (0 : Int) < 99999999947; decide), ?_⟩
    have k0 : 0 ≤ (x % 99999999977 + 700001 * (z + 1)) % 99999999947 := Int.emod_nonneg _ (by decide)
    have k1 : (x % 99999999977 + 700001 * (z + 1)) % 99999999947 < 99999999947 := Int.emod_lt_of_pos _ (by decide)
    generalize (x % 99999999977 + 700001 * (z + 1)) % 99999999947 = n1 at k0 k1 ⊢
    refine ⟨_, rfl, _, rfl, _, _, rfl, rfl, .inl ⟨by omega, by omega⟩, _, _, rfl, rfl, (by show (0 : Int) < 99999999821; decide), ?_⟩
    have l0 : 0 ≤ n1 * n1 % 99999999821 := Int.emod_nonneg _ (by decide)
    have l1 : n1 * n1 % 99999999821 < 99999999821 := Int.emod_lt_of_pos _ (by decide)
    generalize n1 * n1 % 99999999821 = n2 at l0 l1 ⊢
    refine ⟨_, rfl, _, rfl, _, _, rfl, rfl, _, _, rfl, rfl, .inl ⟨by omega, by omega⟩, _, _, rfl, rfl, (by show (0 : Int) < 9999999967; decide), ?_⟩
    generalize n2 * (n2 + 19) % 9999999967 = n3
    exact ⟨_, rfl, _, _, rfl, rfl, ⟨by decide, by decide⟩, _, rfl, _, _, rfl, rfl, m0, fin _ _ _ _ (mm _).1 (mm _).2⟩
  refine ⟨_, rfl, qa, _, 1, _, rfl, rfl, SqL.of h1q, rfl, rfl, _, rfl, ?_⟩
  refine ite2 (fun _ => ?_) (fun _ => ?_)
  · refine ⟨_, rfl, qa, _, 0, _, rfl, rfl, SqL.of h1q, rfl, _, _, rfl, rfl, _, rfl, ?_⟩
    exact ite2 (fun _ => way1) (fun _ => way2)
  · exact way2
theorem ok_deck (F : Fun K "_law_deck" "_law_deck" sDeck f fd) (B : Bt mg) : FnOk P w K mg base CX0 1 f fd ["script"] (spDeck K) := by
  refine F.ok scDeck (fun vs H Q E h => ?_) (fun cdv A outer s H vs Q E hr h => ?_)
  · obtain ⟨a, ns, rfl, _⟩ := h
    rfl
  obtain ⟨a, ns, rfl, hS, h63, q⟩ := h
  refine ⟨_, (@pss_cons _ _ _ _ _ (ps_set (i := 1) scDeck.nd rfl (Or.inl rfl) (pe_lst pa_nil)) (@pss_cons _ _ _ _ _ (ps_for PassesOwn.never rfl (pi_range1 rfl B.range (pa_cons (pe_callB (call_max2 rfl) rfl B.max boot_max (pa_cons pe_int (pa_cons (pe_callB (call_min2 rfl) rfl B.min boot_min (pa_cons pe_int (pa_cons (pe_callB call_len_seq rfl B.len PySem.boot_len (pa_cons (pv 0) pa_nil)) pa_nil))) pa_nil))) pa_nil)) (pg_name (i := 2) scDeck.nd rfl (Or.inl rfl)) (@pss_cons _ _ _ _ _ (ps_set (i := 3) scDeck.nd rfl (Or.inl rfl) pe_int) (@pss_cons _ _ _ _ _ (ps_if (pt_cmpR op_lt (pv 2) (pe_callB call_len_seq rfl B.len PySem.boot_len (pa_cons (pv 0) pa_nil)) (nomark _)) (@pss_one _ _ _ (ps_set (i := 3) scDeck.nd rfl (Or.inl rfl) (pe_ix ix_list (pv 0) (pv 2) (fun _ _ => rfl)))) pss_nil) (@pss_one _ _ _ (ps_expr (pe_bm PySem.F.plainAttrs_list PySem.F.slot_list_append PySem.F.type_list_append mt_append (pv 1) (pa_cons (pe_lst (pa_cons (pv 3) (pa_cons (pe_callTy call_int1 rfl B.int PyProof.Rows.boot_int (pa_cons (pe_cmpR op_ge (pv 3) (pe_op op_pow pe_int pe_int) (nomark _)) pa_nil)) (pa_cons (pe_op op_mul pe_int (pv 2)) pa_nil)))) pa_nil))))))) (@pss_one _ _ _ (ps_ret (pe_lst (pa_cons (pv 1) (pa_cons pe_int pa_nil))))))), ?_⟩
  have hl : (ns.map V.int).length = ns.length := List.length_map _
  refine ⟨(by show 0 ≤ sizeLine; decide), fun p hp => ?_⟩
  have g0 : Same H (upd H p (.lst [])) := same_new hp _
  have hS0 : SqL K (upd H p (.lst [])) a (ns.map V.int) := g0.seq hS
  refine ⟨_, rfl, a, _, rfl, .inl hS0, _, _, rfl, _, _, rfl, _, rfl, ?_, ?_, ?_⟩
  · split <;> split <;> omega
  · split <;> split <;> omega
  generalize hN : (if (if (((ns.map V.int).length : Nat) : Int) < 63 then (((ns.map V.int).length : Nat) : Int) else 63) > 1 then (if (((ns.map V.int).length : Nat) : Int) < 63 then (((ns.map V.int).length : Nat) : Int) else 63) else 1) = mx
  have hmx : 1 ≤ mx ∧ mx ≤ 63 := by rw [← hN]; constructor <;> (split <;> split <;> omega)
  refine for_range (lo := 0) (n := mx.toNat) (fun i σ H' => ∃ (qs : List Addr) (x y : Option V), σ = [some (.ref a), some (.ref p), x, y] ∧ qs.length = i ∧ H' p = some (.lst (qs.map V.ref)) ∧
      (∀ q ∈ qs, H q = none ∧ q ≠ p ∧ ∃ a b c : Int, H' q = some (.lst [.int a, .int b, .int c])) ∧ Same H H')
    ⟨[], none, none, rfl, rfl, upd_same, (fun _ h => nomatch h), g0⟩ ?_ ?_
  · rintro i σ H1 hi ⟨qs, x, y, rfl, hql, h1p, h1q, g1⟩
    have hS1 : SqL K H1 a (ns.map V.int) := g1.seq hS
    -- the end of the turn, whatever the cell
    have app : ∀ v : Int, tDrop (tBM K "list" rAppend (tVar 1) (tCons (tLst (tCons (tVar 3) (tCons (tCB (fun xs H Q => (∃ i, xs = [.int i] ∧ Q (.int i) H) ∨ ∃ k, xs = [.bl k] ∧ Q (.int (if k then 1 else 0)) H) (tCons (tOp (rI0 fun i j => .bl (decide (j ≤ i))) (tVar 3) (tOp (rI CPow fun i j => .int (i ^ j.toNat)) (tC (.int 10)) (tC (.int 18)))) tNil)) (tCons (tOp (rI CMul fun i j => .int (i * j)) (tC (.int 31)) (tVar 2)) tNil)))) tNil))
        { nx := fun σ H' => ∃ (qs : List Addr) (x y : Option V), σ = [some (.ref a), some (.ref p), x, y] ∧ qs.length = i + 1 ∧ H' p = some (.lst (qs.map V.ref)) ∧
            (∀ q ∈ qs, H q = none ∧ q ≠ p ∧ ∃ a b c : Int, H' q = some (.lst [.int a, .int b, .int c])) ∧ Same H H', rt := Q }
        [some (.ref a), some (.ref p), some (.int (0 + i)), some (.int v)] H1 := by
      intro v
      refine ⟨_, rfl, .inl ⟨rfl, _, SqL.of h1p⟩, _, rfl, _, rfl, _, _, rfl, rfl, ⟨by decide, by decide, by decide⟩, _, _, rfl, rfl, .inr ⟨_, rfl, ?_⟩⟩
      refine ⟨_, rfl, _, _, rfl, rfl, .inl ⟨by decide, by decide⟩, (by show 3 ≤ sizeLine; decide), fun q hq => ?_⟩
      have hqp : p ≠ q := ne_of_none h1p hq
      have hHq : H q = none := by
        cases e : H q with
        | none => rfl
        | some o => rw [g1 _ _ e] at hq; cases hq
      refine ⟨p, qs.map V.ref, _, rfl, rfl, by rw [upd_ne hqp]; exact h1p, ?_, ?_⟩
      · rw [List.length_map]; exact small1000 (by omega)
      · refine ⟨qs ++ [q], _, _, rfl, by rw [List.length_append, List.length_singleton, hql], by rw [upd_same, List.map_append]; rfl, fun r hr => ?_, fun b o hb => ?_⟩
        · rcases List.mem_append.mp hr with hr | hr
          · obtain ⟨r1, r2, x', y', z', r3⟩ := h1q r hr
            exact ⟨r1, r2, x', y', z', by rw [upd_ne r2, upd_ne (ne_of_none r3 hq)]; exact r3⟩
          · have e : r = q := List.mem_singleton.mp hr
            subst e
            exact ⟨hHq, Ne.symm hqp, _, _, _, by rw [upd_ne (Ne.symm hqp), upd_same]⟩
        · have hb1 := g1 _ _ hb
          rw [upd_ne (fun e => by rw [e, hp] at hb; cases hb), upd_ne (ne_of_none hb1 hq)]
          exact hb1
    refine ⟨_, rfl, _, rfl, a, _, rfl, .inl hS1, _, _, rfl, rfl, _, rfl, ?_⟩
    refine ite2 (fun c => ?_) (fun _ => app 0)
    have c' : (0 : Int) + (i : Int) < (((ns.map V.int).length : Nat) : Int) := of_decide_eq_true c
    have hin : i < ns.length := by rw [hl] at c'; omega
    refine ⟨_, rfl, _, rfl, a, _, _, .int ns[i], rfl, rfl, hS1, ?_, app _⟩
    have e : (0 : Int) + (i : Int) = ((i : Nat) : Int) := by omega
    rw [e]
    exact atI_nat (by rw [List.getElem?_map, List.getElem?_eq_getElem hin]; rfl)
  · rintro σ H1 ⟨qs, x, y, rfl, hql, h1p, h1q, g1⟩
    refine ⟨_, rfl, (by show 2 ≤ sizeLine; decide), fun d hd => ?_⟩
    have hpd : p ≠ d := ne_of_none h1p hd
    have hHd : H d = none := by
      cases e : H d with
      | none => rfl
      | some o => rw [g1 _ _ e] at hd; cases hd
    refine q d p qs _ ⟨⟨0, upd_same⟩, by rw [upd_ne hpd]; exact h1p, by omega, by omega, fun r hr => ?_⟩ (g1.trans (same_new hd _)) hHd hp fun r hr => (h1q r hr).1
    obtain ⟨_, _, x', y', z', r3⟩ := h1q r hr
    exact ⟨x', y', z', by rw [upd_ne (ne_of_none r3 hd)]; exact r3⟩
end
structure Bt2 (mg : Str → Option Value) : Prop extends Bt mg where
  all : mg "all" = none
  isinstance : mg "isinstance" = none
  bool : mg "bool" = none
  str : mg "str" = none
  tuple : mg "tuple" = none
  sorted : mg "sorted" = none
theorem none_of_same {H H' : Hp} {p : Addr} (g : Same H H') (h : H' p = none) : H p = none := by
  cases e : H p with
  | none => rfl
  | some o => rw [g _ _ e] at h; cases h
/-! THE DRAWN PLAN: _law_plan -/
/-- a rising list of ints from 0 on (not too great) -/
structure Rise (xs : List Int) : Prop where
  up : xs.Pairwise (· < ·)
  bd : ∀ x ∈ xs, 0 ≤ x
structure PlanOk (ns ss : List Int) : Prop where
  n : Rise ns
  s : Rise ss
  n1 : 1 ≤ ns.length
  n2 : ns.length ≤ 10
  s2 : ss.length ≤ 10
/-- not too great (drawn plans are so) -/
def Small (ns ss : List Int) : Prop := (∀ x ∈ ns, x < 2 ^ 96) ∧ ∀ x ∈ ss, x < 2 ^ 96
def InD (d : Addr) (qs : List Addr) : Addr → Prop := fun b => b = d ∨ b ∈ qs
theorem Off.ex {d : Addr} {qs : List Addr} {H H' : Hp} (o : Off d qs H H') : Ex (InD d qs) H H' := fun b u n h => (o b (fun z => n (.inl z)) (fun z => n (.inr z))).trans h
theorem Dk.out {H : Hp} {d p x : Addr} {qs : List Addr} (D : Dk H d p qs) (h : H x = none) : ¬ InD d qs x := fun z => by
  rcases z with z | z
  · obtain ⟨c, y⟩ := D.dk; rw [z, y] at h; cases h
  · obtain ⟨_, _, _, y⟩ := D.q _ z; rw [y] at h; cases h
/-- what is not there behind draws was not there ahead -/
theorem exNone {d p x : Addr} {qs : List Addr} {H H' : Hp} (D : Dk H' d p qs) (o : Ex (InD d qs) H H') (h : H' x = none) : H x = none := by
  cases e : H x with
  | none => rfl
  | some u =>
    have z := o x u (D.out h) e
    rw [h] at z; cases z
theorem pl_ne_ints {xs : List Int} {qs : List Addr} (hq : 0 < qs.length) (h : some (HO.lst (xs.map V.int)) = some (.lst (qs.map V.ref))) : False := by
  have e : xs.map V.int = qs.map V.ref := HO.lst.inj (Option.some.inj h)
  cases qs with
  | nil => exact Nat.lt_irrefl _ hq
  | cons q r =>
    cases xs with
    | nil => cases e
    | cons x r' => cases e
theorem comp_true {x : V} {σ : L2.St} {H : Hp} {A B : L2.St → Hp → Prop} (h : A (σ.set 0 (some x)) H) : gName 0 x σ H fun σ2 H2 => tTrue σ2 H2 fun b H3 => if b = true then A σ2 H3 else B σ2 H3 := by
  have z : (if true = true then A (σ.set 0 (some x)) H else B (σ.set 0 (some x)) H) := iteT h
  exact z
def spMk : Sp := fun vs H Q _ => ∃ (d p : Addr) (qs : List Addr), vs = [.ref d] ∧ Dk H d p qs ∧
  ∀ (t a b : Addr) (ns ss : List Int) (H' : Hp), Dk H' d p qs → Ex (InD d qs) H H' → H t = none → H a = none → H b = none → a ≠ b → H' t = some (.tup [.ref a, .ref b]) → H' a = some (.lst (ns.map V.int)) → H' b = some (.lst (ss.map V.int)) → PlanOk ns ss → Small ns ss → Q (.ref t) H'
theorem erase_map {α β : Type} (f : α → β) : ∀ (l : List α) (i : Nat), (l.map f).eraseIdx i = (l.eraseIdx i).map f
  | [], _ => rfl
  | _ :: _, 0 => rfl
  | x :: r, i + 1 => by
    rw [List.map_cons, List.eraseIdx_cons_succ, List.eraseIdx_cons_succ, List.map_cons, erase_map f r i]
theorem perm_erase {α : Type} : ∀ {l : List α} {i : Nat} (h : i < l.length), (l[i] :: l.eraseIdx i).Perm l
  | x :: r, 0, _ => List.Perm.refl _
  | x :: r, i + 1, h => by
    have h' : i < r.length := by simpa using h
    show (r[i] :: x :: r.eraseIdx i).Perm (x :: r)
    exact (List.Perm.swap _ _ _).trans (List.Perm.cons x (perm_erase h'))
theorem nodup_map {α β : Type} {f : α → β} (hf : ∀ a b, f a = f b → a = b) : ∀ {l : List α}, l.Nodup → (l.map f).Nodup
  | [], _ => List.nodup_nil
  | x :: r, h => by
    rw [List.nodup_cons] at h
    rw [List.map_cons, List.nodup_cons]
    refine ⟨fun z => ?_, nodup_map hf h.2⟩
    obtain ⟨y, hy, e⟩ := List.mem_map.mp z
    exact h.1 (hf _ _ e ▸ hy)
theorem range_nodup (n : Nat) : ((List.range n).map fun k : Nat => (k : Int)).Nodup := nodup_map (fun a b h => by omega) List.nodup_range
/-- the dict of sums: at most n ints, not too great -/
def SumsOk (H : Hp) (sd : Addr) (n : Nat) : Prop := ∃ (kvs : List (Key × V)) (ks : List Int), H sd = some (.dK kvs) ∧ kvs.map (·.1) = ks.map Sum.inl ∧ ks.Nodup ∧ (∀ x ∈ ks, 0 ≤ x ∧ x < 2 ^ 96) ∧ ks.length ≤ n
theorem SumsOk.stay {H H' : Hp} {sd : Addr} {n : Nat} (h : SumsOk H sd n) (e : ∀ {o}, H sd = some o → H' sd = some o) : SumsOk H' sd n := by
  obtain ⟨kvs, ks, h1, h2⟩ := h
  exact ⟨kvs, ks, e h1, h2⟩
theorem SumsOk.upto {H : Hp} {sd : Addr} {n m : Nat} (h : SumsOk H sd n) (e : n ≤ m) : SumsOk H sd m := by
  obtain ⟨kvs, ks, h1, h2, h3, h4, h5⟩ := h
  exact ⟨kvs, ks, h1, h2, h3, h4, Nat.le_trans h5 e⟩
theorem SumsOk.more {H : Hp} {sd : Addr} {n : Nat} (h : SumsOk H sd n) : SumsOk H sd (n + 1) := h.upto (Nat.le_succ _)
theorem SumsOk.put {H : Hp} {sd : Addr} {n : Nat} {x : Int} (h : SumsOk H sd n) (x0 : 0 ≤ x) (x1 : x < 2 ^ 96) : ∃ kvs, H sd = some (.dK kvs) ∧ kvs.length ≤ n ∧ SumsOk (upd H sd (.dK (putK kvs (Sum.inl x) (.bl true)))) sd (n + 1) := by
  obtain ⟨kvs, ks, h1, h2, h3, h4, h5⟩ := h
  have hl : kvs.length = ks.length := by have := congrArg List.length h2; simpa using this
  refine ⟨kvs, h1, by omega, _, _, upd_same, putK_keys h2, ?_, ?_, ?_⟩
  · split
    · exact h3
    · rename_i hx
      refine List.nodup_append.mpr ⟨h3, List.nodup_cons.mpr ⟨(fun h => nomatch h), List.nodup_nil⟩, fun a ha b hb e => ?_⟩
      have : b = x := List.mem_singleton.mp hb
      exact hx (this ▸ e ▸ ha)
  · intro y hy
    split at hy
    · exact h4 y hy
    · rcases List.mem_append.mp hy with z | z
      · exact h4 y z
      · rw [List.mem_singleton.mp z]; exact ⟨x0, x1⟩
  · split
    · omega
    · rw [List.length_append, List.length_singleton]; omega
theorem cut10 (ks : List Int) : cutV (ks.map V.int) none (some 10) = (ks.take 10).map V.int := by
  unfold cutV
  have e1 : HT.sIx (ks.map V.int).length 0 none = 0 := rfl
  have e2 : HT.sIx (ks.map V.int).length (ks.map V.int).length (some 10) = min 10 ks.length := (HT.sIx_nat _ _ 10).trans (by rw [List.length_map])
  rw [e1, e2, List.drop_zero, Nat.sub_zero, ← List.map_take, ← List.take_eq_take_min]
theorem strict {xs : List Int} (h : xs.Pairwise (· ≤ ·)) (n : xs.Nodup) : xs.Pairwise (· < ·) := by
  induction xs with
  | nil => exact .nil
  | cons x r ih =>
    rw [List.pairwise_cons] at h ⊢
    rw [List.nodup_cons] at n
    refine ⟨fun y hy => ?_, ih h.2 n.2⟩
    have h1 := h.1 y hy
    have h2 : x ≠ y := fun e => n.1 (e ▸ hy)
    omega
def uptoN (m : Nat) : List Int := (List.range m).map fun k : Nat => 1 + (k : Int)
theorem uptoN_rise (m : Nat) (h : m ≤ 10) : Rise (uptoN m) ∧ ∀ x ∈ uptoN m, x < 2 ^ 96 := by
  have key : ∀ m : _root_.Fin 11, (uptoN m.val).Pairwise (· < ·) ∧ (∀ x ∈ uptoN m.val, 0 ≤ x) ∧ ∀ x ∈ uptoN m.val, x < 2 ^ 96 := by decide +kernel
  have k := key ⟨m, by omega⟩
  exact ⟨⟨k.1, k.2.1⟩, k.2.2⟩
theorem uptoN_is (n : Int) : ((List.range (n + 1 - 1).toNat).map fun k : Nat => V.int (1 + (k : Int))) = (uptoN n.toNat).map V.int := by
  have e : n + 1 - 1 = n := by omega
  rw [e]
  unfold uptoN
  rw [List.map_map]
  rfl
structure Bt3 (mg : Str → Option Value) : Prop extends Bt2 mg where
  enumerate : mg "enumerate" = none
/-! is_whole, is_rising_list, is_plan of any data -/
structure BtR (mg : Str → Option Value) : Prop extends Bt2 mg where
  repr : mg "repr" = none
abbrev sWhole : Stmt := top 17
abbrev sRise : Stmt := top 18
abbrev sIsP : Stmt := top 19
/-- a good plan at t -/
structure IsPl (H : Hp) (t a b : Addr) (ns ss : List Int) : Prop where
  t : H t = some (.tup [.ref a, .ref b])
  a : H a = some (.lst (ns.map V.int))
  b : H b = some (.lst (ss.map V.int))
  ok : PlanOk ns ss
theorem IsPl.same {H H' : Hp} {t a b : Addr} {ns ss : List Int} (h : IsPl H t a b ns ss) (g : Same H H') : IsPl H' t a b ns ss := ⟨g _ _ h.t, g _ _ h.a, g _ _ h.b, h.ok⟩
def spWholeD : Sp := fun vs H Q _ => ∃ v d, vs = [v] ∧ Dat H v d ∧ Q (.bl (isW d)) H
def spRiseD : Sp := fun vs H Q _ => ∃ v d few, vs = [v, .int few] ∧ Dat H v d ∧ Q (.bl (riseD few d)) H
def spIsPD : Sp := fun vs H Q _ => ∃ v d, vs = [v] ∧ Dat H v d ∧ Q (.bl (planD d)) H
theorem Dat.ofInt {H : Hp} {v : V} {n : Int} (h : Dat H v (.int n)) : v = .int n := by cases h; rfl
theorem rise_step {ds : List PyData} {i : Nat} {d : PyData} {b : Int} (e : ds[i]? = some d) : riseGo b (ds.drop i) = riseGo b (d :: ds.drop (i + 1)) := by
  obtain ⟨hi, hv⟩ := List.getElem?_eq_some_iff.mp e
  rw [List.drop_eq_getElem_cons hi, hv]
theorem rise_ints : ∀ {xs : List Int} {b : Int}, xs.Pairwise (· < ·) → (∀ x ∈ xs, b < x) → riseGo b (xs.map PyData.int) = true
  | [], _, _, _ => rfl
  | x :: r, b, h, hb => by
    rw [List.pairwise_cons] at h
    show (decide (b < x) && riseGo x (r.map PyData.int)) = true
    rw [decide_eq_true (hb x List.mem_cons_self), rise_ints h.2 h.1]
    rfl
theorem rise_of {xs : List Int} (h : Rise xs) {few : Int} (l1 : few ≤ (xs.length : Int)) (l2 : xs.length ≤ 10) : riseD few (.list (xs.map PyData.int)) = true := by
  show (decide (few ≤ (((xs.map PyData.int).length : Nat) : Int)) && (decide ((xs.map PyData.int).length ≤ 10) && riseGo (-1) (xs.map PyData.int))) = true
  rw [List.length_map, decide_eq_true l1, decide_eq_true l2, rise_ints h.up fun x hx => by have := h.bd x hx; omega]
  rfl
theorem IsPl.dat {H : Hp} {t a b : Addr} {ns ss : List Int} (h : IsPl H t a b ns ss) : ∃ d, Dat H (.ref t) d ∧ planD d = true := by
  refine ⟨_, .tup h.t (.cons (.lst h.a (DatAll.ints ns)) (.cons (.lst h.b (DatAll.ints ss)) .nil)), ?_⟩
  show (riseD 1 (.list (ns.map PyData.int)) && riseD 0 (.list (ss.map PyData.int))) = true
  have n1 := h.ok.n1
  rw [rise_of h.ok.n (by omega) h.ok.n2, rise_of h.ok.s (by omega) h.ok.s2]
  rfl
section
variable {P : Program} {w : World} {K : PySem.W.Frag} {mg : Str → Option Value} {base : Heap} {f wh ri : Addr} {fd whd rid : FuncData} {t10 : Tok}
theorem scWhole : FnScope ["thing"] ["thing"] (defScope sWhole) := ⟨rfl, rfl, rfl, by decide +kernel, rfl, by decide +kernel, by decide +kernel⟩
theorem ok_wholeD (F : Fun K "is_whole" "is_whole" sWhole f fd) (B : Bt2 mg) : FnOk P w K mg base CX0 1 f fd ["thing"] spWholeD := by
  refine F.ok scWhole (fun vs H Q E h => ?_) (fun cdv A outer s H vs Q E hr h => ?_)
  · obtain ⟨v, d, rfl, _⟩ := h
    rfl
  obtain ⟨v, d, rfl, hd, q⟩ := h
  refine ⟨_, (@pss_one _ _ _ (ps_ret (pe_and (pe_callB (call_isi "int") rfl B.isinstance boot_isinstance (pa_cons (pv 0) (pa_cons (pe_bltn (v := .ty "int") rfl B.int PyProof.Rows.boot_int rfl) pa_nil))) (pe_one (pe_not (pe_callB (call_isi "bool") rfl B.isinstance boot_isinstance (pa_cons (pv 0) (pa_cons (pe_bltn (v := .ty "bool") rfl B.bool PyProof.Rows.boot_bool rfl) pa_nil)))))))), ?_⟩
  refine ⟨_, rfl, _, _, isI d, rfl, hd.ty, kit_i _ d, _, rfl, ite2 (fun c => ?_) (fun c => ?_)⟩
  · refine ⟨_, rfl, _, _, isB d, rfl, hd.ty, kit_b _ d, _, rfl, ?_⟩
    have e : (!isB d) = isW d := by cases d <;> first | rfl | cases c
    rw [← e] at q
    exact q
  · have e : isW d = false := by cases d <;> first | rfl | exact absurd rfl c
    rw [e] at q
    exact q
theorem scRise : FnScope ["thing", "fewest", "below", "number"] ["thing", "fewest"] (defScope sRise) := ⟨rfl, rfl, rfl, by decide +kernel, rfl, by decide +kernel, by decide +kernel⟩
theorem ok_riseD (F : Fun K "is_rising_list" "is_rising_list" sRise f fd) (B : Bt2 mg) (m10 : mg "MOST" = some (.int 10 t10))
    (GW : FnOk P w K mg base CX0 1 wh whd ["thing"] spWholeD) (bW : Binds K whd ["thing"] []) (kW : PySem.W.keepIn K (.ref wh) = true) (mW : mg "is_whole" = some (.ref wh)) : FnOk P w K mg base CX0 2 f fd ["thing", "fewest"] spRiseD := by
  refine F.ok scRise (fun vs H Q E h => ?_) (fun cdv A outer s H vs Q E hr h => ?_)
  · obtain ⟨v, d, few, rfl, _⟩ := h
    rfl
  obtain ⟨v, d, few, rfl, hd, q⟩ := h
  refine ⟨_, (@pss_cons _ _ _ _ _ (ps_if (PW.pt (pw_or (pt_not (pt_val (pe_callB (call_isi "list") rfl B.isinstance boot_isinstance (pa_cons (pv 0) (pa_cons (pe_bltn (v := .ty "list") rfl B.list PyProof.Rows.boot_list rfl) pa_nil))))) (pw_or1 (pt_not (pt_chain op_le op_le (pv 1) (pe_callB call_len_seq rfl B.len PySem.boot_len (pa_cons (pv 0) pa_nil)) (pe_glob (v := .int 10) rfl m10 ⟨_, rfl⟩)))))) (@pss_one _ _ _ (ps_ret pe_bl)) pss_nil) (@pss_cons _ _ _ _ _ (ps_set (i := 2) scRise.nd rfl (Or.inl rfl) (pe_un un_neg pe_int)) (@pss_cons _ _ _ _ _ (ps_for PassesOwn.never rfl (pi_list (pv 0)) (pg_name (i := 3) scRise.nd rfl (Or.inl rfl)) (@pss_cons _ _ _ _ _ (ps_if (PW.pt (pw_or (pt_not (pt_val (pe_call GW hr rfl mW kW bW .nil pass0 (pa_cons (pv 3) pa_nil)))) (pw_or1 (pt_cmpR op_le (pv 3) (pv 2) (nomark _))))) (@pss_one _ _ _ (ps_ret pe_bl)) pss_nil) (@pss_one _ _ _ (ps_set (i := 2) scRise.nd rfl (Or.inl rfl) (pv 3))))) (@pss_one _ _ _ (ps_ret pe_bl))))), ?_⟩
  refine ⟨_, rfl, _, _, isL d, rfl, hd.ty, kit_l _ d, _, rfl, ite2 (fun c => ?_) (fun c => ?_)⟩
  · have e : riseD few d = false := by cases d <;> first | rfl | cases c
    rw [e] at q
    exact q
  cases hd with
  | lst ha hx =>
    rename_i a xs ds
    have hl := hx.len
    have eq : riseD few (.list ds) = (decide (few ≤ (ds.length : Int)) && (decide (ds.length ≤ 10) && riseGo (-1) ds)) := rfl
    rw [eq] at q
    refine ⟨_, rfl, _, rfl, a, _, rfl, .inl (SqL.of ha), _, _, rfl, rfl, _, rfl, ite2 (fun c1 => ?_) (fun c1 => ?_)⟩
    · refine ⟨_, _, rfl, rfl, _, rfl, ite2 (fun c2 => ?_) (fun c2 => ?_)⟩
      · have e : decide (ds.length ≤ 10) = false := by
          have c3 : (!decide (((xs.length : Nat) : Int) ≤ 10)) = true := c2
          rw [Bool.not_eq_true', decide_eq_false_iff_not] at c3
          exact decide_eq_false (by omega)
        rw [e, Bool.false_and, Bool.and_false] at q
        exact q
      · have e1 : decide (few ≤ (ds.length : Int)) = true := by rw [← hl]; exact c1
        have e2 : decide (ds.length ≤ 10) = true := by
          have c3 : ¬ (!decide (((xs.length : Nat) : Int) ≤ 10)) = true := c2
          rw [Bool.not_eq_true', decide_eq_false_iff_not] at c3
          exact decide_eq_true (by omega)
        rw [e1, e2, Bool.true_and, Bool.true_and] at q
        refine ⟨_, rfl, _, rfl, a, rfl, ⟨_, SqL.of ha⟩, ?_⟩
        refine for_list (xs := xs) (fun i σ H' => ∃ (bl : Int) (y : Option V), σ = [some (.ref a), some (.int few), some (.int bl), y] ∧ H' = H ∧ riseGo bl (ds.drop i) = riseGo (-1) ds)
          ⟨-1, none, rfl, rfl, rfl⟩ (fun i σ H' _ ⟨_, _, _, e, _⟩ => by rw [e]; exact SqL.of ha) ?_ ?_
        · rintro i x σ H' hxi ⟨bl, y, rfl, rfl, hb⟩
          obtain ⟨d', ed, hd'⟩ := hx.at hxi
          rw [rise_step ed] at hb
          refine ⟨_, rfl, x, d', rfl, hd', _, rfl, ite2 (fun c3 => ?_) (fun c3 => ?_)⟩
          · have e : riseGo bl (d' :: ds.drop (i + 1)) = false := by cases d' <;> first | rfl | cases c3
            rw [← hb, e] at q
            exact q
          · cases d' with
            | int n =>
              cases hd'
              refine ⟨_, rfl, _, rfl, _, _, rfl, rfl, _, rfl, ite2 (fun c4 => ?_) (fun c4 => ?_)⟩
              · have e : riseGo bl (.int n :: ds.drop (i + 1)) = false := by
                  have c5 : n ≤ bl := of_decide_eq_true c4
                  show (decide (bl < n) && riseGo n (ds.drop (i + 1))) = false
                  rw [decide_eq_false (by omega), Bool.false_and]
                rw [← hb, e] at q
                exact q
              · refine ⟨_, rfl, n, _, rfl, rfl, ?_⟩
                rw [← hb]
                have c5 : ¬ n ≤ bl := fun z => c4 (decide_eq_true z)
                show riseGo n (ds.drop (i + 1)) = (decide (bl < n) && riseGo n (ds.drop (i + 1)))
                rw [decide_eq_true (by omega), Bool.true_and]
            | _ => exact absurd rfl c3
        · rintro σ H' ⟨bl, y, rfl, rfl, hb⟩
          rw [← hb, hl, List.drop_length] at q
          exact q
    · have e : decide (few ≤ (ds.length : Int)) = false := by
        rw [← hl]
        exact Bool.eq_false_iff.mpr c1
      rw [e, Bool.false_and] at q
      exact ⟨_, rfl, q⟩
  | _ => exact absurd rfl c
theorem scIsP : FnScope ["thing"] ["thing"] (defScope sIsP) := ⟨rfl, rfl, rfl, by decide +kernel, rfl, by decide +kernel, by decide +kernel⟩
theorem two_of {H : Hp} {xs : List V} {ds : List PyData} (h : DatAll H xs ds) (e : xs.length = 2) : ∃ x y dx dy, xs = [x, y] ∧ ds = [dx, dy] ∧ Dat H x dx ∧ Dat H y dy := by
  cases h with
  | nil => cases e
  | cons h1 h2 =>
    cases h2 with
    | nil => cases e
    | cons h3 h4 =>
      cases h4 with
      | nil => exact ⟨_, _, _, _, rfl, rfl, h1, h3⟩
      | cons _ _ => simp at e
theorem plan_no {ds : List PyData} (e : ds.length ≠ 2) : planD (.tuple ds) = false := by
  match ds with
  | [] => rfl
  | [_] => rfl
  | [_, _] => exact absurd rfl e
  | _ :: _ :: _ :: _ => rfl
theorem ok_isPD (F : Fun K "is_plan" "is_plan" sIsP f fd) (B : Bt2 mg) (GI : FnOk P w K mg base CX0 2 ri rid ["thing", "fewest"] spRiseD) (bI : Binds K rid ["thing", "fewest"] []) (kI : PySem.W.keepIn K (.ref ri) = true) (mI : mg "is_rising_list" = some (.ref ri)) : FnOk P w K mg base CX0 3 f fd ["thing"] spIsPD := by
  refine F.ok scIsP (fun vs H Q E h => ?_) (fun cdv A outer s H vs Q E hr h => ?_)
  · obtain ⟨v, d, rfl, _⟩ := h
    rfl
  obtain ⟨v, d, rfl, hd, q⟩ := h
  refine ⟨_, (@pss_cons _ _ _ _ _ (ps_if (PW.pt (pw_or (pt_not (pt_val (pe_callB (call_isi "tuple") rfl B.isinstance boot_isinstance (pa_cons (pv 0) (pa_cons (pe_bltn (v := .ty "tuple") rfl B.tuple PyProof.Rows.boot_tuple rfl) pa_nil))))) (pw_or1 (pt_cmpR op_ne (pe_callB call_len_seq rfl B.len PySem.boot_len (pa_cons (pv 0) pa_nil)) pe_int (nomark _))))) (@pss_one _ _ _ (ps_ret pe_bl)) pss_nil) (@pss_one _ _ _ (ps_ret (pe_and (pe_call GI hr rfl mI kI bI .nil pass0 (pa_cons (pe_ix ix_tup (pv 0) pe_int (fun _ _ => rfl)) (pa_cons pe_int pa_nil))) (pe_one (pe_call GI hr rfl mI kI bI .nil pass0 (pa_cons (pe_ix ix_tup (pv 0) pe_int (fun _ _ => rfl)) (pa_cons pe_int pa_nil)))))))), ?_⟩
  refine ⟨_, rfl, _, _, isT d, rfl, hd.ty, kit_t _ d, _, rfl, ite2 (fun c => ?_) (fun c => ?_)⟩
  · have e : planD d = false := by cases d <;> first | rfl | cases c
    rw [e] at q
    exact q
  cases hd with
  | tup ha hx =>
    rename_i a xs ds
    have hl := hx.len
    refine ⟨_, rfl, a, _, rfl, .inr (SqT.of ha), rfl, _, rfl, ite2 (fun c1 => ?_) (fun c1 => ?_)⟩
    · have e : planD (.tuple ds) = false := plan_no fun z => by
        have c2 : (!decide (V.int ((xs.length : Nat) : Int) = V.int 2)) = true := c1
        rw [hl, z] at c2
        exact absurd c2 (by decide)
      rw [e] at q
      exact q
    · have c2 : ¬ (!decide (V.int ((xs.length : Nat) : Int) = V.int 2)) = true := c1
      rw [Bool.not_eq_true', decide_eq_false_iff_not, Decidable.not_not] at c2
      have c3 := V.int.inj c2
      obtain ⟨x, y, dx, dy, rfl, rfl, h1, h2⟩ := two_of hx (by omega)
      have e : planD (.tuple [dx, dy]) = (riseD 1 dx && riseD 0 dy) := rfl
      rw [e] at q
      refine ⟨_, rfl, a, _, 0, _, rfl, rfl, SqT.of ha, rfl, x, dx, 1, rfl, h1, _, rfl, ite2 (fun c4 => ?_) (fun c4 => ?_)⟩
      · rw [c4, Bool.true_and] at q
        exact ⟨_, rfl, a, _, 1, _, rfl, rfl, SqT.of ha, rfl, y, dy, 0, rfl, h2, q⟩
      · rw [Bool.eq_false_iff.mpr c4, Bool.false_and] at q
        exact q
  | _ => exact absurd rfl c
end
/-! check_plan of a good plan, add_up; over is_plan of any data -/
abbrev sCkP : Stmt := top 20
abbrev sAdd : Stmt := top 21
def addUp (ss : List Int) (x y : Int) : Bool := decide (x ≠ y) && ss.contains (x + y)
def spCkP : Sp := fun vs H Q _ => ∃ (t a b : Addr) (ns ss : List Int), vs = [.ref t] ∧ IsPl H t a b ns ss ∧ Q .non H
def spAdd : Sp := fun vs H Q _ => ∃ (t a b : Addr) (ns ss : List Int) (x y : Int), vs = [.ref t, .int x, .int y] ∧ IsPl H t a b ns ss ∧ Q (.bl (addUp ss x y)) H
section
variable {P : Program} {w : World} {K : PySem.W.Frag} {mg : Str → Option Value} {base : Heap} {f ip : Addr} {fd ipd : FuncData}
theorem scCkP : FnScope ["plan"] ["plan"] (defScope sCkP) := ⟨rfl, rfl, rfl, by decide +kernel, rfl, by decide +kernel, by decide +kernel⟩
theorem ok_ckPD (F : Fun K "check_plan" "check_plan" sCkP f fd) (GP : FnOk P w K mg base CX0 3 ip ipd ["thing"] spIsPD) (bP : Binds K ipd ["thing"] []) (kP : PySem.W.keepIn K (.ref ip) = true) (mP : mg "is_plan" = some (.ref ip)) : FnOk P w K mg base CX0 4 f fd ["plan"] spCkP := by
  refine F.ok scCkP (fun vs H Q E h => ?_) (fun cdv A outer s H vs Q E hr h => ?_)
  · obtain ⟨t, a, b, ns, ss, rfl, _⟩ := h
    rfl
  obtain ⟨t, a, b, ns, ss, rfl, pl, q⟩ := h
  obtain ⟨d, hd, e⟩ := pl.dat
  refine ⟨_, (@pss_one _ _ _ (ps_if (pt_not (pt_val (pe_call GP hr rfl mP kP bP .nil pass0 (pa_cons (pv 0) pa_nil)))) (@pss_one _ _ _ ps_never) pss_nil)), ?_⟩
  refine ⟨_, rfl, _, d, rfl, hd, _, rfl, ?_⟩
  rw [e]
  exact iteF q
theorem scAdd : FnScope ["plan", "one", "other"] ["plan", "one", "other"] (defScope sAdd) := ⟨rfl, rfl, rfl, by decide +kernel, rfl, by decide +kernel, by decide +kernel⟩
theorem ok_add (F : Fun K "add_up" "add_up" sAdd f fd) : FnOk P w K mg base CX0 1 f fd ["plan", "one", "other"] spAdd := by
  refine F.ok scAdd (fun vs H Q E h => ?_) (fun cdv A outer s H vs Q E hr h => ?_)
  · obtain ⟨t, a, b, ns, ss, x, y, rfl, _⟩ := h
    rfl
  obtain ⟨t, a, b, ns, ss, x, y, rfl, pl, q⟩ := h
  refine ⟨_, (@pss_one _ _ _ (ps_ret (pe_and (pe_cmpR op_ne (pv 1) (pv 2) (nomark _)) (pe_one (pe_cmpR (op_inI K) (pe_op op_add (pv 1) (pv 2)) (pe_ix ix_tup (pv 0) pe_int (fun _ _ => rfl)) rfl))))), ?_⟩
  have e1 : (!decide (V.int x = V.int y)) = decide (x ≠ y) := by
    rw [← decide_not]
    exact decide_eq_decide.mpr (not_congr ⟨fun h => V.int.inj h, fun h => by rw [h]⟩)
  unfold addUp at q
  refine ⟨_, rfl, _, rfl, rfl, _, rfl, ?_⟩
  rw [e1]
  refine ite2 (fun c => ?_) (fun c => ?_)
  · rw [c, Bool.true_and] at q
    exact ⟨_, rfl, _, rfl, _, _, rfl, rfl, _, rfl, t, _, 1, _, rfl, rfl, SqT.of pl.t, rfl, b, x + y, ss, rfl, rfl, SqL.of pl.b, q⟩
  · rw [Bool.eq_false_iff.mpr c, Bool.false_and] at q
    exact q
end
structure Bt4 (mg : Str → Option Value) : Prop extends Bt3 mg where
  zip : mg "zip" = none
  sum : mg "sum" = none
/-! SETS OF PLACES as masks; which can be laid to their end -/
/-- how many places a mask has -/
def cnt (m : Nat) : Nat := ((List.range 10).filter fun k => m.testBit k).length
theorem cnt_dec : ∀ m < 1024, ∀ k < 10, m.testBit k = true → cnt (m - 2 ^ k) + 1 = cnt m ∧ m - 2 ^ k < m ∧ (m - 2 ^ k).testBit k = false := by decide +kernel
theorem cnt_zero : ∀ m < 1024, cnt m = 0 → m = 0 := by decide +kernel
theorem cnt_le : ∀ m < 1024, cnt m ≤ 10 := by decide +kernel
theorem bit_lt {n m k : Nat} (h : m < 2 ^ n) (hb : m.testBit k = true) : k < n := by
  rcases Nat.lt_or_ge k n with z | z
  · exact z
  · rw [Nat.testBit_lt_two_pow (Nat.lt_of_lt_of_le h (Nat.pow_le_pow_right (by decide) z))] at hb
    cases hb
theorem whole_bit {n k : Nat} (h : k < n) : (2 ^ n - 1).testBit k = true := by rw [Nat.testBit_two_pow_sub_one]; exact decide_eq_true h
theorem whole_cnt : ∀ n < 11, cnt (2 ^ n - 1) = n := by decide +kernel
theorem pow_le : ∀ n < 11, 2 ^ n ≤ 1024 := by decide +kernel
theorem bits_and : ∀ m < 1024, ∀ k < 10, ((m &&& 2 ^ k) != 0) = m.testBit k := by decide +kernel
theorem bits_shr : ∀ m < 1024, ∀ k < 10, (m / 2 ^ k % 2 == 1) = m.testBit k := by decide +kernel
theorem bits_low : ∀ m < 1024, (m &&& 1) = m % 2 := by decide +kernel
section
variable (near : Nat → List Nat) (ends : Nat → Bool)
def canF : Nat → Nat → Nat → Bool
  | 0, _, e => ends e
  | m + 1, left, e => (near e).any fun k => left.testBit k && canF m (left - 2 ^ k) k
def can (left e : Nat) : Bool := canF near ends (cnt left) left e
def fst (left e : Nat) : Option Nat := (near e).find? fun k => left.testBit k && can near ends (left - 2 ^ k) k
def pathF : Nat → Nat → Nat → List Nat
  | 0, _, _ => []
  | m + 1, left, e => match fst near ends left e with
    | none => []
    | some k => k :: pathF m (left - 2 ^ k) k
def path (left e : Nat) : List Nat := pathF near ends (cnt left) left e
/-- the places of near e are below n and rise -/
structure NearOk (n : Nat) : Prop where
  n10 : n ≤ 10
  lt : ∀ e ≤ n, ∀ k ∈ near e, k < n
  up : ∀ e ≤ n, (near e).Pairwise (· < ·)
variable {near ends}
theorem can_zero {e : Nat} : can near ends 0 e = ends e := rfl
theorem any_congr' {l : List Nat} {p q : Nat → Bool} (h : ∀ k ∈ l, p k = q k) : l.any p = l.any q := by
  induction l with
  | nil => rfl
  | cons a r ih => rw [List.any_cons, List.any_cons, h a List.mem_cons_self, ih fun k hk => h k (List.mem_cons_of_mem _ hk)]
theorem can_succ {n left e : Nat} (N : NearOk near n) (hl : left < 1024) (h0 : left ≠ 0) (he : e ≤ n) : can near ends left e = (near e).any fun k => left.testBit k && can near ends (left - 2 ^ k) k := by
  unfold can
  cases hc : cnt left with
  | zero => exact absurd (cnt_zero left hl hc) h0
  | succ m =>
    show ((near e).any fun k => left.testBit k && canF near ends m (left - 2 ^ k) k) = _
    refine any_congr' fun k hk => ?_
    cases hb : left.testBit k with
    | false => rfl
    | true =>
      have hk10 : k < 10 := Nat.lt_of_lt_of_le (N.lt e he k hk) N.n10
      have := (cnt_dec left hl k hk10 hb).1
      have em : cnt (left - 2 ^ k) = m := by omega
      rw [em]
theorem fst_some {n left e k : Nat} (N : NearOk near n) (he : e ≤ n) (h : fst near ends left e = some k) : k < n ∧ left.testBit k = true ∧ can near ends (left - 2 ^ k) k = true := by
  have h1 := List.find?_some h
  have h2 := List.mem_of_find?_eq_some h
  rw [Bool.and_eq_true] at h1
  exact ⟨N.lt e he k h2, h1.1, h1.2⟩
theorem can_fst {n left e : Nat} (N : NearOk near n) (hl : left < 1024) (h0 : left ≠ 0) (he : e ≤ n) : can near ends left e = (fst near ends left e).isSome := by
  rw [can_succ N hl h0 he]
  unfold fst
  rw [Bool.eq_iff_iff, List.find?_isSome, List.any_eq_true]
theorem path_zero {e : Nat} : path near ends 0 e = [] := rfl
theorem path_succ {n left e k : Nat} (N : NearOk near n) (hl : left < 1024) (he : e ≤ n) (h : fst near ends left e = some k) : path near ends left e = k :: path near ends (left - 2 ^ k) k := by
  obtain ⟨hk, hb, hc⟩ := fst_some N he h
  have h1 := (cnt_dec left hl k (Nat.lt_of_lt_of_le hk N.n10) hb).1
  unfold path
  rw [← h1]
  show (match fst near ends left e with | none => [] | some j => j :: pathF near ends (cnt (left - 2 ^ k)) (left - 2 ^ j) j) = _
  rw [h]
theorem path_lt {n : Nat} (N : NearOk near n) : ∀ (m left e : Nat), e ≤ n → ∀ k ∈ pathF near ends m left e, k < n
  | 0, _, _, _, k, h => nomatch h
  | m + 1, left, e, he, k, h => by
    have h' : k ∈ (match fst near ends left e with | none => [] | some k => k :: pathF near ends m (left - 2 ^ k) k) := h
    cases hf : fst near ends left e with
    | none => rw [hf] at h'; exact nomatch h'
    | some j =>
      rw [hf] at h'
      have hj := (fst_some N he hf).1
      rcases List.mem_cons.mp h' with z | z
      · rw [z]; exact hj
      · exact path_lt N m _ j (Nat.le_of_lt hj) k z
theorem path_len : ∀ (m left e : Nat), (pathF near ends m left e).length ≤ m
  | 0, _, _ => Nat.le_refl _
  | m + 1, left, e => by
    show (match fst near ends left e with | none => [] | some k => k :: pathF near ends m (left - 2 ^ k) k).length ≤ m + 1
    cases fst near ends left e with
    | none => exact Nat.zero_le _
    | some j => exact Nat.succ_le_succ (path_len m _ j)
/-- the places by which it goes on -/
def onPl (near : Nat → List Nat) (ends : Nat → Bool) (left e : Nat) : List Nat := (near e).filter fun k => left.testBit k && can near ends (left - 2 ^ k) k
theorem onPl_head {left e : Nat} : (onPl near ends left e).head? = fst near ends left e := by
  unfold onPl fst
  rw [List.head?_filter]
theorem onPl_zero {e : Nat} : onPl near ends 0 e = [] := by
  unfold onPl
  refine List.filter_eq_nil_iff.mpr fun k _ => ?_
  rw [Nat.zero_testBit, Bool.false_and]
  exact Bool.false_ne_true
theorem min_head {l : List Nat} {a : Nat} (hp : l.Pairwise (· < ·)) (hh : l.head? = some a) {M : Nat} (hm : M ∈ l) (hle : ∀ x ∈ l, M ≤ x) : M = a := by
  cases l with
  | nil => cases hh
  | cons b r =>
    have eb : b = a := Option.some.inj hh
    subst eb
    rcases List.mem_cons.mp hm with z | z
    · exact z
    · have h1 := (List.pairwise_cons.mp hp).1 M z
      have h2 := hle b List.mem_cons_self
      omega
end
theorem pigeon : ∀ (N : Nat) (l : List Nat), l.Nodup → (∀ x ∈ l, x < N) → l.length ≤ N
  | 0, l, _, h => by
    cases l with
    | nil => exact Nat.le_refl _
    | cons a r => exact absurd (h a List.mem_cons_self) (Nat.not_lt_zero _)
  | N + 1, l, nd, h => by
    by_cases hm : N ∈ l
    · have h1 := pigeon N (l.erase N) (nd.erase N) fun x hx => by
        have hx' := (List.Nodup.mem_erase_iff nd).mp hx
        have := h x hx'.2
        have hne := hx'.1
        omega
      rw [List.length_erase_of_mem hm] at h1
      omega
    · have h1 := pigeon N l nd fun x hx => by
        have := h x hx
        have hne : x ≠ N := fun e => hm (e ▸ hx)
        omega
      omega
/-! PLACES AND STEPS: all_places, near_places, numbers_at, Steps -/
abbrev sNear : Stmt := top 32
abbrev sNums : Stmt := top 33
abbrev sIni0 : Stmt := inClass (top 34) 0
abbrev sSteps : Stmt := inClass (top 34) 1
/-- places as ints -/
def iv (l : List Nat) : List Int := l.map fun k : Nat => (k : Int)
theorem iv_len (l : List Nat) : (iv l).length = l.length := List.length_map _
theorem iv_V (l : List Nat) : (iv l).map V.int = l.map fun k : Nat => V.int (k : Int) := List.map_map
theorem iv_contains (l : List Nat) (e : Nat) : (iv l).contains (e : Int) = l.contains e := by
  rw [Bool.eq_iff_iff, List.contains_iff_mem, List.contains_iff_mem]
  unfold iv
  rw [List.mem_map]
  constructor
  · rintro ⟨k, hk, h⟩
    have h' : k = e := by omega
    exact h' ▸ hk
  · exact fun h => ⟨e, h, rfl⟩
/-- the places of a number's partners -/
def nearP (ns ss : List Int) (x : Int) : List Nat := (List.range ns.length).filter fun k => addUp ss x (ns.getD k 0)
def nearX (ns ss : List Int) (fs : List Nat) (e : Nat) : List Nat := if e < ns.length then nearP ns ss (ns.getD e 0) else fs
def spNear : Sp := fun vs H Q _ => ∃ (t a b : Addr) (ns ss : List Int) (x : Int), vs = [.ref t, .int x] ∧ IsPl H t a b ns ss ∧ ∀ (l : Addr) (H' : Hp), Same H H' → H l = none → H' l = some (.lst ((iv (nearP ns ss x)).map V.int)) → Q (.ref l) H'
def spNums : Sp := fun vs H Q _ => ∃ (t a b p : Addr) (ns ss : List Int) (ks : List Nat), vs = [.ref t, .ref p] ∧ IsPl H t a b ns ss ∧ H p = some (.lst ((iv ks).map V.int)) ∧ ks.length ≤ 1000 ∧ (∀ k ∈ ks, k < ns.length) ∧
  ∀ (l : Addr) (H' : Hp), Same H H' → H l = none → H' l = some (.lst ((ks.map fun k => ns.getD k 0).map V.int)) → Q (.ref l) H'
/-- the lists of near places at nr, one for each place and one more -/
def NearAt (H : Hp) (nr : Addr) (n : Nat) (near : Nat → List Nat) : Prop := ∃ rs : List Addr, rs.length = n + 1 ∧ H nr = some (.lst (rs.map V.ref)) ∧ ∀ e ≤ n, ∃ r, rs[e]? = some r ∧ H r = some (.lst ((iv (near e)).map V.int))
theorem NearAt.same {H H' : Hp} {nr : Addr} {n : Nat} {near : Nat → List Nat} (h : NearAt H nr n near) (g : Same H H') : NearAt H' nr n near := by
  obtain ⟨rs, h1, h2, h3⟩ := h
  exact ⟨rs, h1, g _ _ h2, fun e he => let ⟨r, a, b⟩ := h3 e he; ⟨r, a, g _ _ b⟩⟩
structure SrT (K : PySem.W.Frag) (C : Addr) : Prop where
  cl : Cls K C
  nA : NoAttr K C "ahead"
  nN : NoAttr K C "near"
  nW : NoAttr K C "whole"
def fs0 (n : Nat) (nr : Addr) : List (Str × V) := [("ahead", .int n), ("near", .ref nr), ("whole", .int ((2 ^ n - 1 : Nat) : Int))]
def spIni0 (C : Addr) : Sp := fun vs H Q _ => ∃ (s t a b fp dx : Addr) (ns ss : List Int) (fs : List Nat), vs = [.ref s, .ref t, .ref fp] ∧ H s = some (.ins C dx []) ∧ IsPl H t a b ns ss ∧ H fp = some (.lst ((iv fs).map V.int)) ∧
  ∀ (nr : Addr) (H' : Hp), Ex (· = s) H H' → H' s = some (.ins C dx (fs0 ns.length nr)) → NearAt H' nr ns.length (nearX ns ss fs) → Q .non H'
def spSteps (C : Addr) : Sp := fun vs H Q _ => ∃ (s dx nr : Addr) (fs : List (Str × V)) (n : Nat) (near : Nat → List Nat) (left e : Nat), vs = [.ref s, .int left, .int e] ∧ H s = some (.ins C dx fs) ∧ fs.lookup ("near" : Str) = some (.ref nr) ∧ NearAt H nr n near ∧ NearOk near n ∧ e ≤ n ∧ left < 1024 ∧
  ∀ (l : Addr) (H' : Hp), Same H H' → H l = none → H' l = some (.lst ((iv ((near e).filter fun k => left.testBit k)).map V.int)) → Q (.ref l) H'
theorem near_ok {ns ss : List Int} {fs : List Nat} (ok : PlanOk ns ss) (h1 : ∀ k ∈ fs, k < ns.length) (h2 : fs.Pairwise (· < ·)) : NearOk (nearX ns ss fs) ns.length where
  n10 := ok.n2
  lt := fun e _ k hk => by
    unfold nearX at hk
    split at hk
    · exact List.mem_range.mp (List.mem_filter.mp hk).1
    · exact h1 k hk
  up := fun e _ => by
    unfold nearX
    split
    · exact List.Pairwise.filter _ List.pairwise_lt_range
    · exact h2
theorem near_len {near : Nat → List Nat} {n e : Nat} (N : NearOk near n) (he : e ≤ n) : (near e).length ≤ n :=
  pigeon n _ ((N.up e he).imp fun h => Nat.ne_of_lt h) (N.lt e he)
theorem bit_V (left k : Nat) (h : left < 1024) (hk : k < 10) : (Builtin.bitAnd (left : Int) (1 * 2 ^ ((k : Int)).toNat) != 0) = left.testBit k := by
  have e : (1 * 2 ^ ((k : Int)).toNat : Int) = ((2 ^ k : Nat) : Int) := by rw [Int.one_mul, Int.toNat_natCast]; simp
  rw [e, ← bits_and left h k hk]
  unfold Builtin.bitAnd
  simp only [Int.natCast_nonneg, decide_true, Int.toNat_natCast]
  rw [Bool.eq_iff_iff]
  simp only [bne_iff_ne, ne_eq]
  exact not_congr (by omega)
theorem sub_V (left k : Nat) (h : 2 ^ k ≤ left) : ((left : Int) - 1 * 2 ^ ((k : Int)).toNat) = ((left - 2 ^ k : Nat) : Int) := by
  have e : (1 * 2 ^ ((k : Int)).toNat : Int) = ((2 ^ k : Nat) : Int) := by rw [Int.one_mul, Int.toNat_natCast]; simp
  rw [e]; omega
theorem bit_le {left k : Nat} (h : left.testBit k = true) : 2 ^ k ≤ left := Nat.ge_two_pow_of_testBit h
theorem nat_at {l : List Nat} {i k : Nat} (h : l[i]? = some k) : ((iv l).map V.int)[i]? = some (.int (k : Int)) := by rw [iv_V, List.getElem?_map, h]; rfl
theorem at_nat {l : List Nat} {i : Nat} {x : V} (h : ((iv l).map V.int)[i]? = some x) : ∃ k, l[i]? = some k ∧ x = .int (k : Int) := by
  rw [iv_V, List.getElem?_map] at h
  cases e : l[i]? with
  | none => rw [e] at h; cases h
  | some k => rw [e] at h; exact ⟨k, rfl, (Option.some.inj h).symm⟩
theorem nums_of (ns : List Int) (ks : List Nat) : (((List.range ks.length).filter fun _ => true).map fun i => V.int (ns.getD (ks.getD i 0) 0)) = (ks.map fun k => ns.getD k 0).map V.int := by
  rw [fltT, List.map_map]
  have h := congrArg (List.map (V.int ∘ fun k => ns.getD k 0)) (rgD ks 0)
  rw [List.map_map] at h
  exact h
section
variable {P : Program} {w : World} {K : PySem.W.Frag} {mg : Str → Option Value} {base : Heap} {f ad nf C : Addr} {fd add nfd : FuncData}
theorem scNear : FnScope ["plan", "number"] ["plan", "number"] (defScope sNear) := ⟨rfl, rfl, rfl, by decide +kernel, rfl, by decide +kernel, by decide +kernel⟩
theorem ok_near (F : Fun K "near_places" "near_places" sNear f fd) (B : Bt3 mg)
    (GA : FnOk P w K mg base CX0 1 ad add ["plan", "one", "other"] spAdd) (bA : Binds K add ["plan", "one", "other"] []) (kA : PySem.W.keepIn K (.ref ad) = true) (mA : mg "add_up" = some (.ref ad)) : FnOk P w K mg base CX0 2 f fd ["plan", "number"] spNear := by
  refine F.ok scNear (fun vs H Q E h => ?_) (fun cdv A outer s H vs Q E hr h => ?_)
  · obtain ⟨t, a, b, ns, ss, x, rfl, _⟩ := h
    rfl
  obtain ⟨t, a, b, ns, ss, x, rfl, pl, q⟩ := h
  refine ⟨_, (@pss_one _ _ _ (ps_ret (pe_comp ["place", "other"] rfl (blk_ok (defScope sNear) ["plan", "number"] rfl rfl (by decide +kernel)) (pi_enum rfl B.enumerate (pa_cons (pe_ix ix_tup (pv 0) pe_int (fun _ _ => rfl)) pa_nil)) (fun pins C fp s3 H3 => ⟨(pg_tupK (n := 2) K rfl (pgs_cons (pg_name (i := 0) (show (blkN ["place", "other"] ["plan", "number"]).Nodup by decide +kernel) rfl (Or.inl rfl)) (pgs_cons (pg_name (i := 1) (show (blkN ["place", "other"] ["plan", "number"]).Nodup by decide +kernel) rfl (Or.inl rfl)) pgs_nil))), (pif_one (pt_val (pe_call GA hr rfl mA kA bA .nil pass0 (pa_cons (pv 2) (pa_cons (pv 3) (pa_cons (pv 1) pa_nil)))))), (pv 0)⟩)))), ?_⟩
  have n2 := pl.ok.n2
  have hml : (ns.map V.int).length = ns.length := List.length_map _
  refine ⟨_, rfl, t, _, 0, _, rfl, rfl, SqT.of pl.t, rfl, a, _, rfl, pl.a, fun D hD => ?_⟩
  refine turns_enum (σ := [some (.ref t), some (.int x)]) (xs := ns.map V.int) (fun i => addUp ss x (ns.getD i 0)) (fun i => .int (i : Int)) pl.a hD (by omega) (fun i H' hi g P hP => ?_) (fun i H' hi _ g P hP => ?_) fun H2 g2 e2 => ?_
  · rw [getD_map_int _ (by rw [hml] at hi; exact hi)]
    exact ⟨_, rfl, _, rfl, _, rfl, t, a, b, ns, ss, x, _, rfl, pl.same g, _, rfl, hP _ Same.rfl'⟩
  · exact ⟨_, rfl, hP _ Same.rfl'⟩
  · refine q D H2 g2 hD ?_
    rw [e2, hml, iv_V]
    rfl
theorem scNums : FnScope ["plan", "places"] ["plan", "places"] (defScope sNums) := ⟨rfl, rfl, rfl, by decide +kernel, rfl, by decide +kernel, by decide +kernel⟩
theorem ok_nums (F : Fun K "numbers_at" "numbers_at" sNums f fd) : FnOk P w K mg base CX0 1 f fd ["plan", "places"] spNums := by
  refine F.ok scNums (fun vs H Q E h => ?_) (fun cdv A outer s H vs Q E hr h => ?_)
  · obtain ⟨t, a, b, p, ns, ss, ks, rfl, _⟩ := h
    rfl
  obtain ⟨t, a, b, p, ns, ss, ks, rfl, pl, hp, h1000, hlt, q⟩ := h
  refine ⟨_, (@pss_one _ _ _ (ps_ret (pe_comp ["place"] rfl (blk_ok (defScope sNums) ["plan", "places"] rfl rfl (by decide +kernel)) (pi_list (pv 1)) (fun pins C fp s3 H3 => ⟨(pg_name (i := 0) (show (blkN ["place"] ["plan", "places"]).Nodup by decide +kernel) rfl (Or.inl rfl)), pif_nil, (pe_ix (ix_listK K) (pe_ix (ix_tupK K) (pv 1) pe_int (fun _ _ => rfl)) (pv 0) (fun _ _ => rfl))⟩)))), ?_⟩
  have hml : ((iv ks).map V.int).length = ks.length := by rw [List.length_map, iv_len]
  refine ⟨_, rfl, p, rfl, ⟨_, SqL.of hp⟩, fun D hD => ?_⟩
  refine turns_list (σ := [some (.ref t), some (.ref p)]) (xs := (iv ks).map V.int) (fun _ => true) (fun i => .int (ns.getD (ks.getD i 0) 0)) (SqL.of hp) hD (by omega) (fun i H' hi g P hP => ?_) (fun i H' hi _ g P hP => ?_) fun H2 g2 e2 => ?_
  · exact hP _ Same.rfl'
  · have hi' : i < ks.length := by rw [hml] at hi; exact hi
    have ek : ks[i]? = some ks[i] := List.getElem?_eq_getElem hi'
    have e1 : ((iv ks).map V.int).getD i .non = .int ((ks[i] : Nat) : Int) := by rw [List.getD_eq_getElem?_getD, nat_at ek]; rfl
    have e2 : ks.getD i 0 = ks[i] := by rw [List.getD_eq_getElem?_getD, ek]; rfl
    have hk : ks[i] < ns.length := hlt _ (List.getElem_mem hi')
    rw [e1]
    rw [e2] at hP
    refine ⟨_, rfl, t, _, 0, _, rfl, rfl, SqT.of (pl.same g).t, rfl, _, rfl, a, _, _, _, rfl, rfl, SqL.of (pl.same g).a, atI_nat ?_, hP _ Same.rfl'⟩
    rw [List.getElem?_map, List.getElem?_eq_getElem hk, List.getD_eq_getElem?_getD, List.getElem?_eq_getElem hk]
    rfl
  · refine q D H2 g2 hD ?_
    rw [e2, hml]
    exact congrArg (fun x => some (HO.lst x)) (nums_of ns ks)
theorem scIni0 : FnScope ["self", "plan", "first_places"] ["self", "plan", "first_places"] (defScope sIni0) := ⟨rfl, rfl, rfl, by decide +kernel, rfl, by decide +kernel, by decide +kernel⟩
theorem ok_ini0 (F : Fun K "__init__" "Steps.__init__" sIni0 f fd) (B : Bt3 mg) (T : SrT K C)
    (GN : FnOk P w K mg base CX0 2 nf nfd ["plan", "number"] spNear) (bN : Binds K nfd ["plan", "number"] []) (kN : PySem.W.keepIn K (.ref nf) = true) (mN : mg "near_places" = some (.ref nf)) : FnOk P w K mg base CX0 3 f fd ["self", "plan", "first_places"] (spIni0 C) := by
  refine F.ok scIni0 (fun vs H Q E h => ?_) (fun cdv A outer s H vs Q E hr h => ?_)
  · obtain ⟨s, t, a, b, fp, dx, ns, ss, fs, rfl, _⟩ := h
    rfl
  obtain ⟨s, t, a, b, fp, dx, ns, ss, fs, rfl, hs, pl, hfp, q⟩ := h
  refine ⟨_, (@pss_cons _ _ _ _ _ (ps_fld (pv 0) (pe_callB call_len_seq rfl B.len PySem.boot_len (pa_cons (pe_ix ix_tup (pv 1) pe_int (fun _ _ => rfl)) pa_nil)) rfl) (@pss_cons _ _ _ _ _ (ps_fld (pv 0) (pe_op op_cat (pe_comp ["number"] rfl (blk_ok (defScope sIni0) ["self", "plan", "first_places"] rfl rfl (by decide +kernel)) (pi_list (pe_ix ix_tup (pv 1) pe_int (fun _ _ => rfl))) (fun pins C fp s3 H3 => ⟨(pg_name (i := 0) (show (blkN ["number"] ["self", "plan", "first_places"]).Nodup by decide +kernel) rfl (Or.inl rfl)), pif_nil, (pe_call GN hr rfl mN kN bN .nil pass0 (pa_cons (pv 2) (pa_cons (pv 0) pa_nil)))⟩)) (pe_lst (pa_cons (pe_callTy call_list_of rfl B.list PyProof.Rows.boot_list (pa_cons (pv 2) pa_nil)) pa_nil))) rfl) (@pss_one _ _ _ (ps_fld (pv 0) (pe_op op_sub (pe_op op_shl pe_int (pe_fld (pv 0) rfl)) pe_int) rfl)))), ?_⟩
  have n2 := pl.ok.n2
  have hml : (ns.map V.int).length = ns.length := List.length_map _
  refine ⟨_, rfl, t, _, 0, _, rfl, rfl, SqT.of pl.t, rfl, a, _, rfl, .inl (SqL.of pl.a), _, rfl, s, C, dx, _, rfl, hs, T.cl, T.nA, (by show 0 < 1000; decide), ?_⟩
  rw [hml]
  have ts : t ≠ s := ne_of pl.t hs (by intro z; cases z)
  have as : a ≠ s := ne_of pl.a hs (by intro z; cases z)
  have bs : b ≠ s := ne_of pl.b hs (by intro z; cases z)
  have fps : fp ≠ s := ne_of hfp hs (by intro z; cases z)
  have pl1 : IsPl (upd H s (.ins C dx (putF "ahead" (.int (ns.length : Int)) []))) t a b ns ss := ⟨by rw [upd_ne ts]; exact pl.t, by rw [upd_ne as]; exact pl.a, by rw [upd_ne bs]; exact pl.b, pl.ok⟩
  have fp1 : (upd H s (.ins C dx (putF "ahead" (.int (ns.length : Int)) []))) fp = some (.lst ((iv fs).map V.int)) := by rw [upd_ne fps]; exact hfp
  have s1 : (upd H s (.ins C dx (putF "ahead" (.int (ns.length : Int)) []))) s = some (.ins C dx (putF "ahead" (.int (ns.length : Int)) [])) := upd_same
  have ex1 : Ex (· = s) H (upd H s (.ins C dx (putF "ahead" (.int (ns.length : Int)) []))) := Ex.put _ rfl
  generalize upd H s (.ins C dx (putF "ahead" (.int (ns.length : Int)) [])) = H1 at pl1 fp1 s1 ex1 ⊢
  refine ⟨_, rfl, t, _, 0, _, rfl, rfl, SqT.of pl1.t, rfl, a, rfl, ⟨_, SqL.of pl1.a⟩, fun D hD => ?_⟩
  refine turns_any (n := ns.length) (fun i σ' H' => ∃ (x : Option V) (rs : List Addr), σ' = [x, some (.ref s), some (.ref t), some (.ref fp)] ∧ Same H1 H' ∧ rs.length = i ∧ H' D = some (.lst (rs.map V.ref)) ∧
    ∀ e < i, ∃ r, rs[e]? = some r ∧ r ≠ D ∧ H' r = some (.lst ((iv (nearP ns ss (ns.getD e 0))).map V.int))) ⟨none, [], rfl, Same.new hD _, rfl, upd_same, fun e he => absurd he (Nat.not_lt_zero _)⟩ ?_ ?_
  · rintro i σ' H' hi ⟨x, rs, rfl, g, hrs, hl, hr'⟩
    have ex : (ns.map V.int)[i]? = some (.int ns[i]) := by rw [List.getElem?_map, List.getElem?_eq_getElem hi]; rfl
    refine ⟨⟨_, _, SqL.of (g _ _ pl1.a), ex⟩, fun y H2 hy => ?_⟩
    obtain ⟨rfl, hy⟩ := hy
    have ey := hy _ (SqL.of (g _ _ pl1.a))
    rw [ex] at ey
    cases ey
    refine comp_true ?_
    refine ⟨_, rfl, _, rfl, t, a, b, ns, ss, ns[i], rfl, pl1.same g, fun l H4 g4 hl4 e4 => ?_⟩
    have hlD : l ≠ D := fun z => by rw [z, hl] at hl4; cases hl4
    refine ⟨_, g4 _ _ hl, small1000 (by rw [List.length_map]; omega), some (.int ns[i]), rs ++ [l], rfl, fun b o hb => ?_, by rw [List.length_append, hrs]; rfl, ?_, fun e he => ?_⟩
    · have hne : b ≠ D := fun e => by rw [e, hD] at hb; cases hb
      rw [upd_ne hne]
      exact g4 _ _ (g _ _ hb)
    · rw [upd_same, List.map_append]; rfl
    · rcases Nat.lt_or_ge e i with z | z
      · obtain ⟨r, r1, r2, r3⟩ := hr' e z
        exact ⟨r, by rw [List.getElem?_append_left (by omega)]; exact r1, r2, by rw [upd_ne r2]; exact g4 _ _ r3⟩
      · have ei : e = i := by omega
        subst ei
        refine ⟨l, by rw [List.getElem?_append_right (by omega), hrs, Nat.sub_self]; rfl, hlD, ?_⟩
        rw [upd_ne hlD, e4, List.getD_eq_getElem?_getD, List.getElem?_eq_getElem hi]
        rfl
  · rintro σ' H' ⟨x, rs, rfl, g, hrs, hl, hr'⟩
    refine ⟨⟨_, SqL.of (g _ _ pl1.a), by rw [hml]; exact Nat.le_refl _⟩, ?_⟩
    refine ⟨_, rfl, fp, _, rfl, .inl (SqL.of (g _ _ fp1)), fun lf hlf => ⟨by show 1 ≤ sizeLine; decide, fun l2 hl2 => ?_⟩⟩
    have lfD : D ≠ lf := ne_of_none hl hlf
    have l2D : D ≠ l2 := ne_of_none (by rw [upd_ne lfD]; exact hl) hl2
    have l2f : lf ≠ l2 := ne_of_none upd_same hl2
    refine ⟨D, l2, _, _, rfl, rfl, by rw [upd_ne l2D, upd_ne lfD]; exact hl, upd_same, by rw [List.length_map, hrs]; exact Nat.le_of_lt (small2000 (by show ns.length + 1 ≤ 2000; omega)), fun nr hnr => ?_⟩
    have sH : Same H1 (upd (upd (upd H' lf (.lst ((iv fs).map V.int))) l2 (.lst [.ref lf])) nr (.lst (rs.map V.ref ++ [.ref lf]))) := fun c o hc => by
      have c1 := g _ _ hc
      have c2 : (upd H' lf (.lst ((iv fs).map V.int))) c = some o := by rw [upd_ne (ne_of_none c1 hlf)]; exact c1
      have c3 : (upd (upd H' lf (.lst ((iv fs).map V.int))) l2 (.lst [.ref lf])) c = some o := by rw [upd_ne (ne_of_none c2 hl2)]; exact c2
      rw [upd_ne (ne_of_none c3 hnr)]; exact c3
    have nrF : lf ≠ nr := ne_of_none (by rw [upd_ne l2f]; exact upd_same) hnr
    have NA : NearAt (upd (upd (upd H' lf (.lst ((iv fs).map V.int))) l2 (.lst [.ref lf])) nr (.lst (rs.map V.ref ++ [.ref lf]))) nr ns.length (nearX ns ss fs) := by
      refine ⟨rs ++ [lf], by rw [List.length_append, hrs]; rfl, by rw [upd_same, List.map_append]; rfl, fun e he => ?_⟩
      rcases Nat.lt_or_ge e ns.length with z | z
      · obtain ⟨r, r1, r2, r3⟩ := hr' e z
        have c1 := ne_of_none r3 hlf
        have r4 : (upd H' lf (.lst ((iv fs).map V.int))) r = _ := (upd_ne c1).trans r3
        have c2 := ne_of_none r4 hl2
        have r5 : (upd (upd H' lf (.lst ((iv fs).map V.int))) l2 (.lst [.ref lf])) r = _ := (upd_ne c2).trans r4
        refine ⟨r, by rw [List.getElem?_append_left (by omega)]; exact r1, ?_⟩
        rw [upd_ne (ne_of_none r5 hnr), r5]
        unfold nearX
        rw [if_pos z]
      · have ei : e = ns.length := by omega
        subst ei
        refine ⟨lf, by rw [List.getElem?_append_right (by omega), hrs, Nat.sub_self]; rfl, ?_⟩
        rw [upd_ne nrF, upd_ne l2f, upd_same]
        unfold nearX
        rw [if_neg (Nat.lt_irrefl _)]
    generalize (upd (upd (upd H' lf (.lst ((iv fs).map V.int))) l2 (.lst [.ref lf])) nr (.lst (rs.map V.ref ++ [.ref lf]))) = H5 at sH NA ⊢
    have s5 := sH _ _ s1
    refine ⟨_, rfl, s, C, dx, _, rfl, s5, T.cl, T.nN, (by show 1 < 1000; decide), ?_⟩
    obtain ⟨rs5, q1, q2, q3⟩ := NA
    have nrs : nr ≠ s := ne_of q2 s5 (by intro z; cases z)
    have NA6 : ∀ o, NearAt (upd H5 s o) nr ns.length (nearX ns ss fs) := fun o => ⟨rs5, q1, by rw [upd_ne nrs]; exact q2, fun e he => by
      obtain ⟨r, r1, r2⟩ := q3 e he
      exact ⟨r, r1, by rw [upd_ne (ne_of r2 s5 (by intro z; cases z))]; exact r2⟩⟩
    refine ⟨_, rfl, s, C, dx, _, _, rfl, upd_same, T.cl, T.nA, rfl, _, _, rfl, rfl, ⟨by omega, by omega, by decide⟩, _, _, rfl, rfl, _, rfl, s, C, dx, _, rfl, upd_same, T.cl, T.nW, (by show 2 < 1000; decide), ?_⟩
    have ew : (1 * 2 ^ ((ns.length : Int)).toNat - 1 : Int) = ((2 ^ ns.length - 1 : Nat) : Int) := by
      rw [Int.one_mul, Int.toNat_natCast]
      have := Nat.one_le_two_pow (n := ns.length)
      rw [Int.natCast_sub this]
      simp
    refine q nr _ (fun c o hc ho => ?_) ?_ (by rw [upd_upd]; exact NA6 _)
    · rw [upd_ne hc, upd_ne hc]
      exact sH _ _ (ex1 c o hc ho)
    · rw [upd_same]
      show some (HO.ins C dx [("ahead", .int ns.length), ("near", .ref nr), ("whole", .int (1 * 2 ^ ((ns.length : Int)).toNat - 1))]) = _
      rw [ew]
      rfl
theorem scSteps : FnScope ["self", "left", "end"] ["self", "left", "end"] (defScope sSteps) := ⟨rfl, rfl, rfl, by decide +kernel, rfl, by decide +kernel, by decide +kernel⟩
theorem ok_steps (F : Fun K "steps" "Steps.steps" sSteps f fd) (T : SrT K C) : FnOk P w K mg base CX0 1 f fd ["self", "left", "end"] (spSteps C) := by
  refine F.ok scSteps (fun vs H Q E h => ?_) (fun cdv A outer s H vs Q E hr h => ?_)
  · obtain ⟨s, dx, nr, fs, n, near, left, e, rfl, _⟩ := h
    rfl
  obtain ⟨s, dx, nr, fs, n, near, left, e, rfl, hs, hn, NA, N, he, hl, q⟩ := h
  refine ⟨_, (@pss_one _ _ _ (ps_ret (pe_comp ["place"] rfl (blk_ok (defScope sSteps) ["self", "left", "end"] rfl rfl (by decide +kernel)) (pi_list (pe_ix ix_list (pe_fld (pv 0) rfl) (pv 2) (fun _ _ => rfl))) (fun pins C fp s3 H3 => ⟨(pg_name (i := 0) (show (blkN ["place"] ["self", "left", "end"]).Nodup by decide +kernel) rfl (Or.inl rfl)), (pif_one (pt_valI (pe_op op_and (pv 2) (pe_op op_shl pe_int (pv 0))))), (pv 0)⟩)))), ?_⟩
  obtain ⟨rs, q1, q2, q3⟩ := NA
  obtain ⟨r, r1, r2⟩ := q3 e he
  have n10 := N.n10
  have hlen := near_len N he
  have hml : ((iv (near e)).map V.int).length = (near e).length := by rw [List.length_map, iv_len]
  refine ⟨_, rfl, s, C, dx, fs, _, rfl, hs, T.cl, T.nN, hn, _, rfl, nr, _, _, _, rfl, rfl, SqL.of q2, atI_nat (by rw [List.getElem?_map, r1]; rfl), r, rfl, ⟨_, SqL.of r2⟩, fun D hD => ?_⟩
  refine turns_list (σ := [some (.ref s), some (.int left), some (.int e)]) (xs := (iv (near e)).map V.int) (fun i => left.testBit ((near e).getD i 0)) (fun i => .int (((near e).getD i 0 : Nat) : Int)) (SqL.of r2) hD (by omega) (fun i H' hi g P hP => ?_) (fun i H' hi _ g P hP => ?_) fun H2 g2 e2 => ?_
  · have hi' : i < (near e).length := by rw [hml] at hi; exact hi
    have ek : (near e)[i]? = some (near e)[i] := List.getElem?_eq_getElem hi'
    have e1 : ((iv (near e)).map V.int).getD i .non = .int (((near e)[i] : Nat) : Int) := by rw [List.getD_eq_getElem?_getD, nat_at ek]; rfl
    have e2 : (near e).getD i 0 = (near e)[i] := by rw [List.getD_eq_getElem?_getD, ek]; rfl
    have hk := N.lt e he _ (List.getElem_mem hi')
    rw [e1]
    refine ⟨_, rfl, _, rfl, _, _, rfl, rfl, ⟨by omega, by omega, by decide⟩, _, _, rfl, rfl, _, rfl, ?_⟩
    rw [bit_V left _ hl (by omega), ← e2]
    exact hP _ Same.rfl'
  · have hi' : i < (near e).length := by rw [hml] at hi; exact hi
    have ek : (near e)[i]? = some (near e)[i] := List.getElem?_eq_getElem hi'
    have e1 : ((iv (near e)).map V.int).getD i .non = .int (((near e).getD i 0 : Nat) : Int) := by rw [List.getD_eq_getElem?_getD, nat_at ek, List.getD_eq_getElem?_getD, ek]; rfl
    rw [e1]
    exact ⟨_, rfl, hP _ Same.rfl'⟩
  · refine q D H2 g2 hD ?_
    rw [e2, hml, iv_V, ← range_getD_filter (fun v => left.testBit v) 0 (near e), List.map_map]
    rfl
end
/-! THE SEARCH: can_end, first_step, found_places by a dict of what is known -/
abbrev sIni : Stmt := inClass (top 37) 0
abbrev sCan : Stmt := inClass (top 37) 1
abbrev sFst : Stmt := inClass (top 37) 2
abbrev sFnd : Stmt := inClass (top 37) 3
abbrev sFrom : Stmt := top 38
structure SrT2 (K : PySem.W.Frag) (C : Addr) : Prop extends SrT K C where
  nL : NoAttr K C "last_places"
  nO : NoAttr K C "onward"
def optV : Option Nat → V
  | none => .non
  | some k => .int (k : Int)
def ky (l e : Nat) : List Key := [Sum.inl (l : Int), Sum.inl (e : Int)]
theorem ky_inj {l e l' e' : Nat} (h : ky l e = ky l' e') : l = l' ∧ e = e' := by
  unfold ky at h
  injection h with h1 h2
  injection h2 with h2 _
  have a := Sum.inl.inj h1
  have b := Sum.inl.inj h2
  omega
def kcode : List Key → Nat
  | [Sum.inl a, Sum.inl b] => a.toNat * 11 + b.toNat
  | _ => 0
section
variable (n : Nat) (near : Nat → List Nat) (ends : Nat → Bool)
structure Memo (kvs : List (List Key × V)) : Prop where
  nd : (kvs.map (·.1)).Nodup
  ok : ∀ kv ∈ kvs, ∃ l e, kv.1 = ky l e ∧ l ≠ 0 ∧ l < 2 ^ n ∧ e ≤ n ∧ kv.2 = optV (fst near ends l e)
  cl : ∀ l e k, (valV kvs (ky l e)).isSome = true → fst near ends l e = some k → l - 2 ^ k ≠ 0 → (valV kvs (ky (l - 2 ^ k) k)).isSome = true
variable {n near ends}
theorem memo_nil : Memo n near ends [] := ⟨List.nodup_nil, (fun _ h => nomatch h), (fun _ _ _ h => nomatch h)⟩
theorem val_mem {kvs : List (List Key × V)} {k : List Key} {v : V} (h : valV kvs k = some v) : (k, v) ∈ kvs := by
  unfold valV at h
  obtain ⟨p, hp, rfl⟩ := Option.map_eq_some_iff.mp h
  have h1 : p.1 = k := of_decide_eq_true (List.find?_some (p := fun kv : List Key × V => decide (kv.1 = k)) hp)
  have h2 := List.mem_of_find?_eq_some hp
  rw [← h1]
  exact h2
theorem Memo.val {kvs : List (List Key × V)} (M : Memo n near ends kvs) {l e : Nat} {v : V} (h : valV kvs (ky l e) = some v) : v = optV (fst near ends l e) := by
  obtain ⟨l', e', h1, _, _, _, h2⟩ := M.ok _ (val_mem h)
  obtain ⟨rfl, rfl⟩ := ky_inj h1
  exact h2
theorem Memo.len {kvs : List (List Key × V)} (M : Memo n near ends kvs) (hn : n ≤ 10) : kvs.length < sizeLine := by
  have hp : 2 ^ n ≤ 1024 := pow_le n (by omega)
  have hc : ∀ kv ∈ kvs, kcode kv.1 < 11264 := fun kv h => by
    obtain ⟨l, e, h1, _, h3, h4, _⟩ := M.ok kv h
    rw [h1]
    show ((l : Int)).toNat * 11 + ((e : Int)).toNat < 11264
    omega
  have hnd : (kvs.map fun kv => kcode kv.1).Nodup := by
    have h := M.nd
    unfold List.Nodup at h ⊢
    rw [List.pairwise_map] at h ⊢
    refine h.imp_of_mem fun {x y} hx hy hne he => hne ?_
    obtain ⟨l, e, h1, _, _, h4, _⟩ := M.ok x hx
    obtain ⟨l', e', h1', _, _, h4', _⟩ := M.ok y hy
    rw [h1, h1'] at he ⊢
    have he' : ((l : Int)).toNat * 11 + ((e : Int)).toNat = ((l' : Int)).toNat * 11 + ((e' : Int)).toNat := he
    have : l = l' ∧ e = e' := by omega
    rw [this.1, this.2]
  have h := pigeon 11264 _ hnd fun x hx => by
    obtain ⟨kv, h1, rfl⟩ := List.mem_map.mp hx
    exact hc kv h1
  rw [List.length_map] at h
  rw [sizeLine_eq]
  omega
theorem Memo.put {kvs : List (List Key × V)} (M : Memo n near ends kvs) {l e : Nat} (h0 : l ≠ 0) (hl : l < 2 ^ n) (he : e ≤ n) (hc : ∀ k, fst near ends l e = some k → l - 2 ^ k ≠ 0 → (valV kvs (ky (l - 2 ^ k) k)).isSome = true) :
    Memo n near ends (putK kvs (ky l e) (optV (fst near ends l e))) := by
  have hcl : ∀ l1 e1 k, (valV (putK kvs (ky l e) (optV (fst near ends l e))) (ky l1 e1)).isSome = true → fst near ends l1 e1 = some k → l1 - 2 ^ k ≠ 0 → (valV (putK kvs (ky l e) (optV (fst near ends l e))) (ky (l1 - 2 ^ k) k)).isSome = true := by
    intro l1 e1 k h1 h2 h3
    have hs : (valV kvs (ky (l1 - 2 ^ k) k)).isSome = true := by
      rw [valV_put] at h1
      by_cases z : ky l1 e1 = ky l e
      · obtain ⟨rfl, rfl⟩ := ky_inj z
        exact hc k h2 h3
      · rw [if_neg z] at h1
        exact M.cl l1 e1 k h1 h2 h3
    rw [valV_put]
    split
    · rfl
    · exact hs
  refine ⟨?_, ?_, hcl⟩
  · cases hv : valV kvs (ky l e) with
    | none =>
      rw [putK_new _ hv, List.map_append]
      refine List.nodup_append.mpr ⟨M.nd, by simp, fun a ha b hb hab => ?_⟩
      have eb : b = ky l e := by simpa using hb
      subst eb
      subst hab
      obtain ⟨kv, h1, h2⟩ := List.mem_map.mp ha
      have h3 := valV_any (ky l e) kvs
      rw [hv] at h3
      have h4 : (kvs.any fun kv => decide (kv.1 = ky l e)) = true := List.any_eq_true.mpr ⟨kv, h1, decide_eq_true h2⟩
      rw [h4] at h3
      cases h3
    | some v =>
      unfold putK
      rw [valV_any, hv]
      rw [if_pos (show (some v).isSome = true from rfl), List.map_map]
      have : (kvs.map ((fun x : List Key × V => x.1) ∘ fun kv => if kv.1 = ky l e then (kv.1, optV (fst near ends l e)) else kv)) = kvs.map (·.1) := by
        refine List.map_congr_left fun kv _ => ?_
        show (if kv.1 = ky l e then (kv.1, optV (fst near ends l e)) else kv).1 = kv.1
        split <;> rfl
      rw [this]
      exact M.nd
  · intro kv h
    unfold putK at h
    split at h
    · obtain ⟨kv', h1, h2⟩ := List.mem_map.mp h
      by_cases z : kv'.1 = ky l e
      · rw [if_pos z] at h2
        rw [← h2]
        exact ⟨l, e, z, h0, hl, he, rfl⟩
      · rw [if_neg z] at h2
        rw [← h2]
        exact M.ok kv' h1
    · rcases List.mem_append.mp h with z | z
      · exact M.ok kv z
      · have z : kv = (ky l e, optV (fst near ends l e)) := by simpa using z
        rw [z]
        exact ⟨l, e, rfl, h0, hl, he, rfl⟩
end
def Grow (kvs kvs' : List (List Key × V)) : Prop := ∀ k, (valV kvs k).isSome = true → (valV kvs' k).isSome = true
theorem Grow.refl {kvs : List (List Key × V)} : Grow kvs kvs := fun _ h => h
theorem Grow.trans {a b c : List (List Key × V)} (h : Grow a b) (g : Grow b c) : Grow a c := fun k z => g k (h k z)
theorem Grow.put {kvs : List (List Key × V)} {k : List Key} {v : V} : Grow kvs (putK kvs k v) := fun j h => by
  rw [valV_put]
  split
  · rfl
  · exact h
/-- what a search is of, and where it lies -/
structure SP where
  n : Nat
  near : Nat → List Nat
  ends : Nat → Bool
  lasts : List Nat
  s : Addr
  dx : Addr
  nr : Addr
  lp : Addr
  ow : Addr
def SP.fs (p : SP) : List (Str × V) := [("ahead", .int p.n), ("near", .ref p.nr), ("whole", .int ((2 ^ p.n - 1 : Nat) : Int)), ("last_places", .ref p.lp), ("onward", .ref p.ow)]
structure Srch (C : Addr) (p : SP) (H : Hp) : Prop where
  at_ : H p.s = some (.ins C p.dx p.fs)
  nr : NearAt H p.nr p.n p.near
  lp : H p.lp = some (.lst ((iv p.lasts).map V.int))
  ok : NearOk p.near p.n
  le : ∀ e < p.n, p.lasts.contains e = p.ends e
def Known (p : SP) (H : Hp) (kvs : List (List Key × V)) : Prop := H p.ow = some (.dT kvs) ∧ Memo p.n p.near p.ends kvs
theorem Srch.ex {C : Addr} {p : SP} {H H' : Hp} {kvs : List (List Key × V)} (S : Srch C p H) (hk : H p.ow = some (.dT kvs)) (g : Ex (· = p.ow) H H') : Srch C p H' := by
  have ne : ∀ {b o}, H b = some o → (∀ kvs, o ≠ .dT kvs) → H' b = some o := fun {b o} h d => g b o (fun z => d kvs (by rw [z, hk] at h; exact (Option.some.inj h).symm)) h
  obtain ⟨rs, q1, q2, q3⟩ := S.nr
  exact ⟨ne S.at_ (fun _ z => by cases z), ⟨rs, q1, ne q2 (fun _ z => by cases z), fun e he => let ⟨r, a, b⟩ := q3 e he; ⟨r, a, ne b (fun _ z => by cases z)⟩⟩, ne S.lp (fun _ z => by cases z), S.ok, S.le⟩
theorem Srch.lt {C : Addr} {p : SP} {H : Hp} (S : Srch C p H) {left : Nat} (h : left < 2 ^ p.n) : left < 1024 := Nat.lt_of_lt_of_le h (pow_le _ (Nat.lt_succ_of_le S.ok.n10))
def spCan (C : Addr) (m : Nat) : Sp := fun vs H Q _ => ∃ (p : SP) (kvs : List (List Key × V)) (left e : Nat), vs = [.ref p.s, .int left, .int e] ∧ Srch C p H ∧ Known p H kvs ∧ left < 2 ^ p.n ∧ cnt left ≤ m ∧ e ≤ p.n ∧ (left = 0 → e < p.n) ∧
  ∀ (H' : Hp) (kvs' : List (List Key × V)), Ex (· = p.ow) H H' → Known p H' kvs' → Grow kvs kvs' → (left ≠ 0 → (valV kvs' (ky left e)).isSome = true) → Q (.bl (can p.near p.ends left e)) H'
def spFst (C : Addr) (m : Nat) : Sp := fun vs H Q _ => ∃ (p : SP) (kvs : List (List Key × V)) (left e : Nat), vs = [.ref p.s, .int left, .int e] ∧ Srch C p H ∧ Known p H kvs ∧ left < 2 ^ p.n ∧ left ≠ 0 ∧ cnt left ≤ m ∧ e ≤ p.n ∧
  ∀ (H' : Hp) (kvs' : List (List Key × V)), Ex (· = p.ow) H H' → Known p H' kvs' → Grow kvs kvs' → (∀ k, fst p.near p.ends left e = some k → left - 2 ^ k ≠ 0 → (valV kvs' (ky (left - 2 ^ k) k)).isSome = true) → Q (optV (fst p.near p.ends left e)) H'
theorem find_flt {p q : Nat → Bool} : ∀ l : List Nat, l.find? (fun k => p k && q k) = (l.filter p).find? q
  | [] => rfl
  | a :: r => by
    have ih := find_flt (p := p) (q := q) r
    cases hp : p a with
    | false => rw [List.find?_cons, List.filter_cons, hp, Bool.false_and, ih, if_neg Bool.false_ne_true]
    | true =>
      rw [List.find?_cons, List.filter_cons, hp, Bool.true_and, if_pos rfl, List.find?_cons]
      cases q a with
      | false => exact ih
      | true => rfl
theorem find_at {q : Nat → Bool} : ∀ {l : List Nat} {i k : Nat}, l[i]? = some k → q k = true → (∀ j < i, ∀ x, l[j]? = some x → q x = false) → l.find? q = some k
  | [], _, _, h, _, _ => nomatch h
  | a :: r, 0, k, h, hq, _ => by
    have e : a = k := Option.some.inj h
    rw [List.find?_cons, e, hq]
  | a :: r, i + 1, k, h, hq, hj => by
    rw [List.find?_cons, hj 0 (Nat.succ_pos _) a rfl]
    exact find_at (l := r) (i := i) h hq fun j hj' x hx => hj (j + 1) (Nat.succ_lt_succ hj') x hx
section
variable {P : Program} {w : World} {K : PySem.W.Frag} {mg : Str → Option Value} {base : Heap} {f g1 g2 g3 C C0 : Addr} {mc : Value} {fd gd1 gd2 gd3 : FuncData}
theorem scCan : FnScope ["self", "left", "end", "key"] ["self", "left", "end"] (defScope sCan) := ⟨rfl, rfl, rfl, by decide +kernel, rfl, by decide +kernel, by decide +kernel⟩
theorem ok_can {j m : Nat} (F : Fun K "can_end" "Search.can_end" sCan f fd) (T : SrT2 K C) (mF : Meth K C "first_step" g1)
    (GF : FnOk P w K mg base CX0 j g1 gd1 ["self", "left", "end"] (spFst C m)) (bF : Binds K gd1 ["self", "left", "end"] []) : FnOk P w K mg base CX0 (j + 1) f fd ["self", "left", "end"] (spCan C m) := by
  refine F.ok scCan (fun vs H Q E h => ?_) (fun cdv A outer s H vs Q E hr h => ?_)
  · obtain ⟨p, kvs, left, e, rfl, _⟩ := h
    rfl
  obtain ⟨p, kvs, left, e, rfl, S, hd, hl, hc, he, h0, q⟩ := h
  have hu := hu_of hr
  refine ⟨_, (@pss_cons _ _ _ _ _ (ps_if (pt_cmpR op_eq (pv 1) pe_int (nomark _)) (@pss_one _ _ _ (ps_ret (pe_cmpR (op_inI K) (pv 2) (pe_fld (pv 0) rfl) rfl))) pss_nil) (@pss_cons _ _ _ _ _ (ps_set (i := 3) scCan.nd rfl (Or.inl rfl) (pe_tup (pa_cons (pv 1) (pa_cons (pv 2) pa_nil)))) (@pss_cons _ _ _ _ _ (ps_if (pt_cmp (pc_dnotin hu (pv 3) (pe_fld (pv 0) rfl))) (@pss_one _ _ _ (ps_dput hu (pe_fld (pv 0) rfl) (pv 3) (pe_meth (pv 0) T.cl mF GF hr bF .nil pass0 (pa_cons (pv 1) (pa_cons (pv 2) pa_nil))) rfl)) pss_nil) (@pss_one _ _ _ (ps_ret (pe_cmpR op_notN (pe_dget hu (pe_fld (pv 0) rfl) (pv 3) (fun _ _ => rfl)) pe_non (nomark _))))))), ?_⟩
  refine ⟨_, rfl, rfl, _, rfl, ite2 (fun c => ?_) (fun c => ?_)⟩
  · have el : left = 0 := by
      have z := V.int.inj (of_decide_eq_true c)
      omega
    subst el
    refine ⟨_, rfl, _, rfl, p.s, C, p.dx, p.fs, _, rfl, S.at_, T.cl, T.nL, rfl, p.lp, _, _, rfl, rfl, SqL.of S.lp, ?_⟩
    have z := q H kvs Ex.refl hd Grow.refl (fun z => absurd rfl z)
    rw [can_zero, ← S.le e (h0 rfl), ← iv_contains] at z
    exact z
  · have el : left ≠ 0 := fun z => c (decide_eq_true (by rw [z]; rfl))
    refine ⟨_, rfl, _, rfl, (by show 2 ≤ sizeLine; decide), fun kt hkt => ?_⟩
    have g1 : Same H (upd H kt (.tup [.int (left : Int), .int (e : Int)])) := Same.new hkt _
    have S1 : Srch C p (upd H kt (.tup [.int (left : Int), .int (e : Int)])) := S.ex hd.1 (Ex.same g1)
    have hd1 : Known p (upd H kt (.tup [.int (left : Int), .int (e : Int)])) kvs := ⟨g1 _ _ hd.1, hd.2⟩
    have hk1 : (upd H kt (.tup [.int (left : Int), .int (e : Int)])) kt = some (.tup ((ky left e).map kV)) := upd_same
    have ex1 : Ex (· = p.ow) H (upd H kt (.tup [.int (left : Int), .int (e : Int)])) := Ex.same g1
    generalize upd H kt (.tup [.int (left : Int), .int (e : Int)]) = H1 at S1 hd1 hk1 ex1 ⊢
    refine ⟨_, rfl, _, rfl, p.s, C, p.dx, p.fs, _, rfl, S1.at_, T.cl, T.nO, rfl, p.ow, _, rfl, DGet.t hd1.1 hk1, _, rfl, ite2 (fun c2 => ?_) (fun c2 => ?_)⟩
    · refine ⟨_, rfl, p.s, p.dx, p.fs, rfl, S1.at_, rfl, _, rfl, _, rfl, p, kvs, left, e, rfl, S1, hd1, hl, el, hc, he, fun H2 kvs2 ex2 hd2 gr2 cl2 => ?_⟩
      have S2 := S1.ex hd1.1 ex2
      have hk2 : H2 kt = some (.tup ((ky left e).map kV)) := ex2 _ _ (ne_of hk1 hd1.1 (by intro z; cases z)) hk1
      refine ⟨_, rfl, p.s, C, p.dx, p.fs, _, rfl, S2.at_, T.cl, T.nO, rfl, _, rfl, p.ow, _, rfl, DPut.t hd2.1 hk2 (hd2.2.len S.ok.n10), ?_⟩
      have M3 := hd2.2.put el hl he cl2
      have ex3 : Ex (· = p.ow) H2 (upd H2 p.ow (.dT (putK kvs2 (ky left e) (optV (fst p.near p.ends left e))))) := Ex.put _ rfl
      have S3 := S2.ex hd2.1 ex3
      have hk3 := ex3 _ _ (ne_of hk2 hd2.1 (by intro z; cases z)) hk2
      refine ⟨_, rfl, p.s, C, p.dx, p.fs, _, rfl, S3.at_, T.cl, T.nO, rfl, _, rfl, p.ow, _, rfl, by have z := DGet.t (upd_same (H := H2) (a := p.ow) (o := .dT (putK kvs2 (ky left e) (optV (fst p.near p.ends left e))))) hk3; rw [valV_put, if_pos rfl] at z; exact z, rfl, ?_⟩
      have z := q _ _ ((ex1.trans ex2).trans ex3) ⟨upd_same, M3⟩ (gr2.trans Grow.put) (fun _ => by rw [valV_put, if_pos rfl]; rfl)
      rw [can_fst S.ok (S.lt hl) el he] at z
      cases ef : fst p.near p.ends left e with
      | none => rw [ef] at z; exact z
      | some k => rw [ef] at z; exact z
    · cases ev : valV kvs (ky left e) with
      | none => rw [ev] at c2; exact absurd rfl c2
      | some v =>
        have hv := hd.2.val ev
        refine ⟨_, rfl, p.s, C, p.dx, p.fs, _, rfl, S1.at_, T.cl, T.nO, rfl, _, rfl, p.ow, _, rfl, by have z := DGet.t hd1.1 hk1; rw [ev] at z; exact z, rfl, ?_⟩
        have z := q _ _ ex1 hd1 Grow.refl (fun _ => by rw [ev]; rfl)
        rw [can_fst S.ok (S.lt hl) el he] at z
        rw [hv]
        cases ef : fst p.near p.ends left e with
        | none => rw [ef] at z; exact z
        | some k => rw [ef] at z; exact z
theorem scFst : FnScope ["self", "left", "end", "place"] ["self", "left", "end"] (defScope sFst) := ⟨rfl, rfl, rfl, by decide +kernel, rfl, by decide +kernel, by decide +kernel⟩
theorem ok_fst {j m : Nat} (F : Fun K "first_step" "Search.first_step" sFst f fd) (T : SrT2 K C) (mS : Meth K C "steps" g1) (mC : Meth K C "can_end" g2)
    (GS : FnOk P w K mg base CX0 j g1 gd1 ["self", "left", "end"] (spSteps C)) (bS : Binds K gd1 ["self", "left", "end"] [])
    (GC : FnOk P w K mg base CX0 j g2 gd2 ["self", "left", "end"] (spCan C m)) (bC : Binds K gd2 ["self", "left", "end"] []) : FnOk P w K mg base CX0 (j + 1) f fd ["self", "left", "end"] (spFst C (m + 1)) := by
  refine F.ok scFst (fun vs H Q E h => ?_) (fun cdv A outer s H vs Q E hr h => ?_)
  · obtain ⟨p, kvs, left, e, rfl, _⟩ := h
    rfl
  obtain ⟨p, kvs, left, e, rfl, S, hd, hl, h0, hc, he, q⟩ := h
  refine ⟨_, (@pss_cons _ _ _ _ _ (ps_for PassesOwn.never rfl (pi_list (pe_meth (pv 0) T.cl mS GS hr bS .nil pass0 (pa_cons (pv 1) (pa_cons (pv 2) pa_nil)))) (pg_name (i := 3) scFst.nd rfl (Or.inl rfl)) (@pss_one _ _ _ (ps_if (pt_val (pe_meth (pv 0) T.cl mC GC hr bC .nil pass0 (pa_cons (pe_op op_sub (pv 1) (pe_op op_shl pe_int (pv 3))) (pa_cons (pv 3) pa_nil)))) (@pss_one _ _ _ (ps_ret (pv 3))) pss_nil))) (@pss_one _ _ _ (ps_ret pe_non))), ?_⟩
  have hl' := S.lt hl
  have n10 := S.ok.n10
  refine ⟨_, rfl, p.s, p.dx, p.fs, rfl, S.at_, rfl, _, rfl, _, rfl, p.s, p.dx, p.nr, p.fs, p.n, p.near, left, e, rfl, S.at_, rfl, S.nr, S.ok, he, hl', fun l H1 g1 hln e1 => ⟨l, rfl, ⟨_, SqL.of e1⟩, ?_⟩⟩
  have hd1 : Known p H1 kvs := ⟨g1 _ _ hd.1, hd.2⟩
  have lo : l ≠ p.ow := fun z => by rw [z, hd.1] at hln; cases hln
  have elen : ((iv ((p.near e).filter fun k => left.testBit k)).map V.int).length = ((p.near e).filter fun k => left.testBit k).length := by rw [List.length_map, iv_len]
  refine for_list (xs := (iv ((p.near e).filter fun k => left.testBit k)).map V.int) (fun i σ H' => ∃ (y : Option V) (kvs' : List (List Key × V)), σ = [some (.ref p.s), some (.int left), some (.int e), y] ∧ Ex (· = p.ow) H H' ∧ H' l = some (.lst ((iv ((p.near e).filter fun k => left.testBit k)).map V.int)) ∧ Known p H' kvs' ∧ Grow kvs kvs' ∧
    ∀ i' < i, ∀ k, ((p.near e).filter fun k => left.testBit k)[i']? = some k → can p.near p.ends (left - 2 ^ k) k = false)
    ⟨none, kvs, rfl, Ex.same g1, e1, hd1, Grow.refl, fun i' hi' => absurd hi' (Nat.not_lt_zero _)⟩ (fun i σ H' _ ⟨_, _, _, _, e2, _⟩ => SqL.of e2) ?_ ?_
  · rintro i x σ H' hx ⟨y, kvs', rfl, ex, e2, hk', gr, hno⟩
    obtain ⟨k, hk, rfl⟩ := at_nat hx
    have hm : k ∈ (p.near e).filter fun k => left.testBit k := List.mem_of_getElem? hk
    obtain ⟨hm1, hb⟩ := List.mem_filter.mp hm
    have hkn := S.ok.lt e he k hm1
    have S' := S.ex hd.1 ex
    have hdec := cnt_dec left hl' k (by omega) hb
    refine ⟨_, rfl, p.s, p.dx, p.fs, rfl, S'.at_, rfl, _, rfl, _, rfl, _, _, rfl, rfl, ⟨by omega, by omega, by decide⟩, _, _, rfl, rfl, _, rfl, ?_⟩
    refine ⟨p, kvs', left - 2 ^ k, k, congrArg (fun x => [V.ref p.s, V.int x, V.int (k : Int)]) (sub_V left k (bit_le hb)), S', hk', by omega, by omega, by omega, fun _ => hkn, fun H2 kvs2 ex2 hd2 gr2 pr2 => ⟨_, rfl, ite2 (fun c => ?_) (fun c => ?_)⟩⟩
    · refine ⟨_, rfl, ?_⟩
      have ef : fst p.near p.ends left e = some k := by
        unfold fst
        rw [find_flt]
        exact find_at hk c fun i' hi' k' hk' => hno i' hi' k' hk'
      have z := q H2 kvs2 (ex.trans ex2) hd2 (gr.trans gr2) (fun k' hk' hne => by rw [ef] at hk'; cases hk'; exact pr2 hne)
      rw [ef] at z
      exact z
    · refine ⟨_, kvs2, rfl, ex.trans ex2, ex2 _ _ lo e2, hd2, gr.trans gr2, fun i' hi' k' hk' => ?_⟩
      rcases Nat.lt_or_ge i' i with z | z
      · exact hno i' z k' hk'
      · have ei : i' = i := by omega
        subst ei
        rw [hk] at hk'
        cases hk'
        exact Bool.eq_false_iff.mpr c
  · rintro σ H' ⟨y, kvs', rfl, ex, e2, hk', gr, hno⟩
    have ef : fst p.near p.ends left e = none := by
      unfold fst
      rw [find_flt]
      refine List.find?_eq_none.mpr fun k hk hc' => ?_
      obtain ⟨i', hi', e'⟩ := List.mem_iff_getElem.mp hk
      have z := hno i' (by rw [elen]; exact hi') k (by rw [List.getElem?_eq_getElem hi', e'])
      rw [z] at hc'
      cases hc'
    have z := q H' kvs' ex hk' gr (fun k' hk' => by rw [ef] at hk'; cases hk')
    rw [ef] at z
    exact z
/-- both, of any count of places -/
theorem ok_both {ca fs sf : Addr} {cd fsd sfd : FuncData} (FC : Fun K "can_end" "Search.can_end" sCan ca cd) (FF : Fun K "first_step" "Search.first_step" sFst fs fsd) (T : SrT2 K C) (mC : Meth K C "can_end" ca) (mF : Meth K C "first_step" fs) (mS : Meth K C "steps" sf)
    (GS : FnOk P w K mg base CX0 1 sf sfd ["self", "left", "end"] (spSteps C)) (bS : Binds K sfd ["self", "left", "end"] []) (bC : Binds K cd ["self", "left", "end"] []) (bF : Binds K fsd ["self", "left", "end"] []) :
    ∀ m : Nat, FnOk P w K mg base CX0 (2 * m + 2) ca cd ["self", "left", "end"] (spCan C m)
  | 0 => ok_can (j := 1) FC T mF ⟨fun vs H Q E h => by obtain ⟨p, kvs, left, e, rfl, _⟩ := h; rfl, fun A outer s H args us vs Q E _ _ _ _ h => by
      obtain ⟨p, kvs, left, e, _, S, _, hl, h0, hc, _⟩ := h
      exact absurd (cnt_zero left (S.lt hl) (Nat.le_zero.mp hc)) h0⟩ bF
  | m + 1 => by
    have GC := ok_both FC FF T mC mF mS GS bS bC bF m
    have GF := ok_fst (j := 2 * m + 2) FF T mS mC (GS.mono (by omega)) bS GC bC
    exact ok_can (j := 2 * m + 3) FC T mF GF bF
def spFnd (C : Addr) : Sp := fun vs H Q _ => ∃ (p : SP) (kvs : List (List Key × V)), vs = [.ref p.s] ∧ Srch C p H ∧ Known p H kvs ∧ 1 ≤ p.n ∧ can p.near p.ends (2 ^ p.n - 1) p.n = true ∧ (valV kvs (ky (2 ^ p.n - 1) p.n)).isSome = true ∧
  ∀ (l : Addr) (H' : Hp), Same H H' → H l = none → H' l = some (.lst ((iv (path p.near p.ends (2 ^ p.n - 1) p.n)).map V.int)) → Q (.ref l) H'
theorem scFnd : FnScope ["self", "places", "left", "end"] ["self"] (defScope sFnd) := ⟨rfl, rfl, rfl, by decide +kernel, rfl, by decide +kernel, by decide +kernel⟩
theorem ok_fnd (F : Fun K "found_places" "Search.found_places" sFnd f fd) (T : SrT2 K C) : FnOk P w K mg base CX0 1 f fd ["self"] (spFnd C) := by
  refine F.ok scFnd (fun vs H Q E h => ?_) (fun cdv A outer s H vs Q E hr h => ?_)
  · obtain ⟨p, kvs, rfl, _⟩ := h
    rfl
  obtain ⟨p, kvs, rfl, S, hd, n1, hcan, hkey, q⟩ := h
  have hu := hu_of hr
  refine ⟨_, (@pss_cons _ _ _ _ _ (ps_set (i := 1) scFnd.nd rfl (Or.inl rfl) (pe_lst pa_nil)) (@pss_cons _ _ _ _ _ (ps_set (i := 2) scFnd.nd rfl (Or.inl rfl) (pe_fld (pv 0) rfl)) (@pss_cons _ _ _ _ _ (ps_set (i := 3) scFnd.nd rfl (Or.inl rfl) (pe_fld (pv 0) rfl)) (@pss_cons _ _ _ _ _ (ps_while PassesOwn.never (pt_valI (pv 2)) (@pss_cons _ _ _ _ _ (ps_set (i := 3) scFnd.nd rfl (Or.inl rfl) (pe_dget hu (pe_fld (pv 0) rfl) (pe_tup (pa_cons (pv 2) (pa_cons (pv 3) pa_nil))) (fun _ _ => rfl))) (@pss_cons _ _ _ _ _ (ps_expr (pe_bm PySem.F.plainAttrs_list PySem.F.slot_list_append PySem.F.type_list_append mt_append (pv 1) (pa_cons (pv 3) pa_nil))) (@pss_one _ _ _ (ps_set (i := 2) scFnd.nd rfl (Or.inl rfl) (pe_op op_sub (pv 2) (pe_op op_shl pe_int (pv 3)))))))) (@pss_one _ _ _ (ps_ret (pv 1))))))), ?_⟩
  refine ⟨by decide, fun l hln => ?_⟩
  have g1 : Same H (upd H l (.lst [])) := Same.new hln _
  have lo : l ≠ p.ow := fun z => by rw [z, hd.1] at hln; cases hln
  refine ⟨_, rfl, p.s, C, p.dx, p.fs, _, rfl, g1 _ _ S.at_, T.cl, T.nW, rfl, _, rfl, p.s, C, p.dx, p.fs, _, rfl, g1 _ _ S.at_, T.cl, T.nA, rfl, ?_⟩
  have hp2 : 2 ^ p.n - 1 < 2 ^ p.n := Nat.sub_lt (Nat.two_pow_pos _) (by decide)
  dsimp only [gName, tSeq]
  refine while_by2 (fun σ H' => ∃ (pre : List Nat) (left e : Nat), σ = [some (.ref p.s), some (.ref l), some (.int left), some (.int e)] ∧ Same H H' ∧ H' l = some (.lst ((iv pre).map V.int)) ∧ left < 2 ^ p.n ∧ e ≤ p.n ∧ pre.length + cnt left ≤ 10 ∧
      (left ≠ 0 → can p.near p.ends left e = true ∧ (valV kvs (ky left e)).isSome = true) ∧ pre ++ path p.near p.ends left e = path p.near p.ends (2 ^ p.n - 1) p.n)
    (fun σ _ => slotN 2 σ) ⟨[], 2 ^ p.n - 1, p.n, rfl, g1, upd_same, hp2, Nat.le_refl _, by have := cnt_le _ (S.lt hp2); simpa using this, fun _ => ⟨hcan, hkey⟩, rfl⟩ ?_
  rintro σ H' ⟨pre, left, e, rfl, g, hl, hlt, he, hlen, hgo, hpath⟩
  have hl' := S.lt hlt
  refine ⟨_, rfl, _, rfl, ite2 (fun c => ?_) (fun c => ?_)⟩
  · have h0 : left ≠ 0 := fun z => by subst z; exact absurd c (by decide)
    obtain ⟨hc, hk⟩ := hgo h0
    have S' : Srch C p H' := S.ex hd.1 (Ex.same g)
    cases ef : fst p.near p.ends left e with
    | none =>
      rw [can_fst S.ok hl' h0 he, ef] at hc
      cases hc
    | some k =>
      obtain ⟨hkn, hb, hc2⟩ := fst_some S.ok he ef
      have n10 := S.ok.n10
      have hdec := cnt_dec left hl' k (by omega) hb
      obtain ⟨v, hv⟩ := Option.isSome_iff_exists.mp hk
      have hv2 := hd.2.val hv
      rw [ef] at hv2
      subst hv2
      refine next_by (H := H') (μ := fun σ _ => slotN 2 σ) ?_
      refine ⟨_, rfl, p.s, C, p.dx, p.fs, _, rfl, S'.at_, T.cl, T.nO, rfl, _, rfl, _, rfl, (by show 2 ≤ sizeLine; decide), fun kt hkt => ?_⟩
      have g2 : Same H' (upd H' kt (.tup [.int (left : Int), .int (e : Int)])) := Same.new hkt _
      have hk1 : (upd H' kt (.tup [.int (left : Int), .int (e : Int)])) kt = some (.tup ((ky left e).map kV)) := upd_same
      generalize upd H' kt (.tup [.int (left : Int), .int (e : Int)]) = H2 at g2 hk1 ⊢
      have hl2 := g2 _ _ hl
      refine ⟨p.ow, _, rfl, by have z := DGet.t (g2 _ _ (g _ _ hd.1)) hk1; rw [hv] at z; exact z, ?_⟩
      refine ⟨_, rfl, .inl ⟨rfl, _, SqL.of hl2⟩, _, rfl, l, _, _, rfl, rfl, hl2, small1000 (by rw [List.length_map, iv_len]; omega), ?_⟩
      refine ⟨_, rfl, _, rfl, _, _, rfl, rfl, ⟨by show (0 : Int) ≤ (k : Int); omega, by show (k : Int) ≤ 1000000; omega, by decide⟩, _, _, rfl, rfl, ?_⟩
      refine ⟨⟨pre ++ [k], left - 2 ^ k, k, ?_, fun b o hb' => ?_, ?_, by omega, by omega, ?_, fun hne => ⟨hc2, hd.2.cl left e k hk ef hne⟩, ?_⟩, ?_⟩
      · rw [← sub_V left k (bit_le hb)]
        rfl
      · rw [upd_ne (ne_of_none hb' hln)]
        exact g2 _ _ (g _ _ hb')
      · rw [upd_same, iv_V, iv_V, List.map_append]
        rfl
      · rw [List.length_append]
        show pre.length + 1 + cnt (left - 2 ^ k) ≤ 10
        omega
      · rw [← hpath, path_succ S.ok hl' he ef, List.append_assoc]
        rfl
      · show ((left : Int) - 1 * 2 ^ ((k : Int)).toNat).toNat < ((left : Int)).toNat
        rw [sub_V left k (bit_le hb)]
        omega
  · have h0 : left = 0 := by
      rcases Nat.eq_zero_or_pos left with z | z
      · exact z
      · exact absurd (show (((left : Nat) : Int) != 0) = true from bne_iff_ne.mpr (by omega)) c
    subst h0
    rw [path_zero, List.append_nil] at hpath
    subst hpath
    exact ⟨_, rfl, q l H' g hln hl⟩
end
/-! first_from: a search made and asked -/
def spIni (C : Addr) : Sp := fun vs H Q _ => ∃ (s t a b fp lp dx : Addr) (ns ss : List Int) (fs ls : List Nat), vs = [.ref s, .ref t, .ref fp, .ref lp] ∧ H s = some (.ins C dx []) ∧ IsPl H t a b ns ss ∧ H fp = some (.lst ((iv fs).map V.int)) ∧ H lp = some (.lst ((iv ls).map V.int)) ∧
  ∀ (nr lq ow : Addr) (H' : Hp), Ex (· = s) H H' → H ow = none → H' s = some (.ins C dx [("ahead", .int ns.length), ("near", .ref nr), ("whole", .int ((2 ^ ns.length - 1 : Nat) : Int)), ("last_places", .ref lq), ("onward", .ref ow)]) →
    NearAt H' nr ns.length (nearX ns ss fs) → H' lq = some (.lst ((iv ls).map V.int)) → H' ow = some (.dT []) → Q .non H'
def spFrom : Sp := fun vs H Q _ => ∃ (t a b fp lp : Addr) (ns ss : List Int) (fs ls : List Nat) (ends : Nat → Bool), vs = [.ref t, .ref fp, .ref lp] ∧ IsPl H t a b ns ss ∧ H fp = some (.lst ((iv fs).map V.int)) ∧ H lp = some (.lst ((iv ls).map V.int)) ∧
  (∀ k ∈ fs, k < ns.length) ∧ fs.Pairwise (· < ·) ∧ (∀ e < ns.length, ls.contains e = ends e) ∧
  (can (nearX ns ss fs) ends (2 ^ ns.length - 1) ns.length = false → ∀ H', Same H H' → Q .non H') ∧
  (can (nearX ns ss fs) ends (2 ^ ns.length - 1) ns.length = true → ∀ (l : Addr) (H' : Hp), Same H H' → H l = none → H' l = some (.lst (((path (nearX ns ss fs) ends (2 ^ ns.length - 1) ns.length).map fun k => ns.getD k 0).map V.int)) → Q (.ref l) H')
section
variable {P : Program} {w : World} {K : PySem.W.Frag} {mg : Str → Option Value} {base : Heap} {f g1 g2 g3 g4 C C0 : Addr} {mc : Value} {fd gd1 gd2 gd3 gd4 : FuncData}
theorem scIni : FnScope ["self", "plan", "first_places", "last_places"] ["self", "plan", "first_places", "last_places"] (defScope sIni) := ⟨rfl, rfl, rfl, by decide +kernel, rfl, by decide +kernel, by decide +kernel⟩
theorem ok_ini (F : Fun K "__init__" "Search.__init__" sIni f fd) (B : Bt3 mg) (T : SrT2 K C) (BI : Base K C0 mc "__init__" g1) (mI : mg "Steps" = some (.ref C0))
    (GI : FnOk P w K mg base CX0 3 g1 gd1 ["self", "plan", "first_places"] (spIni0 C)) (bI : Binds K gd1 ["self", "plan", "first_places"] []) : FnOk P w K mg base CX0 4 f fd ["self", "plan", "first_places", "last_places"] (spIni C) := by
  refine F.ok scIni (fun vs H Q E h => ?_) (fun cdv A outer s H vs Q E hr h => ?_)
  · obtain ⟨s, t, a, b, fp, lp, dx, ns, ss, fs, ls, rfl, _⟩ := h
    rfl
  obtain ⟨s, t, a, b, fp, lp, dx, ns, ss, fs, ls, rfl, hs, pl, hfp, hlp, q⟩ := h
  refine ⟨_, (@pss_cons _ _ _ _ _ (ps_expr (pe_base BI GI hr rfl mI bI .nil pass0 (pa_cons (pv 0) (pa_cons (pv 1) (pa_cons (pv 2) pa_nil))))) (@pss_cons _ _ _ _ _ (ps_fld (pv 0) (pe_callTy call_list_of rfl B.list PyProof.Rows.boot_list (pa_cons (pv 3) pa_nil)) rfl) (@pss_one _ _ _ (ps_fld (pv 0) pe_dnewT rfl)))), ?_⟩
  refine ⟨_, rfl, _, rfl, _, rfl, s, t, a, b, fp, dx, ns, ss, fs, rfl, hs, pl, hfp, fun nr H1 ex1 s1 na1 => ?_⟩
  have lps : lp ≠ s := ne_of hlp hs (by intro z; cases z)
  have lp1 := ex1 _ _ lps hlp
  refine ⟨_, rfl, lp, _, rfl, .inl (SqL.of lp1), fun lq hlq => ?_⟩
  have g2 : Same H1 (upd H1 lq (.lst ((iv ls).map V.int))) := Same.new hlq _
  refine ⟨_, rfl, s, C, dx, _, rfl, g2 _ _ s1, T.cl, T.nL, (by show 3 < 1000; decide), ?_⟩
  refine fun ow how => ?_
  have sq : s ≠ lq := ne_of_none s1 hlq
  have ow_s : ow ≠ s := fun z => by rw [z, upd_same] at how; cases how
  have ow_q : ow ≠ lq := fun z => by rw [z, upd_ne sq.symm, upd_same] at how; cases how
  have how1 : H1 ow = none := by rwa [upd_ne ow_s, upd_ne ow_q] at how
  refine ⟨_, rfl, s, C, dx, _, rfl, by rw [upd_ne (Ne.symm ow_s)]; exact upd_same, T.cl, T.nO, (by show 4 < 1000; decide), ?_⟩
  obtain ⟨rs, q1, q2, q3⟩ := na1
  have st : ∀ {c : Addr} {o : HO}, c ≠ s → H1 c = some o → ∀ {o1 o2}, (upd (upd (upd (upd H1 lq (.lst ((iv ls).map V.int))) s o1) ow (.dT [])) s o2) c = some o := fun {c o} hc h {o1 o2} => by
    rw [upd_ne hc, upd_ne (ne_of_none h how1), upd_ne hc, upd_ne (ne_of_none h hlq)]
    exact h
  refine q nr lq ow _ (fun c o hc ho => st hc (ex1 c o hc ho)) ?_ ?_ ⟨rs, q1, st (ne_of q2 s1 (by intro z; cases z)) q2, fun e he => let ⟨r, r1, r2⟩ := q3 e he; ⟨r, r1, st (ne_of r2 s1 (by intro z; cases z)) r2⟩⟩ ?_ ?_
  · cases e : H ow with
    | none => rfl
    | some o => rw [ex1 _ _ ow_s e] at how1; cases how1
  · rw [upd_same]
    rfl
  · rw [upd_ne (Ne.symm sq), upd_ne (Ne.symm ow_q), upd_ne (Ne.symm sq), upd_same]
  · rw [upd_ne ow_s, upd_same]
theorem scFrom : FnScope ["plan", "first_places", "last_places", "search"] ["plan", "first_places", "last_places"] (defScope sFrom) := ⟨rfl, rfl, rfl, by decide +kernel, rfl, by decide +kernel, by decide +kernel⟩
theorem ok_from (F : Fun K "first_from" "first_from" sFrom f fd) (T : SrT2 K C) (MS : Mk K C g1) (mS : mg "Search" = some (.ref C)) (mC : Meth K C "can_end" g2) (mF : Meth K C "found_places" g3)
    (GI : FnOk P w K mg base CX0 21 g1 gd1 ["self", "plan", "first_places", "last_places"] (spIni C)) (bI : Binds K gd1 ["self", "plan", "first_places", "last_places"] [])
    (GC : FnOk P w K mg base CX0 22 g2 gd2 ["self", "left", "end"] (spCan C 10)) (bC : Binds K gd2 ["self", "left", "end"] [])
    (GF : FnOk P w K mg base CX0 22 g3 gd3 ["self"] (spFnd C)) (bF : Binds K gd3 ["self"] [])
    (GN : FnOk P w K mg base CX0 22 g4 gd4 ["plan", "places"] spNums) (bN : Binds K gd4 ["plan", "places"] []) (kN : PySem.W.keepIn K (.ref g4) = true) (mN : mg "numbers_at" = some (.ref g4)) : FnOk P w K mg base CX0 23 f fd ["plan", "first_places", "last_places"] spFrom := by
  refine F.ok scFrom (fun vs H Q E h => ?_) (fun cdv A outer s H vs Q E hr h => ?_)
  · obtain ⟨t, a, b, fp, lp, ns, ss, fs, ls, ends, rfl, _⟩ := h
    rfl
  obtain ⟨t, a, b, fp, lp, ns, ss, fs, ls, ends, rfl, pl, hfp, hlp, h1, h2, h3, qn, qs⟩ := h
  refine ⟨_, (@pss_cons _ _ _ _ _ (ps_set (i := 3) scFrom.nd rfl (Or.inl rfl) (pe_make MS GI hr rfl mS bI .nil pass0 (pa_cons (pv 0) (pa_cons (pv 1) (pa_cons (pv 2) pa_nil))))) (@pss_cons _ _ _ _ _ (ps_if (pt_not (pt_val (pe_meth (pv 3) T.cl mC GC hr bC .nil pass0 (pa_cons (pe_fld (pv 3) rfl) (pa_cons (pe_fld (pv 3) rfl) pa_nil))))) (@pss_one _ _ _ (ps_ret pe_non)) pss_nil) (@pss_one _ _ _ (ps_ret (pe_call GN hr rfl mN kN bN .nil pass0 (pa_cons (pv 0) (pa_cons (pe_meth0 (pv 3) T.cl mF GF hr bF .nil pass0) pa_nil))))))), ?_⟩
  refine ⟨_, rfl, _, rfl, _, rfl, fun x dx nx ndx nex => ?_⟩
  have g2 : Same H (upd (upd H dx (.own x)) x (.ins C dx [])) := fun c o hc => by
    rw [upd_ne (ne_of_none hc nx), upd_ne (ne_of_none hc ndx)]; exact hc
  refine ⟨x, t, a, b, fp, lp, dx, ns, ss, fs, ls, rfl, upd_same, pl.same g2, g2 _ _ hfp, g2 _ _ hlp, fun nr lq ow H3 ex3 how s3 na3 lq3 ow3 => ⟨rfl, ?_⟩⟩
  have how' : H ow = none := none_of_same g2 how
  have g3 : Same H H3 := fun c o hc => ex3 c o (ne_of_none hc nx) (g2 _ _ hc)
  have n1 := pl.ok.n1
  have n2 := pl.ok.n2
  have p2 : 2 ≤ 2 ^ ns.length := Nat.pow_le_pow_right (n := 2) (by decide) n1
  have hw : 2 ^ ns.length - 1 < 2 ^ ns.length := by omega
  have S3 : Srch C ⟨ns.length, nearX ns ss fs, ends, ls, x, dx, nr, lq, ow⟩ H3 := ⟨s3, na3, lq3, near_ok pl.ok h1 h2, h3⟩
  refine ⟨_, rfl, x, dx, _, rfl, s3, rfl, _, rfl, x, C, dx, _, _, rfl, s3, T.cl, T.nW, rfl, _, rfl, x, C, dx, _, _, rfl, s3, T.cl, T.nA, rfl, ?_⟩
  refine ⟨⟨ns.length, nearX ns ss fs, ends, ls, x, dx, nr, lq, ow⟩, [], 2 ^ ns.length - 1, ns.length, rfl, S3, ⟨ow3, memo_nil⟩, hw, cnt_le _ (S3.lt hw), Nat.le_refl _, fun z => by omega, fun H4 kvs4 ex4 hd4 gr4 pr4 => ⟨_, rfl, ite2 (fun c => ?_) (fun c => ?_)⟩⟩
  · have g4 : Same H H4 := fun c o hc => ex4 c o (ne_of_none hc how') (g3 _ _ hc)
    refine qn ?_ H4 g4
    exact Bool.not_eq_true' _ ▸ c
  · have g4 : Same H H4 := fun c o hc => ex4 c o (ne_of_none hc how') (g3 _ _ hc)
    have hc : can (nearX ns ss fs) ends (2 ^ ns.length - 1) ns.length = true := by
      cases e : can (nearX ns ss fs) ends (2 ^ ns.length - 1) ns.length with
      | true => rfl
      | false => exact absurd (show (!can (nearX ns ss fs) ends (2 ^ ns.length - 1) ns.length) = true by rw [e]; rfl) c
    have S4 := S3.ex ow3 ex4
    refine ⟨_, rfl, _, rfl, x, dx, _, rfl, S4.at_, rfl, ⟨ns.length, nearX ns ss fs, ends, ls, x, dx, nr, lq, ow⟩, kvs4, rfl, S4, hd4, n1, hc, pr4 (by omega), fun l H5 g5 hl5 e5 => ?_⟩
    refine ⟨t, a, b, l, ns, ss, path (nearX ns ss fs) ends (2 ^ ns.length - 1) ns.length, rfl, pl.same (g4.trans g5), e5, ?_, ?_, fun l6 H6 g6 hl6 e6 => qs hc l6 H6 ((g4.trans g5).trans g6) (none_of_same (g4.trans g5) hl6) e6⟩
    · have := path_len (near := nearX ns ss fs) (ends := ends) (cnt (2 ^ ns.length - 1)) (2 ^ ns.length - 1) ns.length
      have := cnt_le _ (S3.lt hw)
      exact Nat.le_trans (path_len _ _ _) (by omega)
    · exact path_lt S3.ok _ _ _ (Nat.le_refl _)
end
/-- rows and rings: where they begin, where they may end -/
def firsts (n : Nat) (ring : Bool) : List Nat := if ring then [0] else List.range n
def endsP (ns ss : List Int) (ring : Bool) (e : Nat) : Bool := !ring || (nearP ns ss (ns.getD e 0)).contains 0
def canW (ns ss : List Int) (ring : Bool) : Bool := can (nearX ns ss (firsts ns.length ring)) (endsP ns ss ring) (2 ^ ns.length - 1) ns.length
def rowW (ns ss : List Int) (ring : Bool) : List Int := (path (nearX ns ss (firsts ns.length ring)) (endsP ns ss ring) (2 ^ ns.length - 1) ns.length).map fun k => ns.getD k 0
def hasW (ns ss : List Int) (ring : Bool) : Bool := canW ns ss ring && !(ring && decide (ns.length < 3))
/-- the first row (ring) or None -/
def spFRow (ring : Bool) : Sp := fun vs H Q _ => ∃ (t a b : Addr) (ns ss : List Int), vs = [.ref t] ∧ IsPl H t a b ns ss ∧ (hasW ns ss ring = false → ∀ H', Same H H' → Q .non H') ∧
  (hasW ns ss ring = true → ∀ (l : Addr) (H' : Hp), Same H H' → H l = none → H' l = some (.lst ((rowW ns ss ring).map V.int)) → Q (.ref l) H')
abbrev sAllP : Stmt := top 31
def spAllP : Sp := fun vs H Q _ => ∃ (t a b : Addr) (ns ss : List Int), vs = [.ref t] ∧ IsPl H t a b ns ss ∧ ∀ l : Addr, H l = none → Q (.ref l) (upd H l (.lst ((iv (List.range ns.length)).map V.int)))
abbrev sFRow : Stmt := top 39
section
variable {P : Program} {w : World} {K : PySem.W.Frag} {mg : Str → Option Value} {base : Heap} {f cp fr al : Addr} {fd cpd frd ald : FuncData}
theorem scAllP : FnScope ["plan"] ["plan"] (defScope sAllP) := ⟨rfl, rfl, rfl, by decide +kernel, rfl, by decide +kernel, by decide +kernel⟩
theorem ok_allP (F : Fun K "all_places" "all_places" sAllP f fd) (B : Bt3 mg) : FnOk P w K mg base CX0 1 f fd ["plan"] spAllP := by
  refine F.ok scAllP (fun vs H Q E h => ?_) (fun cdv A outer s H vs Q E hr h => ?_)
  · obtain ⟨t, a, b, ns, ss, rfl, _⟩ := h
    rfl
  obtain ⟨t, a, b, ns, ss, rfl, pl, q⟩ := h
  refine ⟨_, (@pss_one _ _ _ (ps_ret (pe_list_range1 rfl rfl B.range rfl B.list (pa_cons (pe_callB call_len_seq rfl B.len PySem.boot_len (pa_cons (pe_ix ix_tup (pv 0) pe_int (fun _ _ => rfl)) pa_nil)) pa_nil)))), ?_⟩
  have n2 := pl.ok.n2
  have hml : (ns.map V.int).length = ns.length := List.length_map _
  refine ⟨_, rfl, t, _, 0, _, rfl, rfl, SqT.of pl.t, rfl, a, _, rfl, .inl (SqL.of pl.a), 0, _, rfl, by rw [hml]; omega, fun l hl => ?_⟩
  have e : ((List.range (((((ns.map V.int).length : Nat) : Int)) - 0).toNat).map fun k : Nat => V.int (0 + (k : Int))) = (iv (List.range ns.length)).map V.int := by
    rw [iv_V, hml, show (((ns.length : Nat) : Int) - 0).toNat = ns.length by omega]
    refine List.map_congr_left fun k _ => ?_
    rw [Int.zero_add]
  rw [e]
  exact q l hl
theorem scFRow : FnScope ["plan"] ["plan"] (defScope sFRow) := ⟨rfl, rfl, rfl, by decide +kernel, rfl, by decide +kernel, by decide +kernel⟩
theorem ok_frow (F : Fun K "first_row" "first_row" sFRow f fd)
    (GC : FnOk P w K mg base CX0 23 cp cpd ["plan"] spCkP) (bC : Binds K cpd ["plan"] []) (kC : PySem.W.keepIn K (.ref cp) = true) (mC : mg "check_plan" = some (.ref cp))
    (GF : FnOk P w K mg base CX0 23 fr frd ["plan", "first_places", "last_places"] spFrom) (bF : Binds K frd ["plan", "first_places", "last_places"] []) (kF : PySem.W.keepIn K (.ref fr) = true) (mF : mg "first_from" = some (.ref fr))
    (GA : FnOk P w K mg base CX0 23 al ald ["plan"] spAllP) (bA : Binds K ald ["plan"] []) (kA : PySem.W.keepIn K (.ref al) = true) (mA : mg "all_places" = some (.ref al)) : FnOk P w K mg base CX0 24 f fd ["plan"] (spFRow false) := by
  refine F.ok scFRow (fun vs H Q E h => ?_) (fun cdv A outer s H vs Q E hr h => ?_)
  · obtain ⟨t, a, b, ns, ss, rfl, _⟩ := h
    rfl
  obtain ⟨t, a, b, ns, ss, rfl, pl, qn, qs⟩ := h
  refine ⟨_, (@pss_cons _ _ _ _ _ (ps_expr (pe_call GC hr rfl mC kC bC .nil pass0 (pa_cons (pv 0) pa_nil))) (@pss_one _ _ _ (ps_ret (pe_call GF hr rfl mF kF bF .nil pass0 (pa_cons (pv 0) (pa_cons (pe_call GA hr rfl mA kA bA .nil pass0 (pa_cons (pv 0) pa_nil)) (pa_cons (pe_call GA hr rfl mA kA bA .nil pass0 (pa_cons (pv 0) pa_nil)) pa_nil))))))), ?_⟩
  refine ⟨_, rfl, t, a, b, ns, ss, rfl, pl, ?_⟩
  refine ⟨_, rfl, _, rfl, t, a, b, ns, ss, rfl, pl, fun l1 hl1 => ?_⟩
  have g1 : Same H (upd H l1 (.lst ((iv (List.range ns.length)).map V.int))) := Same.new hl1 _
  refine ⟨_, rfl, t, a, b, ns, ss, rfl, pl.same g1, fun l2 hl2 => ?_⟩
  have g2 : Same (upd H l1 (.lst ((iv (List.range ns.length)).map V.int))) (upd (upd H l1 (.lst ((iv (List.range ns.length)).map V.int))) l2 (.lst ((iv (List.range ns.length)).map V.int))) := Same.new hl2 _
  have e : hasW ns ss false = can (nearX ns ss (List.range ns.length)) (endsP ns ss false) (2 ^ ns.length - 1) ns.length := by
    unfold hasW canW firsts
    simp
  refine ⟨t, a, b, l1, l2, ns, ss, List.range ns.length, List.range ns.length, endsP ns ss false, rfl, (pl.same g1).same g2, g2 _ _ upd_same, upd_same, fun k hk => List.mem_range.mp hk, List.pairwise_lt_range, fun e he => ?_, fun hc H' g => ?_, fun hc l H' g hl e' => ?_⟩
  · have : (List.range ns.length).contains e = true := List.contains_iff_mem.mpr (List.mem_range.mpr he)
    rw [this]
    rfl
  · exact qn (e.trans hc) H' ((g1.trans g2).trans g)
  · exact qs (e.trans hc) l H' ((g1.trans g2).trans g) (none_of_same (g1.trans g2) hl) e'
end
abbrev sFRing : Stmt := top 40
section
variable {P : Program} {w : World} {K : PySem.W.Frag} {mg : Str → Option Value} {base : Heap} {f cp fr al : Addr} {fd cpd frd ald : FuncData} {t3 : Tok}
theorem addUp_comm (ss : List Int) (x y : Int) : addUp ss x y = addUp ss y x := by
  unfold addUp
  rw [Int.add_comm, show decide (x ≠ y) = decide (y ≠ x) from decide_eq_decide.mpr ⟨fun h z => h z.symm, fun h z => h z.symm⟩]
theorem scFRing : FnScope ["plan"] ["plan"] (defScope sFRing) := ⟨rfl, rfl, rfl, by decide +kernel, rfl, by decide +kernel, by decide +kernel⟩
theorem ok_fring (F : Fun K "first_ring" "first_ring" sFRing f fd) (B : Bt3 mg) (m3 : mg "FEWEST_IN_RING" = some (.int 3 t3))
    (GC : FnOk P w K mg base CX0 23 cp cpd ["plan"] spCkP) (bC : Binds K cpd ["plan"] []) (kC : PySem.W.keepIn K (.ref cp) = true) (mC : mg "check_plan" = some (.ref cp))
    (GF : FnOk P w K mg base CX0 23 fr frd ["plan", "first_places", "last_places"] spFrom) (bF : Binds K frd ["plan", "first_places", "last_places"] []) (kF : PySem.W.keepIn K (.ref fr) = true) (mF : mg "first_from" = some (.ref fr))
    (GN : FnOk P w K mg base CX0 23 al ald ["plan", "number"] spNear) (bN : Binds K ald ["plan", "number"] []) (kN : PySem.W.keepIn K (.ref al) = true) (mN : mg "near_places" = some (.ref al)) : FnOk P w K mg base CX0 24 f fd ["plan"] (spFRow true) := by
  refine F.ok scFRing (fun vs H Q E h => ?_) (fun cdv A outer s H vs Q E hr h => ?_)
  · obtain ⟨t, a, b, ns, ss, rfl, _⟩ := h
    rfl
  obtain ⟨t, a, b, ns, ss, rfl, pl, qn, qs⟩ := h
  refine ⟨_, (@pss_cons _ _ _ _ _ (ps_expr (pe_call GC hr rfl mC kC bC .nil pass0 (pa_cons (pv 0) pa_nil))) (@pss_cons _ _ _ _ _ (ps_if (pt_cmpR op_lt (pe_callB call_len_seq rfl B.len PySem.boot_len (pa_cons (pe_ix ix_tup (pv 0) pe_int (fun _ _ => rfl)) pa_nil)) (pe_glob (v := .int 3) rfl m3 ⟨_, rfl⟩) (nomark _)) (@pss_one _ _ _ (ps_ret pe_non)) pss_nil) (@pss_one _ _ _ (ps_ret (pe_call GF hr rfl mF kF bF .nil pass0 (pa_cons (pv 0) (pa_cons (pe_lst (pa_cons pe_int pa_nil)) (pa_cons (pe_call GN hr rfl mN kN bN .nil pass0 (pa_cons (pv 0) (pa_cons (pe_ix ix_list (pe_ix ix_tup (pv 0) pe_int (fun _ _ => rfl)) pe_int (fun _ _ => rfl)) pa_nil))) pa_nil)))))))), ?_⟩
  have hml : (ns.map V.int).length = ns.length := List.length_map _
  have n1 := pl.ok.n1
  refine ⟨_, rfl, t, a, b, ns, ss, rfl, pl, ?_⟩
  refine ⟨_, rfl, t, _, 0, _, rfl, rfl, SqT.of pl.t, rfl, a, _, rfl, .inl (SqL.of pl.a), _, _, rfl, rfl, _, rfl, ite2 (fun c => ?_) (fun c => ?_)⟩
  · have c' := of_decide_eq_true c
    rw [hml] at c'
    refine qn ?_ H Same.rfl'
    unfold hasW
    rw [decide_eq_true (show ns.length < 3 by omega)]
    cases canW ns ss true <;> rfl
  have c3 : ¬ ns.length < 3 := fun z => c (decide_eq_true (by rw [hml]; omega))
  have e : hasW ns ss true = can (nearX ns ss [0]) (endsP ns ss true) (2 ^ ns.length - 1) ns.length := by
    unfold hasW canW firsts
    rw [decide_eq_false c3]
    simp
  refine ⟨_, rfl, by decide, fun l1 hl1 => ?_⟩
  have g1 : Same H (upd H l1 (.lst [.int 0])) := Same.new hl1 _
  have p1 := pl.same g1
  have e0 : ns[0]? = some ns[0] := List.getElem?_eq_getElem (by omega)
  have d0 : ns.getD 0 0 = ns[0] := by rw [List.getD_eq_getElem?_getD, e0]; rfl
  refine ⟨_, rfl, _, rfl, t, _, 0, _, rfl, rfl, SqT.of p1.t, rfl, a, _, 0, _, rfl, rfl, SqL.of p1.a, atI_nat (j := 0) (by rw [List.getElem?_map, e0]; rfl), t, a, b, ns, ss, ns[0], rfl, p1, fun l2 H2 g2 hl2 e2 => ?_⟩
  refine ⟨t, a, b, l1, l2, ns, ss, [0], nearP ns ss ns[0], endsP ns ss true, rfl, p1.same g2, g2 _ _ upd_same, e2, fun k hk => ?_, List.pairwise_singleton _ _, fun j hj => ?_, fun hc H' g => ?_, fun hc l H' g hl e' => ?_⟩
  · rw [List.mem_singleton.mp hk]; omega
  · rw [Bool.eq_iff_iff]
    show (nearP ns ss ns[0]).contains j = true ↔ (nearP ns ss (ns.getD j 0)).contains 0 = true
    unfold nearP
    rw [List.contains_iff_mem, List.contains_iff_mem, List.mem_filter, List.mem_filter, List.mem_range, List.mem_range, d0, addUp_comm]
    exact ⟨fun h => ⟨by omega, h.2⟩, fun h => ⟨hj, h.2⟩⟩
  · exact qn (e.trans hc) H' ((g1.trans g2).trans g)
  · exact qs (e.trans hc) l H' ((g1.trans g2).trans g) (none_of_same (g1.trans g2) hl) e'
end
/-! THE PLANS OF KINDS: what each def hands back, as a function of ours -/
abbrev sSq : Stmt := top 22
abbrev sTh : Stmt := top 23
abbrev sPr : Stmt := top 24
abbrev sPrs : Stmt := top 25
abbrev sPw : Stmt := top 26
def sqL (top : Int) : List Int := ((List.range (top + 1).toNat).filter fun r : Nat => decide ((r : Int) * r ≤ top)).map fun r : Nat => (r : Int) * r
def isP (n : Int) : Bool := decide (1 < n) && (List.range (n - 2).toNat).all fun i : Nat => decide (n % (2 + (i : Int)) ≠ 0)
def prL (top : Int) : List Int := ((List.range (top + 1).toNat).filter fun r : Nat => isP r).map fun r : Nat => (r : Int)
def triN : Nat → Int
  | 0 => 0
  | k + 1 => triN k + (k + 1)
def pwN : Nat → Int
  | 0 => 1
  | k + 1 => pwN k * 2
/-- a def of one int that hands back a new list of ints -/
def spList (f : Int → List Int) : Sp := fun vs H Q _ => ∃ top : Int, vs = [.int top] ∧ 0 ≤ top ∧ top < 20 ∧ ∀ (p : Addr) (H' : Hp), Same H H' → H p = none → H' p = some (.lst ((f top).map V.int)) → Q (.ref p) H'
def spBool (f : Int → Bool) : Sp := fun vs H Q _ => ∃ n : Int, vs = [.int n] ∧ 0 ≤ n ∧ n < 1000 ∧ ∀ H' : Hp, Same H H' → Q (.bl (f n)) H'
section
variable {P : Program} {w : World} {K : PySem.W.Frag} {mg : Str → Option Value} {base : Heap} {f g : Addr} {fd gd : FuncData}
theorem scSq : FnScope ["top"] ["top"] (defScope sSq) := ⟨rfl, rfl, rfl, by decide +kernel, rfl, by decide +kernel, by decide +kernel⟩
theorem ok_sq (F : Fun K "squares_to" "squares_to" sSq f fd) (B : Bt mg) : FnOk P w K mg base CX0 1 f fd ["top"] (spList sqL) := by
  refine F.ok scSq (fun vs H Q E h => ?_) (fun cdv A outer s H vs Q E hr h => ?_)
  · obtain ⟨a, rfl, _⟩ := h
    rfl
  obtain ⟨top, rfl, h0, h1, q⟩ := h
  refine ⟨_, (@pss_one _ _ _ (ps_ret (pe_comp ["root"] rfl (blk_ok (defScope sSq) ["top"] rfl rfl (by decide +kernel)) (pi_range1 rfl B.range (pa_cons (pe_op op_add (pv 0) pe_int) pa_nil)) (fun pins C fp s3 H3 => ⟨(pg_name (i := 0) (show (blkN ["root"] ["top"]).Nodup by decide +kernel) rfl (Or.inl rfl)), (pif_one (pt_cmpR op_le (pe_op op_mul (pv 0) (pv 0)) (pv 1) (nomark _))), (pe_op op_mul (pv 0) (pv 0))⟩)))), ?_⟩
  refine ⟨_, rfl, _, _, rfl, rfl, _, rfl, by omega, by omega, fun D hD => ?_⟩
  have bd : ∀ i : Nat, i < (top + 1).toNat → -(2 ^ 64) < (0 : Int) + (i : Int) ∧ (0 : Int) + (i : Int) < 2 ^ 64 := fun i hi => ⟨by omega, by omega⟩
  refine turns_range (σ := [some (.int top)]) (fun i => decide ((0 + (i : Int)) * (0 + (i : Int)) ≤ top)) (fun i => .int ((0 + (i : Int)) * (0 + (i : Int)))) hD (by omega) (fun i H' hi g P hP => ?_) (fun i H' hi _ g P hP => ?_) fun H' g e => ?_
  · exact ⟨_, rfl, _, rfl, _, _, rfl, rfl, .inl (bd i hi), _, rfl, _, _, rfl, rfl, _, rfl, hP _ Same.rfl'⟩
  · exact ⟨_, rfl, _, rfl, _, _, rfl, rfl, .inl (bd i hi), hP _ Same.rfl'⟩
  · refine q D H' g hD ?_
    rw [e]
    unfold sqL
    rw [List.map_map]
    simp only [Int.zero_add]
    rfl
theorem scPr : FnScope ["number"] ["number"] (defScope sPr) := ⟨rfl, rfl, rfl, by decide +kernel, rfl, by decide +kernel, by decide +kernel⟩
theorem ok_pr (F : Fun K "is_prime" "is_prime" sPr f fd) (B : Bt2 mg) : FnOk P w K mg base CX0 1 f fd ["number"] (spBool isP) := by
  refine F.ok scPr (fun vs H Q E h => ?_) (fun cdv A outer s H vs Q E hr h => ?_)
  · obtain ⟨a, rfl, _⟩ := h
    rfl
  obtain ⟨n, rfl, h0, h1, q⟩ := h
  refine ⟨_, (@pss_one _ _ _ (ps_ret (pe_and (pe_cmpR op_gt (pv 0) pe_int (nomark _)) (pe_one (pe_callB (call_allB rfl) rfl B.all boot_all (pa_cons (pe_comp ["divisor"] rfl (blk_ok (defScope sPr) ["number"] rfl rfl (by decide +kernel)) (pi_range2 rfl B.range (pa_cons pe_int (pa_cons (pv 0) pa_nil))) (fun pins C fp s3 H3 => ⟨(pg_name (i := 0) (show (blkN ["divisor"] ["number"]).Nodup by decide +kernel) rfl (Or.inl rfl)), pif_nil, (pe_cmpR op_ne (pe_op op_mod (pv 1) (pv 0)) pe_int (nomark _))⟩)) pa_nil)))))), ?_⟩
  refine ⟨_, rfl, _, _, rfl, rfl, _, rfl, ite2 (fun c => ?_) (fun c => ?_)⟩
  · have c' : (1 : Int) < n := of_decide_eq_true c
    refine ⟨_, rfl, _, _, rfl, ⟨by decide, by decide, by omega, by omega⟩, fun D hD => ?_⟩
    refine turns_range (σ := [some (.int n)]) (fun _ => true) (fun i => .bl (!decide (V.int (n % (2 + (i : Int))) = V.int 0))) hD (by omega) (fun i H' hi g => tells_true) (fun i H' hi _ g P hP => ?_) fun H' g e => ?_
    · exact ⟨_, rfl, _, rfl, _, _, rfl, rfl, (by show (0 : Int) < 2 + (i : Int); omega), rfl, hP _ Same.rfl'⟩
    · have e' : H' D = some (.lst (((List.range (n - 2).toNat).map fun i : Nat => !decide (V.int (n % (2 + (i : Int))) = V.int 0)).map V.bl)) := by
        rw [e, List.map_map, List.filter_eq_self.mpr (fun _ _ => rfl)]
        rfl
      refine ⟨D, _, rfl, SqL.of e', ?_⟩
      have z : isP n = ((List.range (n - 2).toNat).map fun i : Nat => !decide (V.int (n % (2 + (i : Int))) = V.int 0)).all id := by
        unfold isP
        rw [decide_eq_true c', Bool.true_and, List.all_map]
        refine congrArg (List.all _) (funext fun i => ?_)
        show decide (n % (2 + (i : Int)) ≠ 0) = !decide (V.int (n % (2 + (i : Int))) = V.int 0)
        rw [← decide_not]
        refine decide_eq_decide.mpr (not_congr ⟨fun h => by rw [h], fun h => V.int.inj h⟩)
      rw [← z]
      exact q H' g
  · have c' : ¬ (1 : Int) < n := of_decide_eq_false (Bool.eq_false_iff.mpr c)
    have z : isP n = false := by unfold isP; rw [decide_eq_false c', Bool.false_and]
    have := q H Same.rfl'
    rw [z] at this
    exact this
theorem scPrs : FnScope ["top"] ["top"] (defScope sPrs) := ⟨rfl, rfl, rfl, by decide +kernel, rfl, by decide +kernel, by decide +kernel⟩
theorem ok_prs (F : Fun K "primes_to" "primes_to" sPrs f fd) (B : Bt mg) (GP : FnOk P w K mg base CX0 1 g gd ["number"] (spBool isP)) (bP : Binds K gd ["number"] []) (kP : PySem.W.keepIn K (.ref g) = true) (mP : mg "is_prime" = some (.ref g)) :
    FnOk P w K mg base CX0 2 f fd ["top"] (spList prL) := by
  refine F.ok scPrs (fun vs H Q E h => ?_) (fun cdv A outer s H vs Q E hr h => ?_)
  · obtain ⟨a, rfl, _⟩ := h
    rfl
  obtain ⟨top, rfl, h0, h1, q⟩ := h
  refine ⟨_, (@pss_one _ _ _ (ps_ret (pe_comp ["number"] rfl (blk_ok (defScope sPrs) ["top"] rfl rfl (by decide +kernel)) (pi_range1 rfl B.range (pa_cons (pe_op op_add (pv 0) pe_int) pa_nil)) (fun pins C fp s3 H3 => ⟨(pg_name (i := 0) (show (blkN ["number"] ["top"]).Nodup by decide +kernel) rfl (Or.inl rfl)), (pif_one (pt_val (pe_call GP hr rfl mP kP bP .nil pass0 (pa_cons (pv 0) pa_nil)))), (pv 0)⟩)))), ?_⟩
  refine ⟨_, rfl, _, _, rfl, rfl, _, rfl, by omega, by omega, fun D hD => ?_⟩
  refine turns_range (σ := [some (.int top)]) (fun i => isP (0 + (i : Int))) (fun i => .int (0 + (i : Int))) hD (by omega) (fun i H' hi g P hP => ?_) (fun i H' hi _ g P hP => ?_) fun H' g e => ?_
  · exact ⟨_, rfl, _, rfl, by omega, by omega, fun H2 g2 => ⟨_, rfl, hP H2 g2⟩⟩
  · exact ⟨_, rfl, hP _ Same.rfl'⟩
  · refine q D H' g hD ?_
    rw [e]
    unfold prL
    rw [List.map_map]
    simp only [Int.zero_add]
    rfl
end
abbrev sCk : Stmt := top 28
abbrev sPl : Stmt := top 29
theorem triN_ge (k : Nat) : (k : Int) ≤ triN k := by
  induction k with
  | zero => exact Int.le_refl 0
  | succ k ih => simp only [triN]; omega
theorem pwN_ge (k : Nat) : (k : Int) + 1 ≤ pwN k := by
  induction k with
  | zero => decide
  | succ k ih => simp only [pwN]; omega
def thL (top : Int) : List Int := ((List.range 8).map triN).filter fun x => decide (x ≤ top)
def pwL (top : Int) : List Int := ((List.range 8).map pwN).filter fun x => decide (x ≤ top)
theorem thL_is : ∀ (top : Int) (k : Nat), 0 ≤ top → top < 20 → top < triN k → (∀ j, j < k → triN j ≤ top) → (List.range k).map triN = thL top := by
  intro top k h0 h1 h2 h3
  have hk : k < 8 := by
    rcases Nat.lt_or_ge k 8 with z | z
    · exact z
    · have := h3 7 (by omega)
      have e : triN 7 = 28 := by decide
      omega
  have key : ∀ t : _root_.Fin 20, ∀ k : _root_.Fin 8, ((t.val : Nat) : Int) < triN k.val → (∀ j, j < k.val → triN j ≤ ((t.val : Nat) : Int)) → (List.range k.val).map triN = thL ((t.val : Nat) : Int) := by decide
  have e : ((top.toNat : Nat) : Int) = top := by omega
  have := key ⟨top.toNat, by omega⟩ ⟨k, hk⟩
  simp only [e] at this
  exact this h2 h3
theorem pwL_is : ∀ (top : Int) (k : Nat), 0 ≤ top → top < 20 → top < pwN k → (∀ j, j < k → pwN j ≤ top) → (List.range k).map pwN = pwL top := by
  intro top k h0 h1 h2 h3
  have hk : k < 8 := by
    rcases Nat.lt_or_ge k 8 with z | z
    · exact z
    · have := h3 7 (by omega)
      have e : pwN 7 = 128 := by decide
      omega
  have key : ∀ t : _root_.Fin 20, ∀ k : _root_.Fin 8, ((t.val : Nat) : Int) < pwN k.val → (∀ j, j < k.val → pwN j ≤ ((t.val : Nat) : Int)) → (List.range k.val).map pwN = pwL ((t.val : Nat) : Int) := by decide
  have e : ((top.toNat : Nat) : Int) = top := by omega
  have := key ⟨top.toNat, by omega⟩ ⟨k, hk⟩
  simp only [e] at this
  exact this h2 h3
section
variable {P : Program} {w : World} {K : PySem.W.Frag} {mg : Str → Option Value} {base : Heap} {f g c wh kd : Addr} {fd gd cd wd : FuncData} {t10 t3 : Tok} {kvs : List (Str × Tok × Value)}
theorem scTh : FnScope ["top", "found", "value", "step"] ["top"] (defScope sTh) := ⟨rfl, rfl, rfl, by decide +kernel, rfl, by decide +kernel, by decide +kernel⟩
theorem ok_th (F : Fun K "threes_to" "threes_to" sTh f fd) (B : Bt mg) : FnOk P w K mg base CX0 1 f fd ["top"] (spList thL) := by
  refine F.ok scTh (fun vs H Q E h => ?_) (fun cdv A outer s H vs Q E hr h => ?_)
  · obtain ⟨a, rfl, _⟩ := h
    rfl
  obtain ⟨top, rfl, h0, h1, q⟩ := h
  refine ⟨_, (@pss_cons _ _ _ _ _ (ps_set (i := 1) scTh.nd rfl (Or.inl rfl) (pe_lst pa_nil)) (@pss_cons _ _ _ _ _ (ps_set (i := 2) scTh.nd rfl (Or.inl rfl) pe_int) (@pss_cons _ _ _ _ _ (ps_set (i := 3) scTh.nd rfl (Or.inl rfl) pe_int) (@pss_cons _ _ _ _ _ (ps_while PassesOwn.never (pt_cmpR op_le (pv 2) (pv 0) (nomark _)) (@pss_cons _ _ _ _ _ (ps_expr (pe_bm PySem.F.plainAttrs_list PySem.F.slot_list_append PySem.F.type_list_append mt_append (pv 1) (pa_cons (pv 2) pa_nil))) (@pss_cons _ _ _ _ _ (ps_set (i := 2) scTh.nd rfl (Or.inl rfl) (pe_op op_add (pv 2) (pv 3))) (@pss_one _ _ _ (ps_set (i := 3) scTh.nd rfl (Or.inl rfl) (pe_op op_add (pv 3) pe_int)))))) (@pss_one _ _ _ (ps_ret (pv 1))))))), ?_⟩
  refine ⟨(by show 0 ≤ sizeLine; decide), fun p hp => ?_⟩
  refine while_by (fun σ H' => ∃ k : Nat, σ = [some (.int top), some (.ref p), some (.int (triN k)), some (.int ((k : Int) + 1))] ∧ Same H H' ∧ H' p = some (.lst (((List.range k).map triN).map V.int)) ∧ ∀ j, j < k → triN j ≤ top)
    (fun σ H' => match σ with | [_, _, some (.int v), _] => (top + 1 - v).toNat | _ => 0)
    ⟨0, rfl, same_new hp _, upd_same, fun j hj => absurd hj (Nat.not_lt_zero _)⟩ ?_ (fun σ H Q Q' h ⟨v, e, w, e', i, j, e1, e2, k, e3, q⟩ => ⟨v, e, w, e', i, j, e1, e2, k, e3, h _ _ q⟩)
  rintro σ H' ⟨k, rfl, g1, l1, b1⟩
  refine ⟨_, rfl, _, rfl, _, _, rfl, rfl, _, rfl, ite2 (fun c => ?_) (fun c => ?_)⟩
  · have c' : triN k ≤ top := of_decide_eq_true c
    have kk := triN_ge k
    refine ⟨_, rfl, .inl ⟨rfl, _, SqL.of l1⟩, _, rfl, p, _, _, rfl, rfl, l1, ?_, ?_⟩
    · rw [List.length_map, List.length_map, List.length_range]; exact small1000 (by omega)
    · refine ⟨_, rfl, _, rfl, _, _, rfl, rfl, _, rfl, _, _, rfl, rfl, ⟨k + 1, ?_, fun b o hb => ?_, ?_, fun j hj => ?_⟩, ?_⟩
      · show [some (V.int top), some (V.ref p), some (V.int (triN k + ((k : Int) + 1))), some (V.int ((k : Int) + 1 + 1))] = _
        have e1 : triN (k + 1) = triN k + ((k : Int) + 1) := rfl
        have e2 : (((k + 1 : Nat) : Int) + 1) = (k : Int) + 1 + 1 := by omega
        rw [e1, e2]
      · have hne : b ≠ p := fun e => by rw [e, hp] at hb; cases hb
        rw [upd_ne hne]; exact g1 _ _ hb
      · rw [upd_same, List.range_succ, List.map_append, List.map_append]; rfl
      · rcases Nat.lt_or_ge j k with z | z
        · exact b1 j z
        · have : j = k := by omega
          subst this; exact c'
      · show (top + 1 - (triN k + ((k : Int) + 1))).toNat < (top + 1 - triN k).toNat
        omega
  · have c' : ¬ triN k ≤ top := of_decide_eq_false (Bool.eq_false_iff.mpr c)
    refine ⟨_, rfl, q p H' g1 hp ?_⟩
    rw [l1, thL_is top k h0 h1 (by omega) b1]
theorem scPw : FnScope ["top", "found", "value"] ["top"] (defScope sPw) := ⟨rfl, rfl, rfl, by decide +kernel, rfl, by decide +kernel, by decide +kernel⟩
theorem ok_pw (F : Fun K "powers_to" "powers_to" sPw f fd) (B : Bt mg) : FnOk P w K mg base CX0 1 f fd ["top"] (spList pwL) := by
  refine F.ok scPw (fun vs H Q E h => ?_) (fun cdv A outer s H vs Q E hr h => ?_)
  · obtain ⟨a, rfl, _⟩ := h
    rfl
  obtain ⟨top, rfl, h0, h1, q⟩ := h
  refine ⟨_, (@pss_cons _ _ _ _ _ (ps_set (i := 1) scPw.nd rfl (Or.inl rfl) (pe_lst pa_nil)) (@pss_cons _ _ _ _ _ (ps_set (i := 2) scPw.nd rfl (Or.inl rfl) pe_int) (@pss_cons _ _ _ _ _ (ps_while PassesOwn.never (pt_cmpR op_le (pv 2) (pv 0) (nomark _)) (@pss_cons _ _ _ _ _ (ps_expr (pe_bm PySem.F.plainAttrs_list PySem.F.slot_list_append PySem.F.type_list_append mt_append (pv 1) (pa_cons (pv 2) pa_nil))) (@pss_one _ _ _ (ps_set (i := 2) scPw.nd rfl (Or.inl rfl) (pe_op op_mul (pv 2) pe_int))))) (@pss_one _ _ _ (ps_ret (pv 1)))))), ?_⟩
  refine ⟨(by show 0 ≤ sizeLine; decide), fun p hp => ?_⟩
  refine while_by (fun σ H' => ∃ k : Nat, σ = [some (.int top), some (.ref p), some (.int (pwN k))] ∧ Same H H' ∧ H' p = some (.lst (((List.range k).map pwN).map V.int)) ∧ ∀ j, j < k → pwN j ≤ top)
    (fun σ H' => match σ with | [_, _, some (.int v)] => (top + 1 - v).toNat | _ => 0)
    ⟨0, rfl, same_new hp _, upd_same, fun j hj => absurd hj (Nat.not_lt_zero _)⟩ ?_ (fun σ H Q Q' h ⟨v, e, w, e', i, j, e1, e2, k, e3, q⟩ => ⟨v, e, w, e', i, j, e1, e2, k, e3, h _ _ q⟩)
  rintro σ H' ⟨k, rfl, g1, l1, b1⟩
  refine ⟨_, rfl, _, rfl, _, _, rfl, rfl, _, rfl, ite2 (fun c => ?_) (fun c => ?_)⟩
  · have c' : pwN k ≤ top := of_decide_eq_true c
    have kk := pwN_ge k
    refine ⟨_, rfl, .inl ⟨rfl, _, SqL.of l1⟩, _, rfl, p, _, _, rfl, rfl, l1, ?_, ?_⟩
    · rw [List.length_map, List.length_map, List.length_range]; exact small1000 (by omega)
    · refine ⟨_, rfl, _, _, rfl, rfl, .inl ⟨by omega, by omega⟩, ⟨k + 1, rfl, fun b o hb => ?_, ?_, fun j hj => ?_⟩, ?_⟩
      · have hne : b ≠ p := fun e => by rw [e, hp] at hb; cases hb
        rw [upd_ne hne]; exact g1 _ _ hb
      · rw [upd_same, List.range_succ, List.map_append, List.map_append]; rfl
      · rcases Nat.lt_or_ge j k with z | z
        · exact b1 j z
        · have : j = k := by omega
          subst this; exact c'
      · show (top + 1 - pwN k * 2).toNat < (top + 1 - pwN k).toNat
        omega
  · have c' : ¬ pwN k ≤ top := of_decide_eq_false (Bool.eq_false_iff.mpr c)
    refine ⟨_, rfl, q p H' g1 hp ?_⟩
    rw [l1, pwL_is top k h0 h1 (by omega) b1]
/-- check_kind of a word that is a key -/
def spCk (kvs : List (Str × Tok × Value)) : Sp := fun vs H Q _ => ∃ x : Str, vs = [.str x] ∧ (valueAt (kpairs kvs) (Sum.inr x)).isSome = true ∧ Q .non H
end
/-! check_kind and plan_of of ANY data, that raise; a good plan is told -/
abbrev bmV : List Value := [.type "ValueError", .type "Exception", .type "BaseException", .type "object"]
inductive Kind : Str → (Int → List Int) → Prop where
  | sq : Kind "squares" sqL
  | th : Kind "threes" thL
  | pr : Kind "primes" prL
  | pw : Kind "powers" pwL
/-- what a text must have for plan_of -/
structure Kinds (P : Program) (w : World) (K : PySem.W.Frag) (mg : Str → Option Value) (base : Heap) (kvs : List (Str × Tok × Value)) : Prop where
  get : ∀ word fL, Kind word fL → ∃ g gd, valueAt (kpairs kvs) (Sum.inr word) = some (.ref g) ∧ FnOk P w K mg base CX0 2 g gd ["top"] (spList fL) ∧ Binds K gd ["top"] [] ∧ PySem.W.keepIn K (.ref g) = true
def upto (n : Int) : List Int := (List.range n.toNat).map fun k : Nat => 1 + (k : Int)
def plSums (fL : Int → List Int) (n : Int) : List Int := (fL (2 * n - 1)).filter fun v => decide (3 ≤ v)
def spPlan0 : Sp := fun vs H Q _ => ∃ (word : Str) (fL : Int → List Int) (n : Int), vs = [.str word, .int n] ∧ Kind word fL ∧ 1 ≤ n ∧ n ≤ 10 ∧
  ∀ (p a b : Addr) (H' : Hp), Same H H' → H p = none → H a = none → H b = none → a ≠ b → H' p = some (.tup [.ref a, .ref b]) → H' a = some (.lst ((upto n).map V.int)) → H' b = some (.lst ((plSums fL n).map V.int)) → Q (.ref p) H'
theorem fL_len {word : Str} {fL : Int → List Int} (k : Kind word fL) (top : Int) (h0 : 0 ≤ top) (h : top < 20) : (fL top).length ≤ 20 := by
  have e : ((top.toNat : Nat) : Int) = top := by omega
  rw [← e]
  generalize ht : (⟨top.toNat, by omega⟩ : _root_.Fin 20) = t
  have et : top.toNat = t.val := by rw [← ht]
  rw [et]
  clear ht et e h0 h
  cases k
  · revert t; decide +kernel
  · revert t; decide +kernel
  · revert t; decide +kernel
  · revert t; decide +kernel
def isS : PyData → Bool
  | .str _ => true
  | _ => false
theorem kit_s (K : PySem.W.Frag) (d : PyData) : PySem.W.kitOne K (.type (tyD d)) (.type "str") = some (isS d) := by cases d <;> rfl
def kindIn (kvs : List (Str × Tok × Value)) : PyData → Bool
  | .str z => (valueAt (kpairs kvs) (Sum.inr z)).isSome
  | _ => false
def lenIn : PyData → Bool
  | .int n => decide (1 ≤ n) && decide (n ≤ 10)
  | _ => false
def spCkK (kvs : List (Str × Tok × Value)) (XK : Addr) : Sp := fun vs H Q E => ∃ v d, vs = [v] ∧ Dat H v d ∧ (kindIn kvs d = true → Q .non H) ∧ (kindIn kvs d = false → E (.ref XK) none H)
def spPlX (kvs : List (Str × Tok × Value)) (XK XN : Addr) : Sp := fun vs H Q E => ∃ v d u e, vs = [v, u] ∧ Dat H v d ∧ Dat H u e ∧ (kindIn kvs d = true → lenIn e = true → ∀ (word : Str) (fL : Int → List Int) (n : Int), v = .str word → Kind word fL → u = .int n → 1 ≤ n → n ≤ 10 → ∀ (p a b : Addr) (H' : Hp), Same H H' →
  H' p = some (.tup [.ref a, .ref b]) → H' a = some (.lst ((upto n).map V.int)) → H' b = some (.lst ((plSums fL n).map V.int)) → Q (.ref p) H') ∧ (kindIn kvs d = false → E (.ref XK) none H) ∧ (kindIn kvs d = true → lenIn e = false → E (.ref XN) none H)
section
variable {P : Program} {w : World} {K : PySem.W.Frag} {mg : Str → Option Value} {base : Heap} {f c wh kd XK XN : Addr} {fd cd wd : FuncData} {t10 t3 : Tok} {kvs : List (Str × Tok × Value)}
theorem scCk : FnScope ["kind"] ["kind"] (defScope sCk) := ⟨rfl, rfl, rfl, by decide +kernel, rfl, by decide +kernel, by decide +kernel⟩
theorem ok_ckK (F : Fun K "check_kind" "check_kind" sCk f fd) (B : Bt2 mg) (KD : KDict K w kd kvs) (mK : mg "KINDS" = some (.ref kd)) (eXK : PySem.W.excIn K XK bmV "ValueError.__new__" = true) (mXK : mg "NoKind" = some (.ref XK)) : FnOk P w K mg base (CX1 P w) 1 f fd ["kind"] (spCkK kvs XK) := by
  refine F.ok1 scCk (fun vs H Q E h => ?_) (fun cdv A outer s H vs Q E hr h => ?_)
  · obtain ⟨v, d, rfl, _⟩ := h
    rfl
  obtain ⟨v, d, rfl, hd, q, qe⟩ := h
  refine ⟨_, (@pss_one _ _ _ (ps_if (PW.pt (pw_or (pt_not (pt_val (pe_callB (call_isi "str") rfl B.isinstance boot_isinstance (pa_cons (pv 0) (pa_cons (pe_bltn (v := .ty "str") rfl B.str boot_str rfl) pa_nil))))) (pw_or1 (pt_cmp (pc_knotin KD (pv 0) (pe_glob (v := .ref kd) rfl mK rfl)))))) (@pss_one _ _ _ (ps_raise raises1 rfl PySem.F.excBase_ValueError eXK rfl mXK (pa_cons pe_str pa_nil))) pss_nil)), ?_⟩
  refine ⟨_, rfl, _, _, isS d, rfl, hd.ty, kit_s _ d, _, rfl, ?_⟩
  cases c : isS d with
  | false =>
    refine iteT (iteT ⟨by decide, qe ?_⟩)
    cases d <;> first | rfl | cases c
  | true =>
    refine iteF ?_
    cases hd with
    | str z =>
      refine ⟨_, rfl, z, rfl, rfl, _, rfl, ?_⟩
      cases c2 : (valueAt (kpairs kvs) (Sum.inr z)).isSome with
      | true => exact iteF (q c2)
      | false => exact iteT ⟨by decide, qe c2⟩
    | _ => cases c
theorem scPl : FnScope ["kind", "n", "sums"] ["kind", "n"] (defScope sPl) := ⟨rfl, rfl, rfl, by decide +kernel, rfl, by decide +kernel, by decide +kernel⟩
theorem ok_plX (F : Fun K "plan_of" "plan_of" sPl f fd) (B : Bt2 mg) (KD : KDict K w kd kvs) (mK : mg "KINDS" = some (.ref kd)) (m10 : mg "MOST" = some (.int 10 t10)) (m3 : mg "LEAST_SUM" = some (.int 3 t3)) (KS : Kinds P w K mg base kvs) (KW : ∀ z : Str, (valueAt (kpairs kvs) (Sum.inr z)).isSome = true → ∃ fL, Kind z fL)
    (eXN : PySem.W.excIn K XN bmV "ValueError.__new__" = true) (mXN : mg "NoNumber" = some (.ref XN))
    (GC : FnOk P w K mg base (CX1 P w) 2 c cd ["kind"] (spCkK kvs XK)) (bC : Binds K cd ["kind"] []) (kC : PySem.W.keepIn K (.ref c) = true) (mC : mg "check_kind" = some (.ref c))
    (GW : FnOk P w K mg base CX0 2 wh wd ["thing"] spWholeD) (bW : Binds K wd ["thing"] []) (kW : PySem.W.keepIn K (.ref wh) = true) (mW : mg "is_whole" = some (.ref wh)) : FnOk P w K mg base (CX1 P w) 3 f fd ["kind", "n"] (spPlX kvs XK XN) := by
  refine F.ok1 scPl (fun vs H Q E h => ?_) (fun cdv A outer s H vs Q E hr h => ?_)
  · obtain ⟨v, d, u, e, rfl, _⟩ := h
    rfl
  obtain ⟨v, d, u, e, rfl, hd, he, q0, qK, qN⟩ := h
  have dec : kindIn kvs d = true → ∃ word, v = .str word ∧ d = .str word ∧ (valueAt (kpairs kvs) (Sum.inr word)).isSome = true := fun h => by
    cases hd with
    | str z => exact ⟨z, rfl, rfl, h⟩
    | _ => cases h
  by_cases ck : kindIn kvs d = true
  · obtain ⟨word, rfl, rfl, hsome⟩ := dec ck
    obtain ⟨fL, hk⟩ := KW word hsome
    obtain ⟨g, gd, hv, GL, bL, kL⟩ := KS.get word fL hk
    refine ⟨_, (@pss_cons _ _ _ _ _ (ps_expr (pe_call GC hr rfl mC kC bC .nil pass1 (pa_cons (pv 0) pa_nil))) (@pss_cons _ _ _ _ _ (ps_if (PW.pt (pw_or (pt_not (pt_val (pe_call GW hr rfl mW kW bW .nil pass0 (pa_cons (pv 1) pa_nil)))) (pw_or1 (pt_not (pt_chain op_le op_le pe_int (pv 1) (pe_glob (v := .int 10) rfl m10 ⟨_, rfl⟩)))))) (@pss_one _ _ _ (ps_raise raises1 rfl PySem.F.excBase_ValueError eXN rfl mXN (pa_cons pe_str pa_nil))) pss_nil) (@pss_cons _ _ _ _ _ (ps_comp ["value"] rfl (blk_ok (defScope sPl) ["kind", "n", "sums"] rfl rfl (by decide +kernel)) (pi_list (pe_callV GL hr kL bL pass0 (pe_kget KD (pe_glob (v := .ref kd) rfl mK rfl) (pv 0) (fun _ _ => rfl)) (pa_cons (pe_op op_sub (pe_op op_mul pe_int (pv 1)) pe_int) pa_nil))) (fun pins C fp s3 H3 => ⟨(pg_name (i := 0) (show (blkN ["value"] ["kind", "n", "sums"]).Nodup by decide +kernel) rfl (Or.inl rfl)), (pif_one (pt_cmpR op_ge (pv 0) (pe_glob (v := .int 3) rfl m3 ⟨_, rfl⟩) (nomark _))), (pv 0)⟩) (j := 2) scPl.nd rfl (Or.inl rfl) rfl) (@pss_one _ _ _ (ps_ret (pe_tup (pa_cons (pe_list_range2 rfl rfl B.range rfl B.list (pa_cons pe_int (pa_cons (pe_op op_add (pv 1) pe_int) pa_nil))) (pa_cons (pv 2) pa_nil)))))))), ?_⟩
    refine ⟨_, rfl, _, _, rfl, hd, fun c1 => ?_, qK⟩
    refine ⟨_, rfl, u, e, rfl, he, _, rfl, ?_⟩
    cases cw : isW e with
    | false =>
      refine iteT (iteT ⟨by decide, qN c1 ?_⟩)
      cases e <;> first | rfl | cases cw
    | true =>
      cases he with
      | int n =>
        refine iteF ?_
        refine ⟨_, rfl, _, _, rfl, rfl, _, rfl, ite2 (fun a1 => ?_) (fun a1 => ?_)⟩
        · refine ⟨_, _, rfl, rfl, _, rfl, ite2 (fun a2 => ?_) (fun a2 => ?_)⟩
          · refine ⟨by decide, qN c1 ?_⟩
            have h2 : ¬ n ≤ 10 := fun z => by
              have e2 : decide (n ≤ 10) = true := decide_eq_true z
              have a3 : (!decide (n ≤ 10)) = true := a2
              rw [e2] at a3
              cases a3
            rw [lenIn, decide_eq_false h2, Bool.and_false]
          · have h1 : 1 ≤ n := of_decide_eq_true a1
            have h2 : n ≤ 10 := by
              cases z : decide (n ≤ 10) with
              | true => exact of_decide_eq_true z
              | false => exact absurd (show (!decide (n ≤ 10)) = true by rw [z]; rfl) a2
            refine ⟨_, rfl, word, _, .ref g, rfl, rfl, hv, rfl, rfl, _, rfl, _, _, rfl, rfl, .inl ⟨by decide, by decide⟩, _, _, rfl, rfl, 2 * n - 1, rfl, by omega, by omega, fun r H1 g1 hr0 hl => ?_⟩
            refine ⟨r, rfl, ⟨_, SqL.of hl⟩, fun D hD => ?_⟩
            have hlen := fL_len hk (2 * n - 1) (by omega) (by omega)
            have hml : ((fL (2 * n - 1)).map V.int).length = (fL (2 * n - 1)).length := List.length_map _
            refine turns_list (σ := [some (.str word), some (.int n), none]) (xs := (fL (2 * n - 1)).map V.int) (fun i => decide (3 ≤ (fL (2 * n - 1)).getD i 0)) (fun i => .int ((fL (2 * n - 1)).getD i 0)) (SqL.of hl) hD (by omega) (fun i H' hi g P hP => ?_) (fun i H' hi _ g P hP => ?_) fun H2 g2 e2 => ?_
            · rw [getD_map_int _ (by rw [hml] at hi; exact hi)]
              exact ⟨_, rfl, _, _, rfl, rfl, _, rfl, hP _ Same.rfl'⟩
            · rw [getD_map_int _ (by rw [hml] at hi; exact hi)]
              exact ⟨_, rfl, hP _ Same.rfl'⟩
            · have e3 : H2 D = some (.lst ((plSums fL n).map V.int)) := by
                rw [e2, hml]
                unfold plSums
                rw [← range_getD_filter (fun v => decide (3 ≤ v)) 0 (fL (2 * n - 1)), List.map_map]
                rfl
              have g12 := g1.trans g2
              refine ⟨_, rfl, _, _, rfl, rfl, _, _, rfl, ⟨by decide, by decide, by omega, by omega⟩, fun a ha => ?_⟩
              have hDa : D ≠ a := ne_of_none e3 ha
              refine ⟨_, rfl, (by show 2 ≤ sizeLine; decide), fun p hp => ?_⟩
              have g4 : Same H2 (upd H2 a (.lst ((List.range (n + 1 - 1).toNat).map fun k : Nat => V.int (1 + (k : Int))))) := Same.new ha _
              have hpa : a ≠ p := ne_of_none upd_same hp
              have hpD : D ≠ p := ne_of_none (g4 _ _ e3) hp
              have hN : ∀ b, H2 b = none → H b = none := fun b hb => none_of_same g12 hb
              refine q0 c1 (by rw [lenIn, decide_eq_true h1, decide_eq_true h2]; rfl) word fL n rfl hk rfl h1 h2 p a D _ (g12.trans (g4.trans (Same.new hp _))) upd_same ?_ ?_
              · rw [upd_ne hpa, upd_same]
                unfold upto
                rw [List.map_map]
                have e : n + 1 - 1 = n := by omega
                rw [e]
                rfl
              · rw [upd_ne hpD, upd_ne hDa]
                exact e3
        · refine ⟨_, rfl, iteT ⟨by decide, qN c1 ?_⟩⟩
          have h1 : ¬ 1 ≤ n := fun z => a1 (decide_eq_true z)
          rw [lenIn, decide_eq_false h1, Bool.false_and]
      | _ => cases cw
  · obtain ⟨g, gd, hv, GL, bL, kL⟩ := KS.get "squares" sqL .sq
    refine ⟨_, (@pss_cons _ _ _ _ _ (ps_expr (pe_call GC hr rfl mC kC bC .nil pass1 (pa_cons (pv 0) pa_nil))) (@pss_cons _ _ _ _ _ (ps_if (PW.pt (pw_or (pt_not (pt_val (pe_call GW hr rfl mW kW bW .nil pass0 (pa_cons (pv 1) pa_nil)))) (pw_or1 (pt_not (pt_chain op_le op_le pe_int (pv 1) (pe_glob (v := .int 10) rfl m10 ⟨_, rfl⟩)))))) (@pss_one _ _ _ (ps_raise raises1 rfl PySem.F.excBase_ValueError eXN rfl mXN (pa_cons pe_str pa_nil))) pss_nil) (@pss_cons _ _ _ _ _ (ps_comp ["value"] rfl (blk_ok (defScope sPl) ["kind", "n", "sums"] rfl rfl (by decide +kernel)) (pi_list (pe_callV GL hr kL bL pass0 (pe_kget KD (pe_glob (v := .ref kd) rfl mK rfl) (pv 0) (fun _ _ => rfl)) (pa_cons (pe_op op_sub (pe_op op_mul pe_int (pv 1)) pe_int) pa_nil))) (fun pins C fp s3 H3 => ⟨(pg_name (i := 0) (show (blkN ["value"] ["kind", "n", "sums"]).Nodup by decide +kernel) rfl (Or.inl rfl)), (pif_one (pt_cmpR op_ge (pv 0) (pe_glob (v := .int 3) rfl m3 ⟨_, rfl⟩) (nomark _))), (pv 0)⟩) (j := 2) scPl.nd rfl (Or.inl rfl) rfl) (@pss_one _ _ _ (ps_ret (pe_tup (pa_cons (pe_list_range2 rfl rfl B.range rfl B.list (pa_cons pe_int (pa_cons (pe_op op_add (pv 1) pe_int) pa_nil))) (pa_cons (pv 2) pa_nil)))))))), ?_⟩
    exact ⟨_, rfl, v, d, rfl, hd, fun c1 => absurd c1 ck, qK⟩
end
/-! living objects: what was made since H0, beside the deck -/
def S3 (d p : Addr) (qs : List Addr) : Addr → Prop := fun b => b = d ∨ b = p ∨ b ∈ qs
structure Lv (d p : Addr) (qs : List Addr) (H0 H : Hp) (bs : List (Addr × HO)) : Prop where
  D : Dk H d p qs
  G : Same (msk (S3 d p qs) H0) (msk (S3 d p qs) H)
  L : ∀ x ∈ bs, msk (S3 d p qs) H x.1 = some x.2
  F : ∀ x ∈ bs, msk (S3 d p qs) H0 x.1 = none
  nd : (bs.map Prod.fst).Nodup
theorem Dk.out3 {H : Hp} {d p x : Addr} {qs : List Addr} (D : Dk H d p qs) (h : H x = none) : ¬ S3 d p qs x := fun z => by
  rcases z with z | z | z
  · obtain ⟨c, y⟩ := D.dk; rw [z, y] at h; cases h
  · have y := D.pl; rw [z, y] at h; cases h
  · obtain ⟨_, _, _, y⟩ := D.q _ z; rw [y] at h; cases h
section
variable {d p : Addr} {qs : List Addr} {H0 H : Hp} {bs : List (Addr × HO)}
theorem Lv.start (D : Dk H d p qs) : Lv d p qs H H [] := ⟨D, fun _ _ h => h, (fun _ h => nomatch h), (fun _ h => nomatch h), List.nodup_nil⟩
theorem Lv.new (h : Lv d p qs H0 H bs) {q : Addr} (hq : H q = none) (o : HO) : Lv d p qs H0 (upd H q o) ((q, o) :: bs) := by
  have sm : Same H (upd H q o) := Same.new hq o
  refine ⟨h.D.same sm, fun b u e => msk_same sm _ _ (h.G _ _ e), fun x hx => ?_, fun x hx => ?_, ?_⟩
  · rcases List.mem_cons.mp hx with e | e
    · rw [e]
      show msk (S3 d p qs) (upd H q o) q = some o
      rw [msk_in (h.D.out3 hq)]
      exact upd_same
    · exact msk_same sm _ _ (h.L x e)
  · rcases List.mem_cons.mp hx with e | e
    · rw [e]
      show msk (S3 d p qs) H0 q = none
      cases z : msk (S3 d p qs) H0 q with
      | none => rfl
      | some u =>
        have y := msk_le _ _ (h.G _ _ z)
        rw [hq] at y
        cases y
    · exact h.F x e
  · rw [List.map_cons, List.nodup_cons]
    refine ⟨fun z => ?_, h.nd⟩
    obtain ⟨x, hx, e⟩ := List.mem_map.mp z
    have y := msk_le _ _ (h.L x hx)
    rw [e] at y
    change H q = _ at y
    rw [hq] at y
    cases y
theorem Lv.nw (h : Lv d p qs H0 H bs) {o : HO} {Q : V → Hp → Prop} (k : ∀ q H', Lv d p qs H0 H' ((q, o) :: bs) → Q (.ref q) H') : ∀ q, H q = none → Q (.ref q) (upd H q o) := fun q hq => k q _ (h.new hq o)
theorem Lv.mv (h : Lv d p qs H0 H bs) {H' : Hp} (D : Dk H' d p qs) (g : Same (msk (S3 d p qs) H) (msk (S3 d p qs) H')) : Lv d p qs H0 H' bs := ⟨D, fun b u e => g _ _ (h.G _ _ e), fun x hx => g _ _ (h.L x hx), h.F, h.nd⟩
theorem off_msk {H' : Hp} (o : Off d qs H H') : Same (msk (S3 d p qs) H) (msk (S3 d p qs) H') := fun b u e => by
  obtain ⟨n, e⟩ := msk_some e
  rw [msk_in n]
  exact (o b (fun z => n (.inl z)) (fun z => n (.inr (.inr z)))).trans e
theorem Lv.dr (h : Lv d p qs H0 H bs) {many : Int} {Q : V → Hp → Prop} (k : ∀ r H', 0 ≤ r → r < many → Lv d p qs H0 H' bs → Q (.int r) H') : ∀ (r : Int) (H' : Hp), 0 ≤ r → r < many → Dk H' d p qs → Off d qs H H' → Q (.int r) H' :=
  fun r H' r0 r1 D' o => k r H' r0 r1 (h.mv D' (off_msk o))
theorem Lv.m (h : Lv d p qs H0 H bs) {q : Addr} {o : HO} (e : (q, o) ∈ bs) : msk (S3 d p qs) H q = some o := h.L _ e
theorem Lv.at (h : Lv d p qs H0 H bs) {q : Addr} {o : HO} (e : (q, o) ∈ bs) : H q = some o := msk_le _ _ (h.L _ e)
theorem Lv.old (h : Lv d p qs H0 H bs) {q : Addr} {o : HO} (e : msk (S3 d p qs) H0 q = some o) : H q = some o := msk_le _ _ (h.G _ _ e)
theorem Lv.perm {bs' : List (Addr × HO)} (h : Lv d p qs H0 H bs) (e : bs'.Perm bs) : Lv d p qs H0 H bs' :=
  ⟨h.D, h.G, fun x hx => h.L x (e.mem_iff.mp hx), fun x hx => h.F x (e.mem_iff.mp hx), (e.map Prod.fst).nodup_iff.mpr h.nd⟩
theorem Lv.put {l : Addr} {o : HO} (h : Lv d p qs H0 H ((l, o) :: bs)) (o' : HO) : Lv d p qs H0 (upd H l o') ((l, o') :: bs) := by
  have hl := h.L _ List.mem_cons_self
  have hf := h.F _ List.mem_cons_self
  have hn := h.nd
  rw [List.map_cons, List.nodup_cons] at hn
  obtain ⟨nl, el⟩ := msk_some hl
  have keep : ∀ b u, b ≠ l → msk (S3 d p qs) H b = some u → msk (S3 d p qs) (upd H l o') b = some u := fun b u ne e => by
    obtain ⟨n, e⟩ := msk_some e
    rw [msk_in n, upd_ne ne]
    exact e
  refine ⟨h.D.stay fun c hc => upd_ne fun z => nl ?_, fun b u e => keep b u (fun z => ?_) (h.G _ _ e), fun x hx => ?_, fun x hx => ?_, ?_⟩
  · rw [z] at hc
    exact hc
  · rw [z] at e
    change msk (S3 d p qs) H0 l = none at hf
    rw [hf] at e
    cases e
  · rcases List.mem_cons.mp hx with e | e
    · rw [e]
      show msk (S3 d p qs) (upd H l o') l = some o'
      rw [msk_in nl]
      exact upd_same
    · exact keep _ _ (fun z => hn.1 (List.mem_map.mpr ⟨x, e, z⟩)) (h.L x (List.mem_cons_of_mem _ e))
  · rcases List.mem_cons.mp hx with e | e
    · rw [e]; exact hf
    · exact h.F x (List.mem_cons_of_mem _ e)
  · rw [List.map_cons, List.nodup_cons]
    exact hn
end
theorem Lv.drop1 {d p : Addr} {qs : List Addr} {H0 H : Hp} {bs : List (Addr × HO)} {x y : Addr × HO} (h : Lv d p qs H0 H (x :: y :: bs)) : Lv d p qs H0 H (x :: bs) := by
  have m : ∀ z, z ∈ x :: bs → z ∈ x :: y :: bs := fun z hz => by
    rcases List.mem_cons.mp hz with e | e
    · rw [e]; exact List.mem_cons_self
    · exact List.mem_cons_of_mem _ (List.mem_cons_of_mem _ e)
  exact ⟨h.D, h.G, fun z hz => h.L z (m z hz), fun z hz => h.F z (m z hz), h.nd.sublist (List.Sublist.map _ (((List.Sublist.refl bs).cons y).cons_cons x))⟩
theorem Lv.drop2 {d p : Addr} {qs : List Addr} {H0 H : Hp} {bs : List (Addr × HO)} {x y z : Addr × HO} (h : Lv d p qs H0 H (x :: y :: z :: bs)) : Lv d p qs H0 H (x :: bs) := (h.drop1).drop1
theorem cut_mem {xs : List V} {lo hi : Option Int} {x : V} (h : x ∈ cutV xs lo hi) : x ∈ xs := List.mem_of_mem_drop (List.mem_of_mem_take h)
theorem Lv.up3 {d p : Addr} {qs : List Addr} {H0 H : Hp} {bs : List (Addr × HO)} {x y z a : Addr × HO} (h : Lv d p qs H0 H (x :: y :: z :: a :: bs)) : Lv d p qs H0 H (a :: x :: y :: z :: bs) := h.perm (List.perm_middle (l₁ := [x, y, z]) (a := a) (l₂ := bs)).symm
/-! the rules' statements in shells: what Lean does not look behind while it elaborates -/
structure QE (X : Cx) (e : Expr) (t : TE) : Prop where
  h : PE X e t
structure QA (X : Cx) (es : List Expr) (t : TA) : Prop where
  h : PA X es t
structure QI (X : Cx) (tg iter : Expr) (t : TI) : Prop where
  h : PI X tg iter t
structure QS (X : Cx) (st : Stmt) (t : TS) : Prop where
  h : PS X st t
structure QSs (X : Cx) (st : List Stmt) (t : TS) : Prop where
  h : PSs X st t
section
variable {X : Cx} {e tg : Expr} {es : List Expr} {te : TE} {t : TA} {pos : Pos} {st : Stmt} {rest : List Stmt} {u v : TS}
theorem qa_nil : QA X [] tNil := ⟨pa_nil⟩
theorem qa_cons (ha : QE X e te) (hr : QA X es t) (hs : starEach (e :: es) X.env = (false, eval e X.env) :: starEach es X.env := by rfl) : QA X (e :: es) (tCons te t) := ⟨pa_cons ha.h hr.h hs⟩
theorem qe_lst (h : QA X es t) : QE X (.List es pos) (tLst t) := ⟨pe_lst h.h⟩
theorem qe_tup {x1} (h : QA X es t) : QE X (.Tuple es x1 pos) (tTup t) := ⟨pe_tup h.h⟩
theorem qe_ix {a b : Expr} {ta tb : TE} {r : R2} (hr : IxR X r) (ha : QE X a ta) (hb : QE X b tb) (hs : PlainIx b) : QE X (.Subscript a b pos) (tOp r ta tb) := ⟨pe_ix hr ha.h hb.h hs⟩
theorem qe_op {a b : Expr} {op : Operator} {ta tb : TE} {r : R2} (hr : OpR X (binaryOp op) r) (ha : QE X a ta) (hb : QE X b tb) : QE X (.BinOp a op b pos) (tOp r ta tb) := ⟨pe_op hr ha.h hb.h⟩
theorem qi_list (h : QE X e te) : QI X tg e (iList X.K te) := ⟨pi_list h.h⟩
theorem qs_for {iter : Expr} {body : List Stmt} {wi : TI} {g : TG} {tb : TS} (hp : PassesOwn (model X.prog X.w) X.A X.env X.xe) (hc : X.calm = true) (hi : QI X tg iter wi) (hg : PG X tg g) (hb : PSs X body tb)
    (hs : ∀ x, foldedSetIterable iter X.env x = pure x := by intro _; rfl) : QS X (.For tg iter body [] pos) (tFor wi g tb) := ⟨ps_for hp hc hi.h hg hb hs⟩
theorem qs_set {i : Nat} {x : Str} {pos' : Pos} (hN : X.N.Nodup) (hi : X.N[i]? = some x) (hx : Loc X.env.scope x) (he : QE X e te) (hs : swapsWith e (some (.Name x pos')) pos.line X.env = pure false := by rfl) (hf : X.fn x = true ∨ X.env.scope.names.lookup x = some .local := by first | exact .inl rfl | exact .inr rfl | assumption) :
    QS X (.Assign [.Name x pos'] e pos) (tAsg te (gName i)) := ⟨ps_set hN hi hx he.h hs hf⟩
theorem qss_cons (h1 : QS X st u) (h2 : QSs X rest v) : QSs X (st :: rest) (tSeq u v) := ⟨pss_cons h1.h h2.h⟩
theorem qss_one (h1 : QS X st u) : QSs X [st] u := ⟨pss_one h1.h⟩
end
/-! what is no kind -/
abbrev sNoK : Stmt := top 48
def spNoK : Sp := fun vs H Q _ => ∃ (d p : Addr) (qs : List Addr) (kind : Str), vs = [.ref d, .str kind] ∧ Dk H d p qs ∧ Tx 7 kind ∧ 1 ≤ kind.length ∧ Tx 7 (Txt.upper kind) ∧
  ∀ (v : V) (H' : Hp), Dk H' d p qs → Same (msk (S3 d p qs) H) (msk (S3 d p qs) H') → Th (msk (S3 d p qs) H') v 100 3 → Q v H'
theorem tx_az : Tx 26 "abcdefghijklmnopqrstuvwxyz" := Tx.lit (by decide +kernel) (by decide +kernel)
theorem tx_sg : Tx 68 " !#$&'()*+,-./0123456789:;<=>?@ABCDEFGHIJKLMNOPQRSTUVWXYZ[]^_`{|}~\t\n" := Tx.lit (by decide +kernel) (by decide +kernel)
section
variable {P : Program} {w : World} {K : PySem.W.Frag} {mg : Str → Option Value} {base : Heap} {f dr : Addr} {fd drd : FuncData}
theorem scNoK : FnScope ["deck", "kind", "at", "letter", "some", "word", "signs", "put"] ["deck", "kind"] (defScope sNoK) := ⟨rfl, rfl, rfl, by decide +kernel, rfl, by decide +kernel, by decide +kernel⟩
theorem ok_noK (F : Fun K "_law_no_kind" "_law_no_kind" sNoK f fd) (B : BtR mg) (GR : FnOk P w K mg base CX0 1 dr drd ["deck", "many"] spDraw) (bR : Binds K drd ["deck", "many"] []) (kR : PySem.W.keepIn K (.ref dr) = true) (mR : mg "_law_draw" = some (.ref dr)) : FnOk P w K mg base CX0 2 f fd ["deck", "kind"] spNoK := by
  refine F.ok scNoK (fun vs H Q E h => ?_) (fun cdv A outer s H vs Q E hr h => ?_)
  · obtain ⟨d, p, qs, kind, rfl, _⟩ := h
    rfl
  obtain ⟨d, p, qs, kind, rfl, D, tk, k1, tu, q⟩ := h
  refine ⟨_, (@pss_cons _ _ _ _ _ (ps_set (i := 2) scNoK.nd rfl (Or.inl rfl) (pe_call GR hr rfl mR kR bR .nil pass0 (pa_cons (pv 0) (pa_cons (pe_callB call_len rfl B.len PySem.boot_len (pa_cons (pv 1) pa_nil)) pa_nil)))) (@pss_cons _ _ _ _ _ (ps_set (i := 3) scNoK.nd rfl (Or.inl rfl) (pe_ix ix_str pe_str (pe_call GR hr rfl mR kR bR .nil pass0 (pa_cons (pv 0) (pa_cons pe_int pa_nil))) (fun _ _ => rfl))) (@pss_cons _ _ _ _ _ (ps_set (i := 4) scNoK.nd rfl (Or.inl rfl) (pe_lst (QA.h (qa_cons (QE.mk (pe_op op_add_str (pe_op op_add_str (pe_slice sl_str (pv 1) po_none (po_some (pv 2))) (pv 3)) (pe_slice sl_str (pv 1) (po_some (pe_op op_add (pv 2) pe_int)) po_none))) (qa_cons (QE.mk (pe_op op_add_str (pe_op op_add_str (pe_slice sl_str (pv 1) po_none (po_some (pv 2))) (pv 3)) (pe_slice sl_str (pv 1) (po_some (pv 2)) po_none))) (qa_cons (QE.mk (pe_op op_add_str (pe_slice sl_str (pv 1) po_none (po_some (pv 2))) (pe_slice sl_str (pv 1) (po_some (pe_op op_add (pv 2) pe_int)) po_none))) (qa_cons (QE.mk (pe_op op_add_str (pv 1) pe_str)) qa_nil))))))) (@pss_cons _ _ _ _ _ (ps_set (i := 4) scNoK.nd rfl (Or.inl rfl) (pe_op op_cat (pv 4) (pe_lst (QA.h (qa_cons (QE.mk (pe_op op_add_str pe_str (pv 1))) (qa_cons (QE.mk (pe_op op_add_str (pv 1) pe_str)) (qa_cons (QE.mk (pe_bm0 PySem.F.plainAttrs_str PySem.F.slot_str_upper PySem.F.type_str_upper mt_upper (pv 1))) (qa_cons (QE.mk (pe_op op_add_str (pv 1) (pv 1))) (qa_cons (QE.mk pe_str) (qa_cons (QE.mk pe_non) (qa_cons (QE.mk pe_int) (qa_cons (QE.mk pe_bl) (qa_cons (qe_lst (qa_cons (QE.mk (pv 1)) qa_nil)) (qa_cons (qe_tup (qa_cons (QE.mk (pv 1)) qa_nil)) (qa_cons (QE.mk (pe_disp (pps_cons (pv 1) pe_int pps_nil) rfl rfl (fun h => nomatch h) (by decide))) qa_nil))))))))))))))) (@pss_cons _ _ _ _ _ (ps_set (i := 5) scNoK.nd rfl (Or.inl rfl) (pe_bm PySem.F.plainAttrs_str PySem.F.slot_str_join PySem.F.type_str_join mt_join pe_str (pa_cons (pe_comp ["k"] rfl (blk_ok (defScope sNoK) ["deck", "kind", "at", "letter", "some", "word", "signs", "put"] rfl rfl (by decide +kernel)) (pi_range1 rfl B.range (pa_cons (pe_op op_add pe_int (pe_call GR hr rfl mR kR bR .nil pass0 (pa_cons (pv 0) (pa_cons pe_int pa_nil)))) pa_nil)) (fun pins C fp s3 H3 => ⟨(pg_name (i := 0) (show (blkN ["k"] ["deck", "kind", "at", "letter", "some", "word", "signs", "put"]).Nodup by decide +kernel) rfl (Or.inl rfl)), pif_nil, (pe_ix ix_str pe_str (pe_call GR hr rfl mR kR bR .nil pass0 (pa_cons (pv 1) (pa_cons pe_int pa_nil))) (fun _ _ => rfl))⟩)) pa_nil))) (@pss_cons _ _ _ _ _ (ps_set (i := 6) scNoK.nd rfl (Or.inl rfl) pe_str) (@pss_cons _ _ _ _ _ (ps_set (i := 7) scNoK.nd rfl (Or.inl rfl) (pe_op op_add_str (pe_op op_add_str (pe_slice sl_str (pv 5) po_none (po_some (pv 2))) (pe_ix ix_str (pv 6) (pe_call GR hr rfl mR kR bR .nil pass0 (pa_cons (pv 0) (pa_cons pe_int pa_nil))) (fun _ _ => rfl))) (pe_slice sl_str (pv 5) (po_some (pv 2)) po_none))) (@pss_cons _ _ _ _ _ (ps_set (i := 4) scNoK.nd rfl (Or.inl rfl) (pe_op op_cat (pv 4) (pe_lst (QA.h (qa_cons (QE.mk (pv 5)) (qa_cons (QE.mk (pv 5)) (qa_cons (QE.mk (pv 5)) (qa_cons (QE.mk (pv 7)) (qa_cons (QE.mk pe_str) (qa_cons (QE.mk pe_str) (qa_cons (QE.mk pe_str) qa_nil))))))))))) (@pss_one _ _ _ (ps_ret (pe_ix ix_list (pe_op op_cat (pv 4) (pe_lst (QA.h (qa_cons (QE.mk pe_str) (qa_cons (QE.mk pe_str) (qa_cons (QE.mk pe_str) (qa_cons (QE.mk pe_str) (qa_cons (QE.mk pe_str) (qa_cons (qe_lst qa_nil) (qa_cons (QE.mk pe_dnewK) (qa_cons (QE.mk pe_int) qa_nil))))))))))) (pe_call GR hr rfl mR kR bR .nil pass0 (pa_cons (pv 0) (pa_cons pe_int pa_nil))) (fun _ _ => rfl)))))))))))), ?_⟩
  have L0 : Lv d p qs H H [] := Lv.start D
  have fit := tk.fit (by decide)
  have klen := tk.len
  -- at
  refine ⟨_, rfl, _, rfl, _, _, rfl, ⟨fit, rfl⟩, d, p, qs, _, rfl, D, by omega, by omega, ?_⟩
  intro at_ H1 at_0 at_1 D1 o1
  have L1 := L0.mv D1 (off_msk o1)
  -- letter
  refine ⟨_, rfl, d, p, qs, _, rfl, L1.D, by decide, by decide, ?_⟩
  intro r1 H2 r10 r11 D2 o2
  have L2 := L1.mv D2 (off_msk o2)
  obtain ⟨c, hc, tc⟩ := sign_at tx_az r10 (Int.lt_of_lt_of_le r11 (by decide +kernel))
  refine ⟨_, r1, c, rfl, rfl, tx_az.fit (by decide), hc, ?_⟩
  -- some
  have t0 : Tx 7 (Txt.slice kind none (some at_)) := tk.slice _ _
  have t1 : Tx 7 (Txt.slice kind (some (at_ + 1)) none) := tk.slice _ _
  have t2 : Tx 7 (Txt.slice kind (some at_) none) := tk.slice _ _
  have tb : Tx 1 " " := Tx.lit (by decide +kernel) (by decide +kernel)
  have tl : Tx 1 "\n" := Tx.lit (by decide +kernel) (by decide +kernel)
  have f2 : ∀ {a b : Nat} {x y : Str}, Tx a x → Tx b y → a ≤ 100 → b ≤ 100 → x.length + y.length ≤ sizeLine := fun {a b x y} hx hy ha hb => by
    have h1 := hx.len
    have h2 := hy.len
    have e : sizeLine = 16777216 := sizeLine_eq
    omega
  refine ⟨_, rfl, _, rfl, _, rfl, kind, rfl, fit, _, rfl, _, _, rfl, rfl, f2 t0 tc (by decide) (by decide), _, rfl, _, rfl, _, _, rfl, rfl, _, rfl, kind, rfl, fit, _, _, rfl, rfl, f2 (t0.app tc) t1 (by decide) (by decide), ?_⟩
  refine ⟨_, rfl, _, rfl, _, rfl, kind, rfl, fit, _, rfl, _, _, rfl, rfl, f2 t0 tc (by decide) (by decide), _, rfl, _, rfl, _, rfl, kind, rfl, fit, _, _, rfl, rfl, f2 (t0.app tc) t2 (by decide) (by decide), ?_⟩
  refine ⟨_, rfl, _, rfl, _, rfl, kind, rfl, fit, _, rfl, _, rfl, _, _, rfl, rfl, _, rfl, kind, rfl, fit, _, _, rfl, rfl, f2 t0 t1 (by decide) (by decide), ?_⟩
  refine ⟨_, rfl, _, _, rfl, rfl, f2 tk tb (by decide) (by decide), (by show 4 ≤ sizeLine; decide), ?_⟩
  have a1 := (t0.app tc).app t1
  have a2 := (t0.app tc).app t2
  have a3 := t0.app t1
  have a4 := tk.app tb
  generalize Txt.slice kind none (some at_) ++ ⟨#[c]⟩ ++ Txt.slice kind (some (at_ + 1)) none = w1 at a1 ⊢
  generalize Txt.slice kind none (some at_) ++ ⟨#[c]⟩ ++ Txt.slice kind (some at_) none = w2 at a2 ⊢
  generalize Txt.slice kind none (some at_) ++ Txt.slice kind (some (at_ + 1)) none = w3 at a3 ⊢
  generalize kind ++ " " = w4 at a4 ⊢
  intro s1 hs1
  have L3 := L2.new hs1 (.lst [.str w1, .str w2, .str w3, .str w4])
  generalize upd H2 s1 (.lst [.str w1, .str w2, .str w3, .str w4]) = H3 at L3 ⊢
  refine ⟨_, rfl, _, rfl, _, _, rfl, rfl, f2 tb tk (by decide) (by decide), ?_⟩
  refine ⟨_, rfl, _, _, rfl, rfl, f2 tk tl (by decide) (by decide), ?_⟩
  refine ⟨_, rfl, rfl, kind, rfl, rfl, not_long (Nat.le_trans tu.len (by decide)), ?_⟩
  refine ⟨_, rfl, _, rfl, _, _, rfl, rfl, f2 tk tk (by decide) (by decide), ?_⟩
  have a5 := tb.app tk
  have a6 := tk.app tl
  have a7 := tk.app tk
  generalize " " ++ kind = w5 at a5 ⊢
  generalize kind ++ "\n" = w6 at a6 ⊢
  generalize kind ++ kind = w7 at a7 ⊢
  generalize Txt.upper kind = w8 at tu ⊢
  refine ⟨_, rfl, (by show 1 ≤ sizeLine; decide), ?_⟩
  intro e1 he1
  have L4 := L3.new he1 (.lst [.str kind])
  generalize upd H3 e1 (.lst [.str kind]) = H4 at L4 ⊢
  refine ⟨_, rfl, (by show 1 ≤ sizeLine; decide), ?_⟩
  intro e2 he2
  have L5 := L4.new he2 (.tup [.str kind])
  generalize upd H4 e2 (.tup [.str kind]) = H5 at L5 ⊢
  intro e3 he3
  have L6 := L5.new he3 (.dK [])
  refine ⟨_, rfl, upd_same, [(Sum.inr kind, .int 1)], rfl, (by show 1 ≤ 15; decide), ?_⟩
  have L7 := L6.put (.dK (mergeK [] [(Sum.inr kind, .int 1)]))
  generalize upd (upd H5 e3 (.dK [])) e3 (.dK (mergeK [] [(Sum.inr kind, .int 1)])) = H7 at L7 ⊢
  refine ⟨(by show 11 ≤ sizeLine; decide), ?_⟩
  intro q8 hq8
  have L8 := L7.new hq8 (.lst [.str w5, .str w6, .str w8, .str w7, .str "", .non, .int 0, .bl true, .ref e1, .ref e2, .ref e3])
  generalize upd H7 q8 (.lst [.str w5, .str w6, .str w8, .str w7, .str "", .non, .int 0, .bl true, .ref e1, .ref e2, .ref e3]) = H8 at L8 ⊢
  refine ⟨s1, q8, _, _, rfl, rfl, L8.at (by repeat (first | exact List.mem_cons_self | apply List.mem_cons_of_mem)), L8.at (by repeat (first | exact List.mem_cons_self | apply List.mem_cons_of_mem)), small (by show 15 ≤ 1000; decide), ?_⟩
  intro s2 hs2
  have L9 := L8.new hs2 (.lst ([.str w1, .str w2, .str w3, .str w4] ++ [.str w5, .str w6, .str w8, .str w7, .str "", .non, .int 0, .bl true, .ref e1, .ref e2, .ref e3]))
  generalize upd H8 s2 (.lst ([.str w1, .str w2, .str w3, .str w4] ++ [.str w5, .str w6, .str w8, .str w7, .str "", .non, .int 0, .bl true, .ref e1, .ref e2, .ref e3])) = H9 at L9 ⊢
  -- word
  refine ⟨rfl, _, rfl, d, p, qs, _, rfl, L9.D, by decide, by decide, ?_⟩
  intro r2 H10 r20 r21 D10 o10
  have L10 := L9.mv D10 (off_msk o10)
  refine ⟨_, _, rfl, rfl, _, rfl, by omega, by omega, ?_⟩
  intro D hD
  have L11 := L10.new hD (.lst [])
  refine turns_any (n := (1 + r2).toNat) (fun i σ' H' => ∃ (x : Option V) (ws : List Str), σ' = x :: [some (.ref d), some (.str kind), some (.int at_), some (.str ⟨#[c]⟩), some (.ref s2), none, none, none] ∧ ws.length = i ∧ (∀ z ∈ ws, Tx 1 z) ∧
    Lv d p qs H H' ((D, .lst (ws.map V.str)) :: (s2, .lst ([.str w1, .str w2, .str w3, .str w4] ++ [.str w5, .str w6, .str w8, .str w7, .str "", .non, .int 0, .bl true, .ref e1, .ref e2, .ref e3])) :: (q8, .lst [.str w5, .str w6, .str w8, .str w7, .str "", .non, .int 0, .bl true, .ref e1, .ref e2, .ref e3]) ::
      (e3, .dK (mergeK [] [(Sum.inr kind, .int 1)])) :: (e2, .tup [.str kind]) :: (e1, .lst [.str kind]) :: (s1, .lst [.str w1, .str w2, .str w3, .str w4]) :: [])) ⟨none, [], rfl, rfl, (fun _ h => nomatch h), L11⟩ ?_ ?_
  · rintro i σ' H' hi ⟨x, ws, rfl, hl, hw, L⟩
    refine ⟨hi, ?_⟩
    rintro x' H2 ⟨rfl, rfl⟩
    refine comp_true ?_
    refine ⟨_, rfl, d, p, qs, _, rfl, L.D, by decide, by decide, ?_⟩
    intro r3 H3 r30 r31 D3 o3
    have L3 := L.mv D3 (off_msk o3)
    obtain ⟨c3, hc3, tc3⟩ := sign_at tx_az r30 (Int.lt_of_lt_of_le r31 (by decide +kernel))
    refine ⟨_, r3, c3, rfl, rfl, tx_az.fit (by decide), hc3, ws.map V.str, L3.at (by repeat (first | exact List.mem_cons_self | apply List.mem_cons_of_mem)), Nat.lt_of_lt_of_le (m := 1000) (by rw [List.length_map]; omega) (by decide), ?_⟩
    have L4 := L3.put (.lst (ws.map V.str ++ [.str ⟨#[c3]⟩]))
    refine ⟨_, ws ++ [⟨#[c3]⟩], rfl, by rw [List.length_append]; show ws.length + 1 = i + 1; omega, fun z hz => ?_, ?_⟩
    · rcases List.mem_append.mp hz with h | h
      · exact hw z h
      · rw [List.mem_singleton.mp h]; exact tc3
    · rw [List.map_append]
      exact L4
  rintro σ' H' ⟨x, ws, rfl, hl, hw, L12⟩
  have wl : ws.length ≤ 12 := by omega
  obtain ⟨jo, tw⟩ := join_ok hw (by omega)
  refine ⟨Nat.le_refl _, "", D, ws, rfl, rfl, SqL.of (L12.at (by repeat (first | exact List.mem_cons_self | apply List.mem_cons_of_mem))), jo, ?_⟩
  change Tx ws.length (Txt.join "" ws) at tw
  have tw := tw.mono wl
  generalize Txt.join "" ws = wd at tw ⊢
  have wfit := tw.fit (by decide)
  have u0 : Tx 12 (Txt.slice wd none (some at_)) := tw.slice _ _
  have u2 : Tx 12 (Txt.slice wd (some at_) none) := tw.slice _ _
  -- put
  refine ⟨_, rfl, _, rfl, _, rfl, wd, rfl, wfit, _, rfl, _, rfl, d, p, qs, _, rfl, L12.D, by decide, by decide, ?_⟩
  intro r4 H13 r40 r41 D13 o13
  have L13 := L12.mv D13 (off_msk o13)
  obtain ⟨c4, hc4, tc4⟩ := sign_at tx_sg r40 (Int.lt_of_lt_of_le r41 (by decide +kernel))
  refine ⟨_, r4, c4, rfl, rfl, tx_sg.fit (by decide), hc4, _, _, rfl, rfl, f2 u0 tc4 (by decide) (by decide), _, rfl, _, rfl, _, rfl, wd, rfl, wfit, _, _, rfl, rfl, f2 (u0.app tc4) u2 (by decide) (by decide), ?_⟩
  have a9 := (u0.app tc4).app u2
  generalize Txt.slice wd none (some at_) ++ ⟨#[c4]⟩ ++ Txt.slice wd (some at_) none = w9 at a9 ⊢
  refine ⟨_, rfl, _, rfl, _, rfl, _, rfl, _, rfl, (by show 7 ≤ sizeLine; decide), ?_⟩
  intro q14 hq14
  have L14 := L13.new hq14 (.lst [.str wd, .str wd, .str wd, .str w9, .str "odd", .str "fibonaccis", .str "sum"])
  generalize upd H13 q14 (.lst [.str wd, .str wd, .str wd, .str w9, .str "odd", .str "fibonaccis", .str "sum"]) = H14 at L14 ⊢
  refine ⟨s2, q14, _, _, rfl, rfl, L14.at (by repeat (first | exact List.mem_cons_self | apply List.mem_cons_of_mem)), L14.at (by repeat (first | exact List.mem_cons_self | apply List.mem_cons_of_mem)), small (by show 22 ≤ 1000; decide), ?_⟩
  intro s3 hs3
  have L15 := L14.new hs3 (.lst (([.str w1, .str w2, .str w3, .str w4] ++ [.str w5, .str w6, .str w8, .str w7, .str "", .non, .int 0, .bl true, .ref e1, .ref e2, .ref e3]) ++ [.str wd, .str wd, .str wd, .str w9, .str "odd", .str "fibonaccis", .str "sum"]))
  generalize upd H14 s3 (.lst (([.str w1, .str w2, .str w3, .str w4] ++ [.str w5, .str w6, .str w8, .str w7, .str "", .non, .int 0, .bl true, .ref e1, .ref e2, .ref e3]) ++ [.str wd, .str wd, .str wd, .str w9, .str "odd", .str "fibonaccis", .str "sum"])) = H15 at L15 ⊢
  refine ⟨_, rfl, (by show 0 ≤ sizeLine; decide), ?_⟩
  intro e4 he4
  have L16 := L15.new he4 (.lst [])
  generalize upd H15 e4 (.lst []) = H16 at L16 ⊢
  intro e5 he5
  have L17 := L16.new he5 (.dK [])
  generalize upd H16 e5 (.dK []) = H17 at L17 ⊢
  refine ⟨(by show 8 ≤ sizeLine; decide), ?_⟩
  intro q18 hq18
  have L18 := L17.new hq18 (.lst [.str "square", .str "three", .str "prime", .str "power", .str "cubes", .ref e4, .ref e5, .int 3])
  generalize upd H17 q18 (.lst [.str "square", .str "three", .str "prime", .str "power", .str "cubes", .ref e4, .ref e5, .int 3]) = H18 at L18 ⊢
  refine ⟨s3, q18, _, _, rfl, rfl, L18.at (by repeat (first | exact List.mem_cons_self | apply List.mem_cons_of_mem)), L18.at (by repeat (first | exact List.mem_cons_self | apply List.mem_cons_of_mem)), small (by show 30 ≤ 1000; decide), ?_⟩
  intro s4 hs4
  have L19 := L18.new hs4 (.lst ((([.str w1, .str w2, .str w3, .str w4] ++ [.str w5, .str w6, .str w8, .str w7, .str "", .non, .int 0, .bl true, .ref e1, .ref e2, .ref e3]) ++ [.str wd, .str wd, .str wd, .str w9, .str "odd", .str "fibonaccis", .str "sum"]) ++ [.str "square", .str "three", .str "prime", .str "power", .str "cubes", .ref e4, .ref e5, .int 3]))
  generalize upd H18 s4 (.lst ((([.str w1, .str w2, .str w3, .str w4] ++ [.str w5, .str w6, .str w8, .str w7, .str "", .non, .int 0, .bl true, .ref e1, .ref e2, .ref e3]) ++ [.str wd, .str wd, .str wd, .str w9, .str "odd", .str "fibonaccis", .str "sum"]) ++ [.str "square", .str "three", .str "prime", .str "power", .str "cubes", .ref e4, .ref e5, .int 3])) = H19 at L19 ⊢
  refine ⟨_, rfl, d, p, qs, _, rfl, L19.D, by decide, by decide, ?_⟩
  intro r5 H20 r50 r51 D20 o20
  have L20 := L19.mv D20 (off_msk o20)
  obtain ⟨v, hv, hm⟩ := pick_any (xs := [V.str w1, .str w2, .str w3, .str w4, .str w5, .str w6, .str w8, .str w7, .str "", .non, .int 0, .bl true, .ref e1, .ref e2, .ref e3, .str wd, .str wd, .str wd, .str w9, .str "odd", .str "fibonaccis", .str "sum", .str "square", .str "three", .str "prime", .str "power", .str "cubes", .ref e4, .ref e5, .int 3]) r50 r51
  refine ⟨s4, _, r5, v, rfl, rfl, SqL.of (L20.at (by repeat (first | exact List.mem_cons_self | apply List.mem_cons_of_mem))), hv, q v H20 L20.D L20.G ?_⟩
  have one : ∀ {b : Addr} {x : V}, msk (S3 d p qs) H20 b = some (.lst [x]) → Th (msk (S3 d p qs) H20) x 7 0 → Th (msk (S3 d p qs) H20) (.ref b) 100 3 := fun hb hx => (Th.lst (n := 7) (k := 0) hb fun y hy => by rw [List.mem_singleton.mp hy]; exact hx).mono (by show 1 * 8 ≤ 100; decide) (by decide)
  have one' : ∀ {b : Addr} {x : V}, msk (S3 d p qs) H20 b = some (.tup [x]) → Th (msk (S3 d p qs) H20) x 7 0 → Th (msk (S3 d p qs) H20) (.ref b) 100 3 := fun hb hx => (Th.tup (n := 7) (k := 0) hb fun y hy => by rw [List.mem_singleton.mp hy]; exact hx).mono (by show 1 * 8 ≤ 100; decide) (by decide)
  simp only [List.mem_cons, List.not_mem_nil, or_false] at hm
  rcases hm with e | e | e | e | e | e | e | e | e | e | e | e | e | e | e | e | e | e | e | e | e | e | e | e | e | e | e | e | e | e <;> rw [e]
  · exact a1.th (by decide)
  · exact a2.th (by decide)
  · exact a3.th (by decide)
  · exact a4.th (by decide)
  · exact a5.th (by decide)
  · exact a6.th (by decide)
  · exact tu.th (by decide)
  · exact a7.th (by decide)
  · exact Th.str (by decide) (by decide)
  · exact Th.non
  · exact Th.int (by decide)
  · exact Th.bl _
  · exact one (L20.m (by repeat (first | exact List.mem_cons_self | apply List.mem_cons_of_mem))) (tk.th (by decide))
  · exact one' (L20.m (by repeat (first | exact List.mem_cons_self | apply List.mem_cons_of_mem))) (tk.th (by decide))
  · exact Th.dc1 (L20.m (by repeat (first | exact List.mem_cons_self | apply List.mem_cons_of_mem))) (by decide) (List.all_eq_true.mpr fun x hx => decide_eq_true (tk.c x hx)) (by have := tk.n; omega)
  · exact tw.th (by decide)
  · exact tw.th (by decide)
  · exact tw.th (by decide)
  · exact a9.th (by decide)
  · exact Th.str (by decide) (by decide)
  · exact Th.str (by decide) (by decide)
  · exact Th.str (by decide) (by decide)
  · exact Th.str (by decide) (by decide)
  · exact Th.str (by decide) (by decide)
  · exact Th.str (by decide) (by decide)
  · exact Th.str (by decide) (by decide)
  · exact Th.str (by decide) (by decide)
  · exact (Th.lst (xs := []) (n := 0) (k := 0) (L20.m (by repeat (first | exact List.mem_cons_self | apply List.mem_cons_of_mem))) fun x hx => absurd hx List.not_mem_nil).mono (by decide) (by decide)
  · exact Th.dct (L20.m (by repeat (first | exact List.mem_cons_self | apply List.mem_cons_of_mem)))
  · exact Th.int (by decide)
end
/-! THE CLASSES OF EXCEPTIONS: _law_kinds -/
abbrev sKin : Stmt := top 47
theorem boot_ValueError : bootBuiltins "ValueError" = some (.type "ValueError") := by decide +kernel
structure ExT (mg : Str → Option Value) (x0 x1 x2 x3 x4 x5 x6 x7 x8 x9 x10 x11 XS : Addr) : Prop where
  m0 : mg "NoPlan" = some (.ref x0)
  m1 : mg "NoNumber" = some (.ref x1)
  m2 : mg "NoKind" = some (.ref x2)
  m3 : mg "NoPlace" = some (.ref x3)
  m4 : mg "NoRow" = some (.ref x4)
  m5 : mg "NoCut" = some (.ref x5)
  m6 : mg "NoPart" = some (.ref x6)
  m7 : mg "NoSum" = some (.ref x7)
  m8 : mg "TooMany" = some (.ref x8)
  m9 : mg "NoText" = some (.ref x9)
  m10 : mg "NoName" = some (.ref x10)
  m11 : mg "NoSaying" = some (.ref x11)
  mS : mg "SumError" = some (.ref XS)
  mV : mg "ValueError" = none
/-- the class D, the n-th of xs -/
structure ExD (K : PySem.W.Frag) (xs : List Addr) (XS D : Addr) (n : Int) : Prop where
  k : xs.map (fun x => PySem.W.kitOne K (.ref D) (.ref x)) = (List.range 12).map fun i : Nat => some (decide ((i : Int) = n))
  v : PySem.W.kitOne K (.ref D) (.type "ValueError") = some true
  c : ExcCls K D
  e : PySem.W.exmOne K (.ref D) (.ref XS) = some true
  i : PySem.W.excIn K D bmV "ValueError.__new__" = true
  lt : n < 12
theorem rcv_bls {K : PySem.W.Frag} {H : Hp} {a b : Addr} {bs : List Bool} (h1 : H a = some (.lst (bs.map V.bl))) (h2 : H b = some (.lst (bs.map V.bl))) : RcV K H (.ref a) (.ref b) true := by
  have q : RcV K H (.ref a) (.ref b) ((List.range (bs.map V.bl).length).all fun _ => true) := by
    refine RcV.lst (SqL.of h1) (SqL.of h2) rfl fun j x y hx hy => ?_
    rw [hx] at hy
    cases hy
    rw [List.getElem?_map] at hx
    cases e : bs[j]? with
    | none => rw [e] at hx; cases hx
    | some z =>
      rw [e] at hx
      cases hx
      have q := EqV.bl (K := K) (H := H) (n := 4) z z
      rw [beq_self_eq_true] at q
      exact q
  rw [List.all_eq_true.mpr fun _ _ => rfl] at q
  exact q
def spKin (K : PySem.W.Frag) (xs : List Addr) (XS : Addr) : Sp := fun vs H Q _ => ∃ (ea D : Addr) (n : Int), vs = [.ref ea, .int n] ∧ H ea = some (.ext (ExcAt ea (.ref D))) ∧ ExD K xs XS D n ∧ ∀ H', Same H H' → Q (.bl true) H'
section
variable {P : Program} {w : World} {K : PySem.W.Frag} {mg : Str → Option Value} {base : Heap} {f x0 x1 x2 x3 x4 x5 x6 x7 x8 x9 x10 x11 XS : Addr} {fd : FuncData}
theorem scKin : FnScope ["caught", "due", "kinds"] ["caught", "due"] (defScope sKin) := ⟨rfl, rfl, rfl, by decide +kernel, rfl, by decide +kernel, by decide +kernel⟩
theorem ok_kin (F : Fun K "_law_kinds" "_law_kinds" sKin f fd) (B : Bt2 mg) (T : ExT mg x0 x1 x2 x3 x4 x5 x6 x7 x8 x9 x10 x11 XS) : FnOk P w K mg base CX0 1 f fd ["caught", "due"] (spKin K [x0, x1, x2, x3, x4, x5, x6, x7, x8, x9, x10, x11] XS) := by
  refine F.ok scKin (fun vs H Q E h => ?_) (fun cdv A outer s H vs Q E hr h => ?_)
  · obtain ⟨ea, D, n, rfl, _⟩ := h
    rfl
  obtain ⟨ea, D, n, rfl, he, ex, q⟩ := h
  refine ⟨_, (@pss_cons _ _ _ _ _ (ps_set (i := 2) scKin.nd rfl (Or.inl rfl) (pe_lst (pa_cons (pe_callB call_isiE rfl B.isinstance boot_isinstance (pa_cons (pv 0) (pa_cons (pe_glob (v := .ref x0) rfl T.m0 rfl) pa_nil))) (pa_cons (pe_callB call_isiE rfl B.isinstance boot_isinstance (pa_cons (pv 0) (pa_cons (pe_glob (v := .ref x1) rfl T.m1 rfl) pa_nil))) (pa_cons (pe_callB call_isiE rfl B.isinstance boot_isinstance (pa_cons (pv 0) (pa_cons (pe_glob (v := .ref x2) rfl T.m2 rfl) pa_nil))) pa_nil))))) (@pss_cons _ _ _ _ _ (ps_set (i := 2) scKin.nd rfl (Or.inl rfl) (pe_op op_cat (pv 2) (pe_lst (pa_cons (pe_callB call_isiE rfl B.isinstance boot_isinstance (pa_cons (pv 0) (pa_cons (pe_glob (v := .ref x3) rfl T.m3 rfl) pa_nil))) (pa_cons (pe_callB call_isiE rfl B.isinstance boot_isinstance (pa_cons (pv 0) (pa_cons (pe_glob (v := .ref x4) rfl T.m4 rfl) pa_nil))) (pa_cons (pe_callB call_isiE rfl B.isinstance boot_isinstance (pa_cons (pv 0) (pa_cons (pe_glob (v := .ref x5) rfl T.m5 rfl) pa_nil))) pa_nil)))))) (@pss_cons _ _ _ _ _ (ps_set (i := 2) scKin.nd rfl (Or.inl rfl) (pe_op op_cat (pv 2) (pe_lst (pa_cons (pe_callB call_isiE rfl B.isinstance boot_isinstance (pa_cons (pv 0) (pa_cons (pe_glob (v := .ref x6) rfl T.m6 rfl) pa_nil))) (pa_cons (pe_callB call_isiE rfl B.isinstance boot_isinstance (pa_cons (pv 0) (pa_cons (pe_glob (v := .ref x7) rfl T.m7 rfl) pa_nil))) (pa_cons (pe_callB call_isiE rfl B.isinstance boot_isinstance (pa_cons (pv 0) (pa_cons (pe_glob (v := .ref x8) rfl T.m8 rfl) pa_nil))) pa_nil)))))) (@pss_cons _ _ _ _ _ (ps_set (i := 2) scKin.nd rfl (Or.inl rfl) (pe_op op_cat (pv 2) (pe_lst (pa_cons (pe_callB call_isiE rfl B.isinstance boot_isinstance (pa_cons (pv 0) (pa_cons (pe_glob (v := .ref x9) rfl T.m9 rfl) pa_nil))) (pa_cons (pe_callB call_isiE rfl B.isinstance boot_isinstance (pa_cons (pv 0) (pa_cons (pe_glob (v := .ref x10) rfl T.m10 rfl) pa_nil))) (pa_cons (pe_callB call_isiE rfl B.isinstance boot_isinstance (pa_cons (pv 0) (pa_cons (pe_glob (v := .ref x11) rfl T.m11 rfl) pa_nil))) pa_nil)))))) (@pss_cons _ _ _ _ _ (ps_expr (pe_bm PySem.F.plainAttrs_list PySem.F.slot_list_append PySem.F.type_list_append mt_append (pv 2) (pa_cons (pe_not (pe_callB call_isiE rfl B.isinstance boot_isinstance (pa_cons (pv 0) (pa_cons (pe_bltn (v := .ty "ValueError") rfl T.mV boot_ValueError rfl) pa_nil)))) pa_nil))) (@pss_one _ _ _ (ps_ret (pe_and (pe_cmpR op_notN (pv 0) pe_non (nomark _)) (pe_one (pe_cmpR (op_eqD hr.units) (pv 2) (pe_comp ["k"] rfl (blk_ok (defScope sKin) ["caught", "due", "kinds"] rfl rfl (by decide +kernel)) (pi_range1 rfl B.range (pa_cons pe_int pa_nil)) (fun pins C fp s3 H3 => ⟨(pg_name (i := 0) (show (blkN ["k"] ["caught", "due", "kinds"]).Nodup by decide +kernel) rfl (Or.inl rfl)), pif_nil, (pe_cmpR op_eq (pv 0) (pv 2) (nomark _))⟩)) (nomark _))))))))))), ?_⟩
  have kk : ∀ (i : Nat) (x : Addr), [x0, x1, x2, x3, x4, x5, x6, x7, x8, x9, x10, x11][i]? = some x → PySem.W.kitOne K (.ref D) (.ref x) = some (decide ((i : Int) = n)) := fun i x hx => by
    have hk := congrArg (fun l : List (Option Bool) => l[i]?) ex.k
    simp only [List.getElem?_map, hx, Option.map_some] at hk
    have hi : i < 12 := (List.getElem?_eq_some_iff.mp hx).1
    rw [List.getElem?_range hi] at hk
    exact Option.some.inj hk
  refine ⟨_, rfl, ea, D, _, _, _, rfl, he, ex.c, fun _ z => z, kk 0 _ rfl, _, rfl, ea, D, _, _, _, rfl, he, ex.c, fun _ z => z, kk 1 _ rfl, _, rfl, ea, D, _, _, _, rfl, he, ex.c, fun _ z => z, kk 2 _ rfl, (by show 3 ≤ sizeLine; decide), ?_⟩
  intro q0 h0
  have g0 : Same H (upd H q0 (.lst [V.bl (decide (((0 : Nat) : Int) = n)), V.bl (decide (((1 : Nat) : Int) = n)), V.bl (decide (((2 : Nat) : Int) = n))])) := Same.new h0 _
  have e0 : upd H q0 (.lst [V.bl (decide (((0 : Nat) : Int) = n)), V.bl (decide (((1 : Nat) : Int) = n)), V.bl (decide (((2 : Nat) : Int) = n))]) q0 = some (.lst [V.bl (decide (((0 : Nat) : Int) = n)), V.bl (decide (((1 : Nat) : Int) = n)), V.bl (decide (((2 : Nat) : Int) = n))]) := upd_same
  generalize upd H q0 (.lst [V.bl (decide (((0 : Nat) : Int) = n)), V.bl (decide (((1 : Nat) : Int) = n)), V.bl (decide (((2 : Nat) : Int) = n))]) = H0 at g0 e0 ⊢
  refine ⟨_, rfl, _, rfl, ea, D, _, _, _, rfl, (g0 _ _ he), ex.c, fun _ z => z, kk 3 _ rfl, _, rfl, ea, D, _, _, _, rfl, (g0 _ _ he), ex.c, fun _ z => z, kk 4 _ rfl, _, rfl, ea, D, _, _, _, rfl, (g0 _ _ he), ex.c, fun _ z => z, kk 5 _ rfl, (by show 3 ≤ sizeLine; decide), ?_⟩
  intro q1 h1
  have k1 : Same H0 (upd H0 q1 (.lst [V.bl (decide (((3 : Nat) : Int) = n)), V.bl (decide (((4 : Nat) : Int) = n)), V.bl (decide (((5 : Nat) : Int) = n))])) := Same.new h1 _
  have e1 : upd H0 q1 (.lst [V.bl (decide (((3 : Nat) : Int) = n)), V.bl (decide (((4 : Nat) : Int) = n)), V.bl (decide (((5 : Nat) : Int) = n))]) q1 = some (.lst [V.bl (decide (((3 : Nat) : Int) = n)), V.bl (decide (((4 : Nat) : Int) = n)), V.bl (decide (((5 : Nat) : Int) = n))]) := upd_same
  have g1 := g0.trans k1
  have f1 := k1 _ _ e0
  generalize upd H0 q1 (.lst [V.bl (decide (((3 : Nat) : Int) = n)), V.bl (decide (((4 : Nat) : Int) = n)), V.bl (decide (((5 : Nat) : Int) = n))]) = H1 at k1 g1 e1 f1 ⊢
  refine ⟨_, _, _, _, rfl, rfl, f1, e1, (by show 6 ≤ sizeLine; decide), ?_⟩
  intro q2 h2
  have k2 : Same H1 (upd H1 q2 (.lst ([V.bl (decide (((0 : Nat) : Int) = n)), V.bl (decide (((1 : Nat) : Int) = n)), V.bl (decide (((2 : Nat) : Int) = n))] ++ [V.bl (decide (((3 : Nat) : Int) = n)), V.bl (decide (((4 : Nat) : Int) = n)), V.bl (decide (((5 : Nat) : Int) = n))]))) := Same.new h2 _
  have e2 : upd H1 q2 (.lst ([V.bl (decide (((0 : Nat) : Int) = n)), V.bl (decide (((1 : Nat) : Int) = n)), V.bl (decide (((2 : Nat) : Int) = n))] ++ [V.bl (decide (((3 : Nat) : Int) = n)), V.bl (decide (((4 : Nat) : Int) = n)), V.bl (decide (((5 : Nat) : Int) = n))])) q2 = some (.lst ([V.bl (decide (((0 : Nat) : Int) = n)), V.bl (decide (((1 : Nat) : Int) = n)), V.bl (decide (((2 : Nat) : Int) = n))] ++ [V.bl (decide (((3 : Nat) : Int) = n)), V.bl (decide (((4 : Nat) : Int) = n)), V.bl (decide (((5 : Nat) : Int) = n))])) := upd_same
  have g2 := g1.trans k2
  have c2 : H q2 = none := g1.free h2
  generalize upd H1 q2 (.lst ([V.bl (decide (((0 : Nat) : Int) = n)), V.bl (decide (((1 : Nat) : Int) = n)), V.bl (decide (((2 : Nat) : Int) = n))] ++ [V.bl (decide (((3 : Nat) : Int) = n)), V.bl (decide (((4 : Nat) : Int) = n)), V.bl (decide (((5 : Nat) : Int) = n))])) = H2 at k2 g2 e2 ⊢
  refine ⟨_, rfl, _, rfl, ea, D, _, _, _, rfl, (g2 _ _ he), ex.c, fun _ z => z, kk 6 _ rfl, _, rfl, ea, D, _, _, _, rfl, (g2 _ _ he), ex.c, fun _ z => z, kk 7 _ rfl, _, rfl, ea, D, _, _, _, rfl, (g2 _ _ he), ex.c, fun _ z => z, kk 8 _ rfl, (by show 3 ≤ sizeLine; decide), ?_⟩
  intro q3 h3
  have k3 : Same H2 (upd H2 q3 (.lst [V.bl (decide (((6 : Nat) : Int) = n)), V.bl (decide (((7 : Nat) : Int) = n)), V.bl (decide (((8 : Nat) : Int) = n))])) := Same.new h3 _
  have e3 : upd H2 q3 (.lst [V.bl (decide (((6 : Nat) : Int) = n)), V.bl (decide (((7 : Nat) : Int) = n)), V.bl (decide (((8 : Nat) : Int) = n))]) q3 = some (.lst [V.bl (decide (((6 : Nat) : Int) = n)), V.bl (decide (((7 : Nat) : Int) = n)), V.bl (decide (((8 : Nat) : Int) = n))]) := upd_same
  have g3 := g2.trans k3
  have f3 := k3 _ _ e2
  generalize upd H2 q3 (.lst [V.bl (decide (((6 : Nat) : Int) = n)), V.bl (decide (((7 : Nat) : Int) = n)), V.bl (decide (((8 : Nat) : Int) = n))]) = H3 at k3 g3 e3 f3 ⊢
  refine ⟨_, _, _, _, rfl, rfl, f3, e3, (by show 9 ≤ sizeLine; decide), ?_⟩
  intro q4 h4
  have k4 : Same H3 (upd H3 q4 (.lst (([V.bl (decide (((0 : Nat) : Int) = n)), V.bl (decide (((1 : Nat) : Int) = n)), V.bl (decide (((2 : Nat) : Int) = n))] ++ [V.bl (decide (((3 : Nat) : Int) = n)), V.bl (decide (((4 : Nat) : Int) = n)), V.bl (decide (((5 : Nat) : Int) = n))]) ++ [V.bl (decide (((6 : Nat) : Int) = n)), V.bl (decide (((7 : Nat) : Int) = n)), V.bl (decide (((8 : Nat) : Int) = n))]))) := Same.new h4 _
  have e4 : upd H3 q4 (.lst (([V.bl (decide (((0 : Nat) : Int) = n)), V.bl (decide (((1 : Nat) : Int) = n)), V.bl (decide (((2 : Nat) : Int) = n))] ++ [V.bl (decide (((3 : Nat) : Int) = n)), V.bl (decide (((4 : Nat) : Int) = n)), V.bl (decide (((5 : Nat) : Int) = n))]) ++ [V.bl (decide (((6 : Nat) : Int) = n)), V.bl (decide (((7 : Nat) : Int) = n)), V.bl (decide (((8 : Nat) : Int) = n))])) q4 = some (.lst (([V.bl (decide (((0 : Nat) : Int) = n)), V.bl (decide (((1 : Nat) : Int) = n)), V.bl (decide (((2 : Nat) : Int) = n))] ++ [V.bl (decide (((3 : Nat) : Int) = n)), V.bl (decide (((4 : Nat) : Int) = n)), V.bl (decide (((5 : Nat) : Int) = n))]) ++ [V.bl (decide (((6 : Nat) : Int) = n)), V.bl (decide (((7 : Nat) : Int) = n)), V.bl (decide (((8 : Nat) : Int) = n))])) := upd_same
  have g4 := g3.trans k4
  have c4 : H q4 = none := g3.free h4
  generalize upd H3 q4 (.lst (([V.bl (decide (((0 : Nat) : Int) = n)), V.bl (decide (((1 : Nat) : Int) = n)), V.bl (decide (((2 : Nat) : Int) = n))] ++ [V.bl (decide (((3 : Nat) : Int) = n)), V.bl (decide (((4 : Nat) : Int) = n)), V.bl (decide (((5 : Nat) : Int) = n))]) ++ [V.bl (decide (((6 : Nat) : Int) = n)), V.bl (decide (((7 : Nat) : Int) = n)), V.bl (decide (((8 : Nat) : Int) = n))])) = H4 at k4 g4 e4 ⊢
  refine ⟨_, rfl, _, rfl, ea, D, _, _, _, rfl, (g4 _ _ he), ex.c, fun _ z => z, kk 9 _ rfl, _, rfl, ea, D, _, _, _, rfl, (g4 _ _ he), ex.c, fun _ z => z, kk 10 _ rfl, _, rfl, ea, D, _, _, _, rfl, (g4 _ _ he), ex.c, fun _ z => z, kk 11 _ rfl, (by show 3 ≤ sizeLine; decide), ?_⟩
  intro q5 h5
  have k5 : Same H4 (upd H4 q5 (.lst [V.bl (decide (((9 : Nat) : Int) = n)), V.bl (decide (((10 : Nat) : Int) = n)), V.bl (decide (((11 : Nat) : Int) = n))])) := Same.new h5 _
  have e5 : upd H4 q5 (.lst [V.bl (decide (((9 : Nat) : Int) = n)), V.bl (decide (((10 : Nat) : Int) = n)), V.bl (decide (((11 : Nat) : Int) = n))]) q5 = some (.lst [V.bl (decide (((9 : Nat) : Int) = n)), V.bl (decide (((10 : Nat) : Int) = n)), V.bl (decide (((11 : Nat) : Int) = n))]) := upd_same
  have g5 := g4.trans k5
  have f5 := k5 _ _ e4
  generalize upd H4 q5 (.lst [V.bl (decide (((9 : Nat) : Int) = n)), V.bl (decide (((10 : Nat) : Int) = n)), V.bl (decide (((11 : Nat) : Int) = n))]) = H5 at k5 g5 e5 f5 ⊢
  refine ⟨_, _, _, _, rfl, rfl, f5, e5, (by show 12 ≤ sizeLine; decide), ?_⟩
  intro q6 h6
  have k6 : Same H5 (upd H5 q6 (.lst (([V.bl (decide (((0 : Nat) : Int) = n)), V.bl (decide (((1 : Nat) : Int) = n)), V.bl (decide (((2 : Nat) : Int) = n))] ++ [V.bl (decide (((3 : Nat) : Int) = n)), V.bl (decide (((4 : Nat) : Int) = n)), V.bl (decide (((5 : Nat) : Int) = n))] ++ [V.bl (decide (((6 : Nat) : Int) = n)), V.bl (decide (((7 : Nat) : Int) = n)), V.bl (decide (((8 : Nat) : Int) = n))]) ++ [V.bl (decide (((9 : Nat) : Int) = n)), V.bl (decide (((10 : Nat) : Int) = n)), V.bl (decide (((11 : Nat) : Int) = n))]))) := Same.new h6 _
  have e6 : upd H5 q6 (.lst (([V.bl (decide (((0 : Nat) : Int) = n)), V.bl (decide (((1 : Nat) : Int) = n)), V.bl (decide (((2 : Nat) : Int) = n))] ++ [V.bl (decide (((3 : Nat) : Int) = n)), V.bl (decide (((4 : Nat) : Int) = n)), V.bl (decide (((5 : Nat) : Int) = n))] ++ [V.bl (decide (((6 : Nat) : Int) = n)), V.bl (decide (((7 : Nat) : Int) = n)), V.bl (decide (((8 : Nat) : Int) = n))]) ++ [V.bl (decide (((9 : Nat) : Int) = n)), V.bl (decide (((10 : Nat) : Int) = n)), V.bl (decide (((11 : Nat) : Int) = n))])) q6 = some (.lst (([V.bl (decide (((0 : Nat) : Int) = n)), V.bl (decide (((1 : Nat) : Int) = n)), V.bl (decide (((2 : Nat) : Int) = n))] ++ [V.bl (decide (((3 : Nat) : Int) = n)), V.bl (decide (((4 : Nat) : Int) = n)), V.bl (decide (((5 : Nat) : Int) = n))] ++ [V.bl (decide (((6 : Nat) : Int) = n)), V.bl (decide (((7 : Nat) : Int) = n)), V.bl (decide (((8 : Nat) : Int) = n))]) ++ [V.bl (decide (((9 : Nat) : Int) = n)), V.bl (decide (((10 : Nat) : Int) = n)), V.bl (decide (((11 : Nat) : Int) = n))])) := upd_same
  have g6 := g5.trans k6
  have c6 : H q6 = none := g5.free h6
  generalize upd H5 q6 (.lst (([V.bl (decide (((0 : Nat) : Int) = n)), V.bl (decide (((1 : Nat) : Int) = n)), V.bl (decide (((2 : Nat) : Int) = n))] ++ [V.bl (decide (((3 : Nat) : Int) = n)), V.bl (decide (((4 : Nat) : Int) = n)), V.bl (decide (((5 : Nat) : Int) = n))] ++ [V.bl (decide (((6 : Nat) : Int) = n)), V.bl (decide (((7 : Nat) : Int) = n)), V.bl (decide (((8 : Nat) : Int) = n))]) ++ [V.bl (decide (((9 : Nat) : Int) = n)), V.bl (decide (((10 : Nat) : Int) = n)), V.bl (decide (((11 : Nat) : Int) = n))])) = H6 at k6 g6 e6 ⊢
  refine ⟨_, rfl, .inl ⟨rfl, _, SqL.of e6⟩, _, rfl, ea, D, _, _, _, rfl, g6 _ _ he, ex.c, fun _ z => z, ex.v, _, rfl, q6, _, _, rfl, rfl, e6, (by show 12 < sizeLine; decide), ?_⟩
  have el : ∀ X : List V, X = ([V.bl (decide (((0 : Nat) : Int) = n)), V.bl (decide (((1 : Nat) : Int) = n)), V.bl (decide (((2 : Nat) : Int) = n)), V.bl (decide (((3 : Nat) : Int) = n)), V.bl (decide (((4 : Nat) : Int) = n)), V.bl (decide (((5 : Nat) : Int) = n)), V.bl (decide (((6 : Nat) : Int) = n)), V.bl (decide (((7 : Nat) : Int) = n)), V.bl (decide (((8 : Nat) : Int) = n)), V.bl (decide (((9 : Nat) : Int) = n)), V.bl (decide (((10 : Nat) : Int) = n)), V.bl (decide (((11 : Nat) : Int) = n))] : List V) → X ++ [V.bl (!true)] = ((List.range 13).map fun i : Nat => decide ((i : Int) = n)).map V.bl := fun X hX => by
    rw [hX]
    have e12 : decide (((12 : Nat) : Int) = n) = false := decide_eq_false (by have := ex.lt; omega)
    show _ = [V.bl (decide (((0 : Nat) : Int) = n)), V.bl (decide (((1 : Nat) : Int) = n)), V.bl (decide (((2 : Nat) : Int) = n)), V.bl (decide (((3 : Nat) : Int) = n)), V.bl (decide (((4 : Nat) : Int) = n)), V.bl (decide (((5 : Nat) : Int) = n)), V.bl (decide (((6 : Nat) : Int) = n)), V.bl (decide (((7 : Nat) : Int) = n)), V.bl (decide (((8 : Nat) : Int) = n)), V.bl (decide (((9 : Nat) : Int) = n)), V.bl (decide (((10 : Nat) : Int) = n)), V.bl (decide (((11 : Nat) : Int) = n)), V.bl (decide (((12 : Nat) : Int) = n))]
    rw [e12]
    rfl
  have gA : ∀ o, Same H (upd H6 q6 o) := fun o b u hb => by rw [upd_ne (ne_of_none hb c6)]; exact g6 _ _ hb
  rw [el ([V.bl (decide (((0 : Nat) : Int) = n)), V.bl (decide (((1 : Nat) : Int) = n)), V.bl (decide (((2 : Nat) : Int) = n))] ++ [V.bl (decide (((3 : Nat) : Int) = n)), V.bl (decide (((4 : Nat) : Int) = n)), V.bl (decide (((5 : Nat) : Int) = n))] ++ [V.bl (decide (((6 : Nat) : Int) = n)), V.bl (decide (((7 : Nat) : Int) = n)), V.bl (decide (((8 : Nat) : Int) = n))] ++ [V.bl (decide (((9 : Nat) : Int) = n)), V.bl (decide (((10 : Nat) : Int) = n)), V.bl (decide (((11 : Nat) : Int) = n))]) rfl]
  have eA : upd H6 q6 (.lst (((List.range 13).map fun i : Nat => decide ((i : Int) = n)).map V.bl)) q6 = some (.lst (((List.range 13).map fun i : Nat => decide ((i : Int) = n)).map V.bl)) := upd_same
  have gB := gA (.lst (((List.range 13).map fun i : Nat => decide ((i : Int) = n)).map V.bl))
  generalize upd H6 q6 (.lst (((List.range 13).map fun i : Nat => decide ((i : Int) = n)).map V.bl)) = H7 at eA gB ⊢
  refine ⟨_, rfl, rfl, _, rfl, iteT ?_⟩
  refine ⟨_, rfl, 13, rfl, by decide, by decide, fun D' hD => ?_⟩
  refine turns_range (σ := [some (.ref ea), some (.int n), some (.ref q6)]) (lo := 0) (n := (13 : Int).toNat) (fun _ => true) (fun i => .bl (decide ((i : Int) = n))) hD (by decide) (fun i H' hi g P hP => hP _ Same.rfl') (fun i H' hi _ g P hP => ?_) fun H8 g8 e8 => ?_
  · refine ⟨_, rfl, _, rfl, rfl, ?_⟩
    have e : decide (V.int (0 + (i : Int)) = V.int n) = decide ((i : Int) = n) := by
      rw [Int.zero_add]
      exact decide_eq_decide.mpr ⟨fun h => V.int.inj h, fun h => by rw [h]⟩
    rw [e]
    exact hP _ Same.rfl'
  · refine ⟨true, rcv_bls (bs := (List.range 13).map fun i : Nat => decide ((i : Int) = n)) (g8 _ _ eA) ?_, q _ (gB.trans g8)⟩
    rw [e8, List.filter_eq_self.mpr fun _ _ => rfl, List.map_map]
    rfl
end
/-! row_lengths, ring_lengths of ANY data: NoKind in the first turn -/
abbrev sRL : Stmt := top 42
abbrev sGL : Stmt := top 43
def kOk (fL : Int → List Int) (m : Nat) : Bool := decide ((upto ((m : Int) + 1)).Pairwise (· < ·)) && ((upto ((m : Int) + 1)).all fun x => decide (0 ≤ x)) && decide ((plSums fL ((m : Int) + 1)).Pairwise (· < ·)) && ((plSums fL ((m : Int) + 1)).all fun x => decide (0 ≤ x)) &&
  decide (1 ≤ (upto ((m : Int) + 1)).length) && decide ((upto ((m : Int) + 1)).length ≤ 10) && decide ((plSums fL ((m : Int) + 1)).length ≤ 10)
theorem kind_ok {word : Str} {fL : Int → List Int} (k : Kind word fL) {n : Int} (h1 : 1 ≤ n) (h2 : n ≤ 10) : PlanOk (upto n) (plSums fL n) := by
  have key : ∀ m : _root_.Fin 10, kOk fL m.val = true := by
    cases k
    · decide +kernel
    · decide +kernel
    · decide +kernel
    · decide +kernel
  have z := key ⟨(n - 1).toNat, by omega⟩
  have e : (((n - 1).toNat : Nat) : Int) + 1 = n := by omega
  unfold kOk at z
  simp only [e, Bool.and_eq_true, decide_eq_true_eq] at z
  obtain ⟨⟨⟨⟨⟨⟨z1, z2⟩, z3⟩, z4⟩, z5⟩, z6⟩, z7⟩ := z
  exact ⟨⟨z1, fun x hx => of_decide_eq_true (List.all_eq_true.mp z2 x hx)⟩, ⟨z3, fun x hx => of_decide_eq_true (List.all_eq_true.mp z4 x hx)⟩, z5, z6, z7⟩
def spLenX (kvs : List (Str × Tok × Value)) (XK : Addr) : Sp := fun vs H Q E => ∃ v d, vs = [v] ∧ Dat H v d ∧ (kindIn kvs d = true → ∀ (l : Addr) (H' : Hp), Same H H' → Q (.ref l) H') ∧ (kindIn kvs d = false → ∀ H', Same H H' → E (.ref XK) none H')
section
variable {P : Program} {w : World} {K : PySem.W.Frag} {mg : Str → Option Value} {base : Heap} {f fr pf XK XN : Addr} {fd frd pfd : FuncData} {t10 : Tok} {kvs : List (Str × Tok × Value)}
theorem scRL : FnScope ["kind"] ["kind"] (defScope sRL) := ⟨rfl, rfl, rfl, by decide +kernel, rfl, by decide +kernel, by decide +kernel⟩
theorem ok_RLX (F : Fun K "row_lengths" "row_lengths" sRL f fd) (B : Bt3 mg) (m10 : mg "MOST" = some (.int 10 t10)) (KW : ∀ z : Str, (valueAt (kpairs kvs) (Sum.inr z)).isSome = true → ∃ fL, Kind z fL)
    (GR : FnOk P w K mg base CX0 24 fr frd ["plan"] (spFRow false)) (bR : Binds K frd ["plan"] []) (kR : PySem.W.keepIn K (.ref fr) = true) (mR : mg "first_row" = some (.ref fr))
    (GP : FnOk P w K mg base (CX1 P w) 24 pf pfd ["kind", "n"] (spPlX kvs XK XN)) (bP : Binds K pfd ["kind", "n"] []) (kP : PySem.W.keepIn K (.ref pf) = true) (mP : mg "plan_of" = some (.ref pf)) : FnOk P w K mg base (CX1 P w) 25 f fd ["kind"] (spLenX kvs XK) := by
  refine F.ok1 scRL (fun vs H Q E h => ?_) (fun cdv A outer s H vs Q E hr h => ?_)
  · obtain ⟨v, d, rfl, _⟩ := h
    rfl
  obtain ⟨v, d, rfl, hd, q, qK⟩ := h
  refine ⟨_, (@pss_one _ _ _ (ps_ret (pe_compX ["n"] cxDef1 rfl (blk_ok (defScope sRL) ["kind"] rfl rfl (by decide +kernel)) (pi_range2 rfl B.range (pa_cons pe_int (pa_cons (pe_op op_add (pe_glob (v := .int 10) rfl m10 ⟨_, rfl⟩) pe_int) pa_nil))) (fun pins C fp s3 H3 => ⟨(pg_name (i := 0) (show (blkN ["n"] ["kind"]).Nodup by decide +kernel) rfl (Or.inl rfl)), (pif_one (pt_cmpR op_notN (pe_call GR hr rfl mR kR bR .nil pass0 (pa_cons (pe_call GP hr rfl mP kP bP .nil passB (pa_cons (pv 1) (pa_cons (pv 0) pa_nil))) pa_nil)) pe_non (nomark _))), (pv 0)⟩)))), ?_⟩
  refine ⟨_, _, rfl, rfl, 1, _, rfl, ⟨by decide, by decide, by decide, by decide⟩, fun D hD => ?_⟩
  by_cases ck : kindIn kvs d = true
  · have dec : ∃ word, v = .str word ∧ d = .str word ∧ (valueAt (kpairs kvs) (Sum.inr word)).isSome = true := by
      cases hd with
      | str z => exact ⟨z, rfl, rfl, ck⟩
      | _ => cases ck
    obtain ⟨word, rfl, rfl, e3⟩ := dec
    obtain ⟨fL, hk'⟩ := KW word e3
    refine turns_range (lo := 1) (n := 10) (σ := [some (.str word)]) (fun i => hasW (upto (1 + (i : Int))) (plSums fL (1 + (i : Int))) false) (fun i => .int (1 + (i : Int))) hD (by decide) (fun i H' hi g P hP => ?_) (fun i H' hi _ g P hP => ?_) fun H2 g2 e2 => ?_
    · refine ⟨_, rfl, _, rfl, _, _, .int (1 + (i : Int)), .int (1 + (i : Int)), rfl, hd.same g, .int _, fun _ _ word' fL' n e1 hk e2 n1 n2 t a b H3 g3 et ea eb => ?_, fun c => absurd (ck.symm.trans c) Bool.noConfusion, fun _ c2 => ?_⟩
      · cases e1
        cases e2
        have ef : fL' = fL := by cases hk <;> cases hk' <;> rfl
        subst ef
        refine ⟨t, a, b, upto (1 + (i : Int)), plSums fL' (1 + (i : Int)), rfl, ⟨et, ea, eb, kind_ok hk (by omega) (by omega)⟩, fun hw H4 g4 => ?_, fun hw l H4 g4 hl el => ?_⟩
        · rw [hw] at hP
          exact ⟨rfl, _, rfl, hP _ (g3.trans g4)⟩
        · rw [hw] at hP
          exact ⟨rfl, _, rfl, hP _ (g3.trans g4)⟩
      · exfalso
        rw [lenIn, decide_eq_true (show 1 ≤ 1 + (i : Int) by omega), decide_eq_true (show 1 + (i : Int) ≤ 10 by omega)] at c2
        cases c2
    · exact ⟨_, rfl, hP _ Same.rfl'⟩
    · exact q ck D H2 g2
  · have ck' : kindIn kvs d = false := by cases e : kindIn kvs d with | true => exact absurd e ck | false => rfl
    refine turns_any (n := 10) (fun i σ' H' => i = 0 ∧ ∃ x, σ' = x :: [some v] ∧ Same H H') ⟨rfl, none, rfl, Same.new hD _⟩ ?_ ?_
    · rintro i σ' H' hi ⟨rfl, x, rfl, g⟩
      refine ⟨by show 0 < 10; decide, fun z H2 hz => ?_⟩
      obtain ⟨rfl, rfl⟩ := hz
      refine ⟨_, rfl, _, rfl, v, d, _, _, rfl, hd.same g, .int _, fun c => absurd c ck, fun _ => qK ck' _ g, fun c => absurd c ck⟩
    · rintro σ' H' ⟨h, _⟩
      cases h
theorem scGL : FnScope ["kind"] ["kind"] (defScope sGL) := ⟨rfl, rfl, rfl, by decide +kernel, rfl, by decide +kernel, by decide +kernel⟩
theorem ok_GLX (F : Fun K "ring_lengths" "ring_lengths" sGL f fd) (B : Bt3 mg) (m10 : mg "MOST" = some (.int 10 t10)) (KW : ∀ z : Str, (valueAt (kpairs kvs) (Sum.inr z)).isSome = true → ∃ fL, Kind z fL)
    (GR : FnOk P w K mg base CX0 24 fr frd ["plan"] (spFRow true)) (bR : Binds K frd ["plan"] []) (kR : PySem.W.keepIn K (.ref fr) = true) (mR : mg "first_ring" = some (.ref fr))
    (GP : FnOk P w K mg base (CX1 P w) 24 pf pfd ["kind", "n"] (spPlX kvs XK XN)) (bP : Binds K pfd ["kind", "n"] []) (kP : PySem.W.keepIn K (.ref pf) = true) (mP : mg "plan_of" = some (.ref pf)) : FnOk P w K mg base (CX1 P w) 25 f fd ["kind"] (spLenX kvs XK) := by
  refine F.ok1 scGL (fun vs H Q E h => ?_) (fun cdv A outer s H vs Q E hr h => ?_)
  · obtain ⟨v, d, rfl, _⟩ := h
    rfl
  obtain ⟨v, d, rfl, hd, q, qK⟩ := h
  refine ⟨_, (@pss_one _ _ _ (ps_ret (pe_compX ["n"] cxDef1 rfl (blk_ok (defScope sGL) ["kind"] rfl rfl (by decide +kernel)) (pi_range2 rfl B.range (pa_cons pe_int (pa_cons (pe_op op_add (pe_glob (v := .int 10) rfl m10 ⟨_, rfl⟩) pe_int) pa_nil))) (fun pins C fp s3 H3 => ⟨(pg_name (i := 0) (show (blkN ["n"] ["kind"]).Nodup by decide +kernel) rfl (Or.inl rfl)), (pif_one (pt_cmpR op_notN (pe_call GR hr rfl mR kR bR .nil pass0 (pa_cons (pe_call GP hr rfl mP kP bP .nil passB (pa_cons (pv 1) (pa_cons (pv 0) pa_nil))) pa_nil)) pe_non (nomark _))), (pv 0)⟩)))), ?_⟩
  refine ⟨_, _, rfl, rfl, 1, _, rfl, ⟨by decide, by decide, by decide, by decide⟩, fun D hD => ?_⟩
  by_cases ck : kindIn kvs d = true
  · have dec : ∃ word, v = .str word ∧ d = .str word ∧ (valueAt (kpairs kvs) (Sum.inr word)).isSome = true := by
      cases hd with
      | str z => exact ⟨z, rfl, rfl, ck⟩
      | _ => cases ck
    obtain ⟨word, rfl, rfl, e3⟩ := dec
    obtain ⟨fL, hk'⟩ := KW word e3
    refine turns_range (lo := 1) (n := 10) (σ := [some (.str word)]) (fun i => hasW (upto (1 + (i : Int))) (plSums fL (1 + (i : Int))) true) (fun i => .int (1 + (i : Int))) hD (by decide) (fun i H' hi g P hP => ?_) (fun i H' hi _ g P hP => ?_) fun H2 g2 e2 => ?_
    · refine ⟨_, rfl, _, rfl, _, _, .int (1 + (i : Int)), .int (1 + (i : Int)), rfl, hd.same g, .int _, fun _ _ word' fL' n e1 hk e2 n1 n2 t a b H3 g3 et ea eb => ?_, fun c => absurd (ck.symm.trans c) Bool.noConfusion, fun _ c2 => ?_⟩
      · cases e1
        cases e2
        have ef : fL' = fL := by cases hk <;> cases hk' <;> rfl
        subst ef
        refine ⟨t, a, b, upto (1 + (i : Int)), plSums fL' (1 + (i : Int)), rfl, ⟨et, ea, eb, kind_ok hk (by omega) (by omega)⟩, fun hw H4 g4 => ?_, fun hw l H4 g4 hl el => ?_⟩
        · rw [hw] at hP
          exact ⟨rfl, _, rfl, hP _ (g3.trans g4)⟩
        · rw [hw] at hP
          exact ⟨rfl, _, rfl, hP _ (g3.trans g4)⟩
      · exfalso
        rw [lenIn, decide_eq_true (show 1 ≤ 1 + (i : Int) by omega), decide_eq_true (show 1 + (i : Int) ≤ 10 by omega)] at c2
        cases c2
    · exact ⟨_, rfl, hP _ Same.rfl'⟩
    · exact q ck D H2 g2
  · have ck' : kindIn kvs d = false := by cases e : kindIn kvs d with | true => exact absurd e ck | false => rfl
    refine turns_any (n := 10) (fun i σ' H' => i = 0 ∧ ∃ x, σ' = x :: [some v] ∧ Same H H') ⟨rfl, none, rfl, Same.new hD _⟩ ?_ ?_
    · rintro i σ' H' hi ⟨rfl, x, rfl, g⟩
      refine ⟨by show 0 < 10; decide, fun z H2 hz => ?_⟩
      obtain ⟨rfl, rfl⟩ := hz
      refine ⟨_, rfl, _, rfl, v, d, _, _, rfl, hd.same g, .int _, fun c => absurd c ck, fun _ => qK ck' _ g, fun c => absurd c ck⟩
    · rintro σ' H' ⟨h, _⟩
      cases h
end
abbrev sCau : Stmt := top 49
abbrev sLaw : Stmt := top 50
def spCau (kvs : List (Str × Tok × Value)) (XK : Addr) : Sp := fun vs H Q _ => ∃ (i : Int) (v : V) (d : PyData), vs = [.int i, v] ∧ Dat H v d ∧
  (kindIn kvs d = true → ∀ H', Same H H' → Q .non H') ∧ (kindIn kvs d = false → ∀ ea H', Same H H' → H' ea = some (.ext (ExcAt ea (.ref XK))) → Q (.ref ea) H')
def spLaw (K : PySem.W.Frag) : Sp := fun vs H Q _ => ∃ (a : Addr) (ns : List Int), vs = [.ref a] ∧ SqL K H a (ns.map V.int) ∧ ns.length ≤ 63 ∧ ∀ H', Q (.bl true) H'
def four : List V := [.str "squares", .str "threes", .str "primes", .str "powers"]
theorem kind_tx {z : Str} (h : V.str z ∈ [V.str "squares", .str "threes", .str "primes", .str "powers"]) : Tx 7 z ∧ 1 ≤ z.length ∧ Tx 7 (Txt.upper z) := by
  simp only [List.mem_cons, List.not_mem_nil, or_false, V.str.injEq] at h
  rcases h with e | e | e | e <;> rw [e] <;> exact ⟨Tx.lit (by decide +kernel) (by decide +kernel), by decide +kernel, Tx.lit (by decide +kernel) (by decide +kernel)⟩
section
variable {P : Program} {w : World} {K : PySem.W.Frag} {mg : Str → Option Value} {base : Heap} {f dk dr nk ca ki rl gl XK XS : Addr} {xs : List Addr} {fd dkd drd nkd cad kid rld gld : FuncData} {kvs : List (Str × Tok × Value)}
theorem scCau : FnScope ["way", "kind", "caught", "e"] ["way", "kind"] (defScope sCau) := ⟨rfl, rfl, rfl, by decide +kernel, rfl, by decide +kernel, by decide +kernel⟩
theorem ok_cau (F : Fun K "_law_caught" "_law_caught" sCau f fd) (mXS : mg "SumError" = some (.ref XS)) (eP : PySem.W.exmOne K (.ref XK) (.ref XS) = some true)
    (GR : FnOk P w K mg base (CX1 P w) 25 rl rld ["kind"] (spLenX kvs XK)) (bR : Binds K rld ["kind"] []) (kR : PySem.W.keepIn K (.ref rl) = true) (mR : mg "row_lengths" = some (.ref rl))
    (GG : FnOk P w K mg base (CX1 P w) 25 gl gld ["kind"] (spLenX kvs XK)) (bG : Binds K gld ["kind"] []) (kG : PySem.W.keepIn K (.ref gl) = true) (mG : mg "ring_lengths" = some (.ref gl)) : FnOk P w K mg base CX0 26 f fd ["way", "kind"] (spCau kvs XK) := by
  refine F.ok scCau (fun vs H Q E h => ?_) (fun cdv A outer s H vs Q E hr h => ?_)
  · obtain ⟨i, v, d, rfl, _⟩ := h
    rfl
  obtain ⟨i, v, d, rfl, hd, q, qK⟩ := h
  refine ⟨_, (@pss_cons _ _ _ _ _ (ps_set (i := 2) scCau.nd rfl (Or.inl rfl) pe_non) (@pss_cons _ _ _ _ _ (ps_try (S := XS) (i := 2) (j := 3) (pb_if (fun _ _ z => z) (pt_cmpR op_eq (pv 0) pe_int (nomark _)) (pb_call (fun _ _ z => z) GR hr rfl mR kR bR .nil (pa_cons (pv 1) pa_nil)) (pb_call (fun _ _ z => z) GG hr rfl mG kG bG .nil (pa_cons (pv 1) pa_nil))) rfl rfl rfl scCau.nd rfl mXS rfl (Or.inl rfl) rfl rfl (by decide)) (@pss_one _ _ _ (ps_ret (pv 2))))), ?_⟩
  refine ⟨_, rfl, rfl, _, rfl, ite2 (fun _ => ?_) (fun _ => ?_)⟩
  · refine ⟨_, rfl, v, d, rfl, hd, fun c1 l H1 g1 => ⟨_, rfl, q c1 _ g1⟩, fun c1 H1 g1 => ⟨eP, fun ea hn => ⟨_, rfl, qK c1 _ _ (g1.trans (Same.new hn _)) upd_same⟩⟩⟩
  · refine ⟨_, rfl, v, d, rfl, hd, fun c1 l H1 g1 => ⟨_, rfl, q c1 _ g1⟩, fun c1 H1 g1 => ⟨eP, fun ea hn => ⟨_, rfl, qK c1 _ _ (g1.trans (Same.new hn _)) upd_same⟩⟩⟩
theorem scLaw : FnScope ["script", "deck", "kinds", "turn", "kind", "odd", "kept", "way", "caught", "good"] ["script"] (defScope sLaw) := ⟨rfl, rfl, rfl, by decide +kernel, rfl, by decide +kernel, by decide +kernel⟩
theorem ok_law (F : Fun K "law" "law" sLaw f fd) (B : BtR mg) (exK : ExD K xs XS XK 2) (KE : ∀ z : Str, (valueAt (kpairs kvs) (Sum.inr z)).isSome = inV (.str z) four)
    (GD : FnOk P w K mg base CX0 26 dk dkd ["script"] (spDeck K)) (bD : Binds K dkd ["script"] []) (kD : PySem.W.keepIn K (.ref dk) = true) (mD : mg "_law_deck" = some (.ref dk))
    (GR : FnOk P w K mg base CX0 26 dr drd ["deck", "many"] spDraw) (bR : Binds K drd ["deck", "many"] []) (kR : PySem.W.keepIn K (.ref dr) = true) (mR : mg "_law_draw" = some (.ref dr))
    (GN : FnOk P w K mg base CX0 26 nk nkd ["deck", "kind"] spNoK) (bN : Binds K nkd ["deck", "kind"] []) (kN : PySem.W.keepIn K (.ref nk) = true) (mN : mg "_law_no_kind" = some (.ref nk))
    (GC : FnOk P w K mg base CX0 26 ca cad ["way", "kind"] (spCau kvs XK)) (bC : Binds K cad ["way", "kind"] []) (kC : PySem.W.keepIn K (.ref ca) = true) (mC : mg "_law_caught" = some (.ref ca))
    (GK : FnOk P w K mg base CX0 26 ki kid ["caught", "due"] (spKin K xs XS)) (bK : Binds K kid ["caught", "due"] []) (kK : PySem.W.keepIn K (.ref ki) = true) (mK : mg "_law_kinds" = some (.ref ki)) : FnOk P w K mg base CX0 27 f fd ["script"] (spLaw K) := by
  refine F.ok scLaw (fun vs H Q E h => ?_) (fun cdv A outer s H vs Q E hr h => ?_)
  · obtain ⟨a, ns, rfl, _⟩ := h
    rfl
  obtain ⟨a0, ns0, rfl, hS, h63, q⟩ := h
  refine ⟨_, (@pss_cons _ _ _ _ _ (ps_set (i := 1) scLaw.nd rfl (Or.inl rfl) (pe_call GD hr rfl mD kD bD .nil pass0 (pa_cons (pv 0) pa_nil))) (@pss_cons _ _ _ _ _ (ps_set (i := 2) scLaw.nd rfl (Or.inl rfl) (pe_lst (QA.h (qa_cons (QE.mk pe_str) (qa_cons (QE.mk pe_str) (qa_cons (QE.mk pe_str) (qa_cons (QE.mk pe_str) qa_nil))))))) (@pss_cons _ _ _ _ _ (ps_for PassesOwn.never rfl (pi_range1 rfl B.range (pa_cons pe_int pa_nil)) (pg_name (i := 3) scLaw.nd rfl (Or.inl rfl)) (@pss_cons _ _ _ _ _ (ps_set (i := 4) scLaw.nd rfl (Or.inl rfl) (pe_ix ix_list (pv 2) (pe_call GR hr rfl mR kR bR .nil pass0 (pa_cons (pv 1) (pa_cons pe_int pa_nil))) (fun _ _ => rfl))) (@pss_cons _ _ _ _ _ (ps_set (i := 5) scLaw.nd rfl (Or.inl rfl) (pe_call GN hr rfl mN kN bN .nil pass0 (pa_cons (pv 1) (pa_cons (pv 4) pa_nil)))) (@pss_cons _ _ _ _ _ (ps_set (i := 6) scLaw.nd rfl (Or.inl rfl) (pe_callB (call_repr hr.units hr.gd) rfl B.repr boot_repr (pa_cons (pv 5) pa_nil))) (@pss_one _ _ _ (ps_for PassesOwn.never rfl (pi_range1 rfl B.range (pa_cons pe_int pa_nil)) (pg_name (i := 7) scLaw.nd rfl (Or.inl rfl)) (@pss_cons _ _ _ _ _ (ps_set (i := 8) scLaw.nd rfl (Or.inl rfl) (pe_call GC hr rfl mC kC bC .nil pass0 (pa_cons (pv 7) (pa_cons (pv 5) pa_nil)))) (@pss_cons _ _ _ _ _ (ps_set (i := 9) scLaw.nd rfl (Or.inl rfl) (pe_and (pe_callB (call_isi "str") rfl B.isinstance boot_isinstance (pa_cons (pv 5) (pa_cons (pe_bltn (v := .ty "str") rfl B.str boot_str rfl) pa_nil))) (pe_one (pe_cmpR op_in_seq (pv 5) (pv 2) rfl)))) (@pss_one _ _ _ (ps_if (PW.pt (pw_or (PW.pt (pw_and (pt_val (pv 9)) (pw_and1 (pt_cmpR op_notN (pv 8) pe_non (nomark _))))) (pw_or (PW.pt (pw_and (pt_not (pt_val (pv 9))) (pw_and1 (pt_not (pt_val (pe_call GK hr rfl mK kK bK .nil pass0 (pa_cons (pv 8) (pa_cons pe_int pa_nil)))))))) (pw_or1 (pt_cmpR op_ne (pe_callB (call_repr hr.units hr.gd) rfl B.repr boot_repr (pa_cons (pv 5) pa_nil)) (pv 6) (nomark _)))))) (@pss_one _ _ _ (ps_ret pe_bl)) pss_nil)))))))))) (@pss_one _ _ _ (ps_ret (pe_and (pe_cmpR op_isN (pe_call GC hr rfl mC kC bC .nil pass0 (pa_cons pe_int (pa_cons (pe_ix ix_list (pv 2) (pe_call GR hr rfl mR kR bR .nil pass0 (pa_cons (pv 1) (pa_cons pe_int pa_nil))) (fun _ _ => rfl)) pa_nil))) pe_non (nomark _)) (pe_one (pe_cmpR op_isN (pe_call GC hr rfl mC kC bC .nil pass0 (pa_cons pe_int (pa_cons (pe_ix ix_list (pv 2) (pe_call GR hr rfl mR kR bR .nil pass0 (pa_cons (pv 1) (pa_cons pe_int pa_nil))) (fun _ _ => rfl)) pa_nil))) pe_non (nomark _))))))))), ?_⟩
  refine ⟨_, rfl, a0, ns0, rfl, hS, h63, fun d p qs H1 D1 g1 hd hp hq => ?_⟩
  have L1 : Lv d p qs H1 H1 [] := Lv.start D1
  refine ⟨(by show 4 ≤ sizeLine; decide), ?_⟩
  intro q1 hq1
  have L2 := L1.new hq1 (.lst [.str "squares", .str "threes", .str "primes", .str "powers"])
  generalize upd H1 q1 (.lst [.str "squares", .str "threes", .str "primes", .str "powers"]) = H2 at L2 ⊢
  have m2 : msk (S3 d p qs) H2 q1 = some (.lst four) := L2.m (by repeat (first | exact List.mem_cons_self | apply List.mem_cons_of_mem))
  have D2 := L2.D
  refine ⟨_, rfl, by decide, by decide, ?_⟩
  have pick4 : ∀ {r : Int}, 0 ≤ r → r < 4 → ∃ z, atI four r = some (.str z) ∧ Tx 7 z ∧ 1 ≤ z.length ∧ Tx 7 (Txt.upper z) ∧ inV (.str z) four = true := fun {r} r0 r1 => by
    obtain ⟨kv, hkv, hkm⟩ := pick_any (xs := four) r0 r1
    obtain ⟨kind, rfl⟩ : ∃ z, kv = .str z := by
      have hk := hkm
      unfold four at hk
      simp only [List.mem_cons, List.not_mem_nil, or_false] at hk
      rcases hk with e | e | e | e <;> exact ⟨_, e⟩
    obtain ⟨tk, k1, tu⟩ := kind_tx hkm
    refine ⟨kind, hkv, tk, k1, tu, ?_⟩
    unfold four at hkm
    simp only [List.mem_cons, List.not_mem_nil, or_false, V.str.injEq] at hkm
    rcases hkm with e | e | e | e <;> rw [e] <;> decide +kernel
  refine for_range (lo := 0) (n := (24 : Int).toNat) (fun i σ H' => ∃ (x3 x4 x5 x6 x7 x8 x9 : Option V), σ = [some (.ref a0), some (.ref d), some (.ref q1), x3, x4, x5, x6, x7, x8, x9] ∧ Dk H' d p qs ∧ msk (S3 d p qs) H' q1 = some (.lst four)) ⟨_, _, _, _, _, _, _, rfl, D2, m2⟩ ?_ ?_
  · rintro i σ H3 hi ⟨x3, x4, x5, x6, x7, x8, x9, rfl, D3, m3⟩
    have L3 : Lv d p qs H3 H3 [] := Lv.start D3
    refine ⟨_, rfl, _, rfl, d, p, qs, _, rfl, L3.D, by decide, by decide, ?_⟩
    intro r1 H4 r10 r11 D4 o4
    have L4 := L3.mv D4 (off_msk o4)
    obtain ⟨kind, hkv, tk, k1, tu, _⟩ := pick4 r10 r11
    have m4 : msk (S3 d p qs) H4 q1 = some (.lst four) := L4.G _ _ m3
    refine ⟨q1, _, r1, .str kind, rfl, rfl, SqL.of (msk_le _ _ m4), hkv, ?_⟩
    refine ⟨_, rfl, _, rfl, d, p, qs, kind, rfl, L4.D, tk, k1, tu, fun ov H6 D6 g6 to => ?_⟩
    have m6 := g6 _ _ m4
    obtain ⟨dd, hdd, fine⟩ := to.same (msk_le (S := S3 d p qs))
    have dl := fine.len (by decide)
    refine ⟨_, rfl, _, _, rfl, hdd, fine.show_, Nat.le_trans fine.deep (by decide), dl, ?_⟩
    refine ⟨_, rfl, by decide, by decide, ?_⟩
    refine for_range (lo := 0) (n := (2 : Int).toNat) (fun j σ H' => ∃ (y7 y8 y9 : Option V), σ = [some (.ref a0), some (.ref d), some (.ref q1), some (.int (0 + (i : Int))), some (.str kind), some ov, some (.str dd.shown), y7, y8, y9] ∧ Same H6 H') ⟨_, _, _, rfl, Same.rfl'⟩ ?_ ?_
    · rintro j σ H7 hj ⟨y7, y8, y9, rfl, g7⟩
      refine ⟨_, rfl, _, rfl, _, ov, dd, rfl, hdd.same g7, fun ck H8 g8 => ?_, fun ck ea H8 g8 e8 => ?_⟩
      · have m8 := msk_same (S := S3 d p qs) (g7.trans g8) _ _ m6
        obtain ⟨z, e1, e2, hz⟩ : ∃ z, ov = .str z ∧ dd = .str z ∧ inV (.str z) four = true := by
          cases hdd with
          | str z => exact ⟨z, rfl, rfl, (KE z).symm.trans ck⟩
          | _ => cases ck
        have cs : isS dd = true := by rw [e2]; rfl
        refine ⟨_, rfl, _, _, isS dd, rfl, (hdd.same (g7.trans g8)).ty, kit_s _ dd, _, rfl, ?_⟩
        rw [cs]
        refine iteT ⟨_, rfl, _, rfl, q1, four, rfl, .inl (SqL.of (msk_le _ _ m8)), by rw [e1]; rfl, rfl, ?_⟩
        rw [e1, show (if false = true then !inV (.str z) four else inV (.str z) four) = inV (.str z) four from rfl, hz]
        rw [e1] at hdd
        refine ⟨_, rfl, _, rfl, iteT ?_⟩
        refine ⟨_, rfl, rfl, _, rfl, iteF ?_⟩
        refine ⟨_, rfl, _, rfl, iteF (iteF ?_)⟩
        exact ⟨_, rfl, _, _, rfl, hdd.same (g7.trans g8), fine.show_, Nat.le_trans fine.deep (by decide), dl, _, rfl, rfl, _, rfl, ite2 (fun c => absurd c (by simp)) (fun _ => ⟨_, _, _, rfl, g7.trans g8⟩)⟩
      · have m8 := msk_same (S := S3 d p qs) (g7.trans g8) _ _ m6
        refine ⟨_, rfl, _, _, isS dd, rfl, (hdd.same (g7.trans g8)).ty, kit_s _ dd, _, rfl, ?_⟩
        cases cs : isS dd with
        | false =>
          refine iteF ?_
          refine ⟨_, rfl, _, rfl, iteF (iteF ?_)⟩
          refine ⟨_, rfl, _, rfl, iteT ?_⟩
          refine ⟨_, rfl, ea, _, 2, rfl, e8, exK, fun H9 g9 => ⟨_, rfl, iteF ?_⟩⟩
          have g := g7.trans (g8.trans g9)
          exact ⟨_, rfl, _, _, rfl, hdd.same g, fine.show_, Nat.le_trans fine.deep (by decide), dl, _, rfl, rfl, _, rfl, ite2 (fun c => absurd c (by simp)) (fun _ => ⟨_, _, _, rfl, g⟩)⟩
        | true =>
          obtain ⟨z, e1, hz⟩ : ∃ z, ov = .str z ∧ inV (.str z) four = false := by
            cases hdd with
            | str z => exact ⟨z, rfl, (KE z).symm.trans ck⟩
            | _ => cases cs
          refine iteT ⟨_, rfl, _, rfl, q1, four, rfl, .inl (SqL.of (msk_le _ _ m8)), by rw [e1]; rfl, rfl, ?_⟩
          rw [e1, show (if false = true then !inV (.str z) four else inV (.str z) four) = inV (.str z) four from rfl, hz]
          rw [e1] at hdd
          refine ⟨_, rfl, _, rfl, iteF (iteF ?_)⟩
          refine ⟨_, rfl, _, rfl, iteT ?_⟩
          refine ⟨_, rfl, ea, _, 2, rfl, e8, exK, fun H9 g9 => ⟨_, rfl, iteF ?_⟩⟩
          have g := g7.trans (g8.trans g9)
          exact ⟨_, rfl, _, _, rfl, hdd.same g, fine.show_, Nat.le_trans fine.deep (by decide), dl, _, rfl, rfl, _, rfl, ite2 (fun c => absurd c (by simp)) (fun _ => ⟨_, _, _, rfl, g⟩)⟩
    · rintro σ H7 ⟨y7, y8, y9, rfl, g7⟩
      exact ⟨_, _, _, _, _, _, _, rfl, D6.same g7, msk_same g7 _ _ m6⟩
  · rintro σ H3 ⟨x3, x4, x5, x6, x7, x8, x9, rfl, D3, m3⟩
    have L3 : Lv d p qs H3 H3 [] := Lv.start D3
    refine ⟨_, rfl, _, rfl, d, p, qs, _, rfl, L3.D, by decide, by decide, ?_⟩
    intro r1 H4 r10 r11 D4 o4
    have L4 := L3.mv D4 (off_msk o4)
    obtain ⟨kind, hkv, _, _, _, hz⟩ := pick4 r10 r11
    have m4 : msk (S3 d p qs) H4 q1 = some (.lst four) := L4.G _ _ m3
    refine ⟨q1, _, r1, .str kind, rfl, rfl, SqL.of (msk_le _ _ m4), hkv, ?_⟩
    refine ⟨_, _, _, rfl, .str kind, fun ck H5 g5 => ?_, fun ck => absurd (((KE kind).trans hz).symm.trans ck) Bool.noConfusion⟩
    refine ⟨rfl, _, rfl, iteT ?_⟩
    have D5 := L4.D.same g5
    have m5 := msk_same (S := S3 d p qs) g5 _ _ m4
    have L5 : Lv d p qs H5 H5 [] := Lv.start D5
    refine ⟨_, rfl, _, rfl, d, p, qs, _, rfl, L5.D, by decide, by decide, ?_⟩
    intro r2 H6 r20 r21 D6 o6
    have L6 := L5.mv D6 (off_msk o6)
    obtain ⟨kind2, hkv2, _, _, _, hz2⟩ := pick4 r20 r21
    have m6 : msk (S3 d p qs) H6 q1 = some (.lst four) := L6.G _ _ m5
    refine ⟨q1, _, r2, .str kind2, rfl, rfl, SqL.of (msk_le _ _ m6), hkv2, ?_⟩
    exact ⟨_, _, _, rfl, .str kind2, fun ck H5 g5 => ⟨rfl, q _⟩, fun ck => absurd (((KE kind2).trans hz2).symm.trans ck) Bool.noConfusion⟩
end
theorem kp_some (z : Str) : ∀ kvs : List (Str × Tok × Value), (valueAt (kpairs kvs) (Sum.inr z)).isSome = inV (.str z) (kvs.map fun e => V.str e.1)
  | [] => rfl
  | e :: r => by
    have ih := kp_some z r
    unfold valueAt kpairs inV at ih ⊢
    rw [List.map_cons, List.find?_cons, List.map_cons, List.any_cons, ← ih]
    have e1 : eqV (.str e.1) (.str z) = (e.1 == z) := rfl
    rw [e1]
    by_cases h : e.1 = z
    · have h2 : decide ((Sum.inr e.1 : Key) = Sum.inr z) = true := decide_eq_true (by rw [h])
      rw [show (e.1 == z) = true from beq_iff_eq.mpr h]
      dsimp only
      rw [h2]
      rfl
    · have h2 : decide ((Sum.inr e.1 : Key) = Sum.inr z) = false := decide_eq_false fun q => h (Sum.inr.inj q)
      rw [show (e.1 == z) = false from beq_eq_false_iff_ne.mpr h]
      dsimp only
      rw [h2]
      rfl
theorem four_kind {z : Str} (h : inV (.str z) four = true) : ∃ fL, Kind z fL := by
  have q : ("squares" == z || ("threes" == z || ("primes" == z || ("powers" == z || false)))) = true := h
  simp only [Bool.or_eq_true, beq_iff_eq, Bool.or_false] at q
  rcases q with e | e | e | e <;> rw [← e]
  · exact ⟨_, .sq⟩
  · exact ⟨_, .th⟩
  · exact ⟨_, .pr⟩
  · exact ⟨_, .pw⟩
theorem all_mk {l : PySem.W.OpenLaw} {w : World} {K : PySem.W.Frag} {h : Heap} {mg : Str → Option Value} {fa f1 f2 f3 f4 f5 f6 f7 f8 f9 f10 f11 f12 f13 f14 f15 f16 f17 f18 f19 f20 f21 f22 f23 f24 f25 f26 f27 f28 f29 f30 f31 f32 d1 x0 x1 x2 x3 x4 x5 x6 x7 x8 x9 x10 x11 XS C1 B1 : Addr} (X : K.In h) (G : h.Ns mainGlobals mg) (hfa : mg "law" = some (.ref fa))
    {od1 an1 od2 an2 od3 an3 od4 an4 od5 an5 od6 an6 od7 an7 od8 an8 od9 an9 od10 an10 od11 an11 od12 an12 od13 an13 od14 an14 od15 an15 od16 an16 od17 an17 od18 an18 od19 an19 od20 an20 od21 an21 od22 an22 od23 an23 od24 an24 od25 an25 od26 an26 od27 an27 od28 an28 od29 an29 od30 an30 od31 an31 od32 an32 : Option Addr} {sl1 sl2 sl3 sl4 sl5 sl6 sl7 sl8 sl9 sl10 sl11 sl12 sl13 sl14 sl15 sl16 sl17 sl18 sl19 sl20 sl21 sl22 sl23 sl24 sl25 sl26 sl27 sl28 sl29 sl30 sl31 sl32 : Array (Option Value)} {oc1 kV1 dc1 pm1 cd1 ct1 oc2 kV2 dc2 pm2 cd2 ct2 oc3 kV3 dc3 pm3 cd3 ct3 oc4 kV4 dc4 pm4 cd4 ct4 oc5 kV5 dc5 pm5 cd5 ct5 oc6 kV6 dc6 pm6 cd6 ct6 oc7 kV7 dc7 pm7 cd7 ct7 oc8 kV8 dc8 pm8 cd8 ct8 oc9 kV9 dc9 pm9 cd9 ct9 oc10 kV10 dc10 pm10 cd10 ct10 oc11 kV11 dc11 pm11 cd11 ct11 oc12 kV12 dc12 pm12 cd12 ct12 oc13 kV13 dc13 pm13 cd13 ct13 oc14 kV14 dc14 pm14 cd14 ct14 oc15 kV15 dc15 pm15 cd15 ct15 oc16 kV16 dc16 pm16 cd16 ct16 oc17 kV17 dc17 pm17 cd17 ct17 oc18 kV18 dc18 pm18 cd18 ct18 oc19 kV19 dc19 pm19 cd19 ct19 oc20 kV20 dc20 pm20 cd20 ct20 oc21 kV21 dc21 pm21 cd21 ct21 oc22 kV22 dc22 pm22 cd22 ct22 oc23 kV23 dc23 pm23 cd23 ct23 oc24 kV24 dc24 pm24 cd24 ct24 oc25 kV25 dc25 pm25 cd25 ct25 oc26 kV26 dc26 pm26 cd26 ct26 oc27 kV27 dc27 pm27 cd27 ct27 oc28 kV28 dc28 pm28 cd28 ct28 oc29 kV29 dc29 pm29 cd29 ct29 oc30 kV30 dc30 pm30 cd30 ct30 oc31 kV31 dc31 pm31 cd31 ct31 oc32 kV32 dc32 pm32 cd32 ct32 mc1 : Value}
    {t1 t2 t3 u1 u2 u3 u4 : Tok} {nk1 : Nat}
    (a1 : PySem.W.nsIn K mainGlobals "is_whole" = some (some (.ref f1))) (l1 : K.lookup f1 = some ⟨oc1, od1, .func (PySem.W.fnOf "is_whole" "is_whole" (defArgs sWhole) (defBody sWhole) (defScope sWhole) .none kV1 dc1 pm1 an1 cd1 ct1), sl1⟩) (c1 : PySem.W.codeIn K cd1 "is_whole" = true) (k1 : PySem.W.keepIn K (.ref f1) = true)
    (a2 : PySem.W.nsIn K mainGlobals "is_rising_list" = some (some (.ref f2))) (l2 : K.lookup f2 = some ⟨oc2, od2, .func (PySem.W.fnOf "is_rising_list" "is_rising_list" (defArgs sRise) (defBody sRise) (defScope sRise) .none kV2 dc2 pm2 an2 cd2 ct2), sl2⟩) (c2 : PySem.W.codeIn K cd2 "is_rising_list" = true) (k2 : PySem.W.keepIn K (.ref f2) = true)
    (a3 : PySem.W.nsIn K mainGlobals "is_plan" = some (some (.ref f3))) (l3 : K.lookup f3 = some ⟨oc3, od3, .func (PySem.W.fnOf "is_plan" "is_plan" (defArgs sIsP) (defBody sIsP) (defScope sIsP) .none kV3 dc3 pm3 an3 cd3 ct3), sl3⟩) (c3 : PySem.W.codeIn K cd3 "is_plan" = true) (k3 : PySem.W.keepIn K (.ref f3) = true)
    (a4 : PySem.W.nsIn K mainGlobals "check_plan" = some (some (.ref f4))) (l4 : K.lookup f4 = some ⟨oc4, od4, .func (PySem.W.fnOf "check_plan" "check_plan" (defArgs sCkP) (defBody sCkP) (defScope sCkP) .none kV4 dc4 pm4 an4 cd4 ct4), sl4⟩) (c4 : PySem.W.codeIn K cd4 "check_plan" = true) (k4 : PySem.W.keepIn K (.ref f4) = true)
    (a5 : PySem.W.nsIn K mainGlobals "add_up" = some (some (.ref f5))) (l5 : K.lookup f5 = some ⟨oc5, od5, .func (PySem.W.fnOf "add_up" "add_up" (defArgs sAdd) (defBody sAdd) (defScope sAdd) .none kV5 dc5 pm5 an5 cd5 ct5), sl5⟩) (c5 : PySem.W.codeIn K cd5 "add_up" = true) (k5 : PySem.W.keepIn K (.ref f5) = true)
    (a6 : PySem.W.nsIn K mainGlobals "squares_to" = some (some (.ref f6))) (l6 : K.lookup f6 = some ⟨oc6, od6, .func (PySem.W.fnOf "squares_to" "squares_to" (defArgs sSq) (defBody sSq) (defScope sSq) .none kV6 dc6 pm6 an6 cd6 ct6), sl6⟩) (c6 : PySem.W.codeIn K cd6 "squares_to" = true) (k6 : PySem.W.keepIn K (.ref f6) = true)
    (a7 : PySem.W.nsIn K mainGlobals "threes_to" = some (some (.ref f7))) (l7 : K.lookup f7 = some ⟨oc7, od7, .func (PySem.W.fnOf "threes_to" "threes_to" (defArgs sTh) (defBody sTh) (defScope sTh) .none kV7 dc7 pm7 an7 cd7 ct7), sl7⟩) (c7 : PySem.W.codeIn K cd7 "threes_to" = true) (k7 : PySem.W.keepIn K (.ref f7) = true)
    (a8 : PySem.W.nsIn K mainGlobals "is_prime" = some (some (.ref f8))) (l8 : K.lookup f8 = some ⟨oc8, od8, .func (PySem.W.fnOf "is_prime" "is_prime" (defArgs sPr) (defBody sPr) (defScope sPr) .none kV8 dc8 pm8 an8 cd8 ct8), sl8⟩) (c8 : PySem.W.codeIn K cd8 "is_prime" = true) (k8 : PySem.W.keepIn K (.ref f8) = true)
    (a9 : PySem.W.nsIn K mainGlobals "primes_to" = some (some (.ref f9))) (l9 : K.lookup f9 = some ⟨oc9, od9, .func (PySem.W.fnOf "primes_to" "primes_to" (defArgs sPrs) (defBody sPrs) (defScope sPrs) .none kV9 dc9 pm9 an9 cd9 ct9), sl9⟩) (c9 : PySem.W.codeIn K cd9 "primes_to" = true) (k9 : PySem.W.keepIn K (.ref f9) = true)
    (a10 : PySem.W.nsIn K mainGlobals "powers_to" = some (some (.ref f10))) (l10 : K.lookup f10 = some ⟨oc10, od10, .func (PySem.W.fnOf "powers_to" "powers_to" (defArgs sPw) (defBody sPw) (defScope sPw) .none kV10 dc10 pm10 an10 cd10 ct10), sl10⟩) (c10 : PySem.W.codeIn K cd10 "powers_to" = true) (k10 : PySem.W.keepIn K (.ref f10) = true)
    (a11 : PySem.W.nsIn K mainGlobals "check_kind" = some (some (.ref f11))) (l11 : K.lookup f11 = some ⟨oc11, od11, .func (PySem.W.fnOf "check_kind" "check_kind" (defArgs sCk) (defBody sCk) (defScope sCk) .none kV11 dc11 pm11 an11 cd11 ct11), sl11⟩) (c11 : PySem.W.codeIn K cd11 "check_kind" = true) (k11 : PySem.W.keepIn K (.ref f11) = true)
    (a12 : PySem.W.nsIn K mainGlobals "plan_of" = some (some (.ref f12))) (l12 : K.lookup f12 = some ⟨oc12, od12, .func (PySem.W.fnOf "plan_of" "plan_of" (defArgs sPl) (defBody sPl) (defScope sPl) .none kV12 dc12 pm12 an12 cd12 ct12), sl12⟩) (c12 : PySem.W.codeIn K cd12 "plan_of" = true) (k12 : PySem.W.keepIn K (.ref f12) = true)
    (a13 : PySem.W.nsIn K mainGlobals "all_places" = some (some (.ref f13))) (l13 : K.lookup f13 = some ⟨oc13, od13, .func (PySem.W.fnOf "all_places" "all_places" (defArgs sAllP) (defBody sAllP) (defScope sAllP) .none kV13 dc13 pm13 an13 cd13 ct13), sl13⟩) (c13 : PySem.W.codeIn K cd13 "all_places" = true) (k13 : PySem.W.keepIn K (.ref f13) = true)
    (a14 : PySem.W.nsIn K mainGlobals "near_places" = some (some (.ref f14))) (l14 : K.lookup f14 = some ⟨oc14, od14, .func (PySem.W.fnOf "near_places" "near_places" (defArgs sNear) (defBody sNear) (defScope sNear) .none kV14 dc14 pm14 an14 cd14 ct14), sl14⟩) (c14 : PySem.W.codeIn K cd14 "near_places" = true) (k14 : PySem.W.keepIn K (.ref f14) = true)
    (a15 : PySem.W.nsIn K mainGlobals "numbers_at" = some (some (.ref f15))) (l15 : K.lookup f15 = some ⟨oc15, od15, .func (PySem.W.fnOf "numbers_at" "numbers_at" (defArgs sNums) (defBody sNums) (defScope sNums) .none kV15 dc15 pm15 an15 cd15 ct15), sl15⟩) (c15 : PySem.W.codeIn K cd15 "numbers_at" = true) (k15 : PySem.W.keepIn K (.ref f15) = true)
    (a16 : PySem.W.nsIn K mainGlobals "first_from" = some (some (.ref f16))) (l16 : K.lookup f16 = some ⟨oc16, od16, .func (PySem.W.fnOf "first_from" "first_from" (defArgs sFrom) (defBody sFrom) (defScope sFrom) .none kV16 dc16 pm16 an16 cd16 ct16), sl16⟩) (c16 : PySem.W.codeIn K cd16 "first_from" = true) (k16 : PySem.W.keepIn K (.ref f16) = true)
    (a17 : PySem.W.nsIn K mainGlobals "first_row" = some (some (.ref f17))) (l17 : K.lookup f17 = some ⟨oc17, od17, .func (PySem.W.fnOf "first_row" "first_row" (defArgs sFRow) (defBody sFRow) (defScope sFRow) .none kV17 dc17 pm17 an17 cd17 ct17), sl17⟩) (c17 : PySem.W.codeIn K cd17 "first_row" = true) (k17 : PySem.W.keepIn K (.ref f17) = true)
    (a18 : PySem.W.nsIn K mainGlobals "first_ring" = some (some (.ref f18))) (l18 : K.lookup f18 = some ⟨oc18, od18, .func (PySem.W.fnOf "first_ring" "first_ring" (defArgs sFRing) (defBody sFRing) (defScope sFRing) .none kV18 dc18 pm18 an18 cd18 ct18), sl18⟩) (c18 : PySem.W.codeIn K cd18 "first_ring" = true) (k18 : PySem.W.keepIn K (.ref f18) = true)
    (a19 : PySem.W.nsIn K mainGlobals "row_lengths" = some (some (.ref f19))) (l19 : K.lookup f19 = some ⟨oc19, od19, .func (PySem.W.fnOf "row_lengths" "row_lengths" (defArgs sRL) (defBody sRL) (defScope sRL) .none kV19 dc19 pm19 an19 cd19 ct19), sl19⟩) (c19 : PySem.W.codeIn K cd19 "row_lengths" = true) (k19 : PySem.W.keepIn K (.ref f19) = true)
    (a20 : PySem.W.nsIn K mainGlobals "ring_lengths" = some (some (.ref f20))) (l20 : K.lookup f20 = some ⟨oc20, od20, .func (PySem.W.fnOf "ring_lengths" "ring_lengths" (defArgs sGL) (defBody sGL) (defScope sGL) .none kV20 dc20 pm20 an20 cd20 ct20), sl20⟩) (c20 : PySem.W.codeIn K cd20 "ring_lengths" = true) (k20 : PySem.W.keepIn K (.ref f20) = true)
    (a21 : PySem.W.nsIn K mainGlobals "_law_deck" = some (some (.ref f21))) (l21 : K.lookup f21 = some ⟨oc21, od21, .func (PySem.W.fnOf "_law_deck" "_law_deck" (defArgs sDeck) (defBody sDeck) (defScope sDeck) .none kV21 dc21 pm21 an21 cd21 ct21), sl21⟩) (c21 : PySem.W.codeIn K cd21 "_law_deck" = true) (k21 : PySem.W.keepIn K (.ref f21) = true)
    (a22 : PySem.W.nsIn K mainGlobals "_law_draw" = some (some (.ref f22))) (l22 : K.lookup f22 = some ⟨oc22, od22, .func (PySem.W.fnOf "_law_draw" "_law_draw" (defArgs sDraw) (defBody sDraw) (defScope sDraw) .none kV22 dc22 pm22 an22 cd22 ct22), sl22⟩) (c22 : PySem.W.codeIn K cd22 "_law_draw" = true) (k22 : PySem.W.keepIn K (.ref f22) = true)
    (a23 : PySem.W.nsIn K mainGlobals "_law_kinds" = some (some (.ref f23))) (l23 : K.lookup f23 = some ⟨oc23, od23, .func (PySem.W.fnOf "_law_kinds" "_law_kinds" (defArgs sKin) (defBody sKin) (defScope sKin) .none kV23 dc23 pm23 an23 cd23 ct23), sl23⟩) (c23 : PySem.W.codeIn K cd23 "_law_kinds" = true) (k23 : PySem.W.keepIn K (.ref f23) = true)
    (a24 : PySem.W.nsIn K mainGlobals "_law_no_kind" = some (some (.ref f24))) (l24 : K.lookup f24 = some ⟨oc24, od24, .func (PySem.W.fnOf "_law_no_kind" "_law_no_kind" (defArgs sNoK) (defBody sNoK) (defScope sNoK) .none kV24 dc24 pm24 an24 cd24 ct24), sl24⟩) (c24 : PySem.W.codeIn K cd24 "_law_no_kind" = true) (k24 : PySem.W.keepIn K (.ref f24) = true)
    (a25 : PySem.W.nsIn K mainGlobals "_law_caught" = some (some (.ref f25))) (l25 : K.lookup f25 = some ⟨oc25, od25, .func (PySem.W.fnOf "_law_caught" "_law_caught" (defArgs sCau) (defBody sCau) (defScope sCau) .none kV25 dc25 pm25 an25 cd25 ct25), sl25⟩) (c25 : PySem.W.codeIn K cd25 "_law_caught" = true) (k25 : PySem.W.keepIn K (.ref f25) = true)
    (a26 : PySem.W.nsIn K mainGlobals "law" = some (some (.ref f26))) (l26 : K.lookup f26 = some ⟨oc26, od26, .func (PySem.W.fnOf "law" "law" (defArgs sLaw) (defBody sLaw) (defScope sLaw) .none kV26 dc26 pm26 an26 cd26 ct26), sl26⟩) (c26 : PySem.W.codeIn K cd26 "law" = true) (k26 : PySem.W.keepIn K (.ref f26) = true)
    (aC1 : PySem.W.nsIn K mainGlobals "Search" = some (some (.ref C1))) (pg1 : PySem.W.plainGet K C1 Str.empty = true) (hd1 : PySem.W.hasDictIn K C1 = true) (po1 : PySem.W.plainOver K C1 = true) (sa1 : PySem.W.findIn K (.ref C1) "__setattr__" = some (some (.builtin "object.__setattr__"))) (mk1 : PySem.W.makesIn K C1 = true) (kc1 : PySem.W.keepIn K (.ref C1) = true)
    (nn1_1 : PySem.W.findIn K (.ref C1) "ahead" = some none)
    (nn1_2 : PySem.W.findIn K (.ref C1) "near" = some none)
    (nn1_3 : PySem.W.findIn K (.ref C1) "whole" = some none)
    (nn1_4 : PySem.W.findIn K (.ref C1) "last_places" = some none)
    (nn1_5 : PySem.W.findIn K (.ref C1) "onward" = some none)
    (aB1 : PySem.W.nsIn K mainGlobals "Steps" = some (some (.ref B1))) (ty1 : PySem.W.typeIn K (.ref B1) = some mc1) (ga1 : PySem.W.specialIn K (.ref B1) "__getattribute__" = some (some (.builtin "type.__getattribute__"))) (rd1 : PySem.W.readsIn K B1 mc1 = true)
    (a27 : PySem.W.findIn K (.ref C1) "__init__" = some (some (.ref f27))) (i27 : PySem.W.isFn K (.ref f27) = true) (l27 : K.lookup f27 = some ⟨oc27, od27, .func (PySem.W.fnOf "__init__" "Search.__init__" (defArgs sIni) (defBody sIni) (defScope sIni) .none kV27 dc27 pm27 an27 cd27 ct27), sl27⟩) (c27 : PySem.W.codeIn K cd27 "Search.__init__" = true) (k27 : PySem.W.keepIn K (.ref f27) = true)
    (a28 : PySem.W.findIn K (.ref C1) "can_end" = some (some (.ref f28))) (i28 : PySem.W.isFn K (.ref f28) = true) (l28 : K.lookup f28 = some ⟨oc28, od28, .func (PySem.W.fnOf "can_end" "Search.can_end" (defArgs sCan) (defBody sCan) (defScope sCan) .none kV28 dc28 pm28 an28 cd28 ct28), sl28⟩) (c28 : PySem.W.codeIn K cd28 "Search.can_end" = true) (k28 : PySem.W.keepIn K (.ref f28) = true)
    (a29 : PySem.W.findIn K (.ref C1) "first_step" = some (some (.ref f29))) (i29 : PySem.W.isFn K (.ref f29) = true) (l29 : K.lookup f29 = some ⟨oc29, od29, .func (PySem.W.fnOf "first_step" "Search.first_step" (defArgs sFst) (defBody sFst) (defScope sFst) .none kV29 dc29 pm29 an29 cd29 ct29), sl29⟩) (c29 : PySem.W.codeIn K cd29 "Search.first_step" = true) (k29 : PySem.W.keepIn K (.ref f29) = true)
    (a30 : PySem.W.findIn K (.ref C1) "found_places" = some (some (.ref f30))) (i30 : PySem.W.isFn K (.ref f30) = true) (l30 : K.lookup f30 = some ⟨oc30, od30, .func (PySem.W.fnOf "found_places" "Search.found_places" (defArgs sFnd) (defBody sFnd) (defScope sFnd) .none kV30 dc30 pm30 an30 cd30 ct30), sl30⟩) (c30 : PySem.W.codeIn K cd30 "Search.found_places" = true) (k30 : PySem.W.keepIn K (.ref f30) = true)
    (a31 : PySem.W.findIn K (.ref C1) "steps" = some (some (.ref f31))) (i31 : PySem.W.isFn K (.ref f31) = true) (l31 : K.lookup f31 = some ⟨oc31, od31, .func (PySem.W.fnOf "steps" "Steps.steps" (defArgs sSteps) (defBody sSteps) (defScope sSteps) .none kV31 dc31 pm31 an31 cd31 ct31), sl31⟩) (c31 : PySem.W.codeIn K cd31 "Steps.steps" = true) (k31 : PySem.W.keepIn K (.ref f31) = true)
    (a32 : PySem.W.findCls K (.ref B1) mc1 "__init__" = some (.val (.ref f32))) (i32 : PySem.W.isFn K (.ref f32) = true) (l32 : K.lookup f32 = some ⟨oc32, od32, .func (PySem.W.fnOf "__init__" "Steps.__init__" (defArgs sIni0) (defBody sIni0) (defScope sIni0) .none kV32 dc32 pm32 an32 cd32 ct32), sl32⟩) (c32 : PySem.W.codeIn K cd32 "Steps.__init__" = true) (k32 : PySem.W.keepIn K (.ref f32) = true)
    (m1 : PySem.W.nsIn K mainGlobals "MOST" = some (some (.int 10 t1)))
    (m2 : PySem.W.nsIn K mainGlobals "LEAST_SUM" = some (some (.int 3 t2)))
    (m3 : PySem.W.nsIn K mainGlobals "FEWEST_IN_RING" = some (some (.int 3 t3)))
    (ad1 : PySem.W.nsIn K mainGlobals "KINDS" = some (some (.ref d1))) (ld1 : K.lookup d1 = some { cls := .type "dict", data := .dict #[{ hash := PyData.keyHash w.params "squares", key := .str "squares" u1, val := .ref f6 }, { hash := PyData.keyHash w.params "threes", key := .str "threes" u2, val := .ref f7 }, { hash := PyData.keyHash w.params "primes", key := .str "primes" u3, val := .ref f9 }, { hash := PyData.keyHash w.params "powers", key := .str "powers" u4, val := .ref f10 }] nk1 }) (lo1 : (d1 == sysModules) = false)
    (ax0 : PySem.W.nsIn K mainGlobals "NoPlan" = some (some (.ref x0)))
    (ax1 : PySem.W.nsIn K mainGlobals "NoNumber" = some (some (.ref x1)))
    (ax2 : PySem.W.nsIn K mainGlobals "NoKind" = some (some (.ref x2)))
    (ax3 : PySem.W.nsIn K mainGlobals "NoPlace" = some (some (.ref x3)))
    (ax4 : PySem.W.nsIn K mainGlobals "NoRow" = some (some (.ref x4)))
    (ax5 : PySem.W.nsIn K mainGlobals "NoCut" = some (some (.ref x5)))
    (ax6 : PySem.W.nsIn K mainGlobals "NoPart" = some (some (.ref x6)))
    (ax7 : PySem.W.nsIn K mainGlobals "NoSum" = some (some (.ref x7)))
    (ax8 : PySem.W.nsIn K mainGlobals "TooMany" = some (some (.ref x8)))
    (ax9 : PySem.W.nsIn K mainGlobals "NoText" = some (some (.ref x9)))
    (ax10 : PySem.W.nsIn K mainGlobals "NoName" = some (some (.ref x10)))
    (ax11 : PySem.W.nsIn K mainGlobals "NoSaying" = some (some (.ref x11)))
    (axS : PySem.W.nsIn K mainGlobals "SumError" = some (some (.ref XS)))
    (gaN : PySem.W.findIn K (.ref x1) "__getattribute__" = some (some (.builtin "BaseException.__getattribute__")))
    (ghN : PySem.W.findIn K (.ref x1) "__getattr__" = some none)
    (caN : PySem.W.findIn K (.ref x1) "__class__" = some (some (.builtin "object.__class__")))
    (obN : PySem.W.mroIn K x1 (.type "object") = some true)
    (beN : PySem.W.mroIn K x1 (.type "BaseException") = some true)
    (clN : (PySem.W.clsIn K x1).isSome = true)
    (vvN : PySem.W.kitOne K (.ref x1) (.type "ValueError") = some true)
    (emN : PySem.W.exmOne K (.ref x1) (.ref XS) = some true)
    (eiN : PySem.W.excIn K x1 [.type "ValueError", .type "Exception", .type "BaseException", .type "object"] "ValueError.__new__" = true)
    (kkN : [x0, x1, x2, x3, x4, x5, x6, x7, x8, x9, x10, x11].map (fun x => PySem.W.kitOne K (.ref x1) (.ref x)) = (List.range 12).map fun i : Nat => some (decide ((i : Int) = 1)))
    (gaK : PySem.W.findIn K (.ref x2) "__getattribute__" = some (some (.builtin "BaseException.__getattribute__")))
    (ghK : PySem.W.findIn K (.ref x2) "__getattr__" = some none)
    (caK : PySem.W.findIn K (.ref x2) "__class__" = some (some (.builtin "object.__class__")))
    (obK : PySem.W.mroIn K x2 (.type "object") = some true)
    (beK : PySem.W.mroIn K x2 (.type "BaseException") = some true)
    (clK : (PySem.W.clsIn K x2).isSome = true)
    (vvK : PySem.W.kitOne K (.ref x2) (.type "ValueError") = some true)
    (emK : PySem.W.exmOne K (.ref x2) (.ref XS) = some true)
    (eiK : PySem.W.excIn K x2 [.type "ValueError", .type "Exception", .type "BaseException", .type "object"] "ValueError.__new__" = true)
    (kkK : [x0, x1, x2, x3, x4, x5, x6, x7, x8, x9, x10, x11].map (fun x => PySem.W.kitOne K (.ref x2) (.ref x)) = (List.range 12).map fun i : Nat => some (decide ((i : Int) = 2)))
    (hn_ : PySem.W.specialIn K (.builtin "object.__class__") "__get__" = some (some (.builtin "getset_descriptor.__get__"))) (htk_ : PySem.W.takesIn K (.builtin "object.__class__") = some true)
    (z1 : PySem.W.nsIn K mainGlobals "len" = some none)
    (z2 : PySem.W.nsIn K mainGlobals "max" = some none)
    (z3 : PySem.W.nsIn K mainGlobals "min" = some none)
    (z4 : PySem.W.nsIn K mainGlobals "range" = some none)
    (z5 : PySem.W.nsIn K mainGlobals "list" = some none)
    (z6 : PySem.W.nsIn K mainGlobals "int" = some none)
    (z7 : PySem.W.nsIn K mainGlobals "all" = some none)
    (z8 : PySem.W.nsIn K mainGlobals "isinstance" = some none)
    (z9 : PySem.W.nsIn K mainGlobals "bool" = some none)
    (z10 : PySem.W.nsIn K mainGlobals "str" = some none)
    (z11 : PySem.W.nsIn K mainGlobals "tuple" = some none)
    (z12 : PySem.W.nsIn K mainGlobals "sorted" = some none)
    (z13 : PySem.W.nsIn K mainGlobals "enumerate" = some none)
    (z14 : PySem.W.nsIn K mainGlobals "zip" = some none)
    (z15 : PySem.W.nsIn K mainGlobals "sum" = some none)
    (z16 : PySem.W.nsIn K mainGlobals "repr" = some none)
    (z17 : PySem.W.nsIn K mainGlobals "ValueError" = some none)
    : ∃ fd : FuncData, (∀ (s : Shared) (v : Value), BindsTo s fd ⟨[v], []⟩ [("script", v)]) ∧ ∀ base : Heap, K.In base → base.Ns mainGlobals mg → FnOk l.prog w K mg base CX0 27 fa fd ["script"] (spLaw K) := by
  have e := hfa.symm.trans (PySem.W.mg_of X G a26)
  cases e
  have M : ∀ (x : Str) (v : Value), PySem.W.nsIn K mainGlobals x = some (some v) → mg x = some v := fun x v h => PySem.W.mg_of X G h
  have zb : ∀ x : Str, PySem.W.nsIn K mainGlobals x = some none → mg x = none := fun x h => PySem.W.mg_none_of X G h
  have F1 := fun_mk (st := sWhole) l1 c1 k1
  have b1 := F1.binds (ps := ["thing"]) fun _ _ _ _ _ _ us hl => match us, hl with | [_], _ => rfl
  have F2 := fun_mk (st := sRise) l2 c2 k2
  have b2 := F2.binds (ps := ["thing", "fewest"]) fun _ _ _ _ _ _ us hl => match us, hl with | [_, _], _ => rfl
  have F3 := fun_mk (st := sIsP) l3 c3 k3
  have b3 := F3.binds (ps := ["thing"]) fun _ _ _ _ _ _ us hl => match us, hl with | [_], _ => rfl
  have F4 := fun_mk (st := sCkP) l4 c4 k4
  have b4 := F4.binds (ps := ["plan"]) fun _ _ _ _ _ _ us hl => match us, hl with | [_], _ => rfl
  have F5 := fun_mk (st := sAdd) l5 c5 k5
  have b5 := F5.binds (ps := ["plan", "one", "other"]) fun _ _ _ _ _ _ us hl => match us, hl with | [_, _, _], _ => rfl
  have F6 := fun_mk (st := sSq) l6 c6 k6
  have b6 := F6.binds (ps := ["top"]) fun _ _ _ _ _ _ us hl => match us, hl with | [_], _ => rfl
  have F7 := fun_mk (st := sTh) l7 c7 k7
  have b7 := F7.binds (ps := ["top"]) fun _ _ _ _ _ _ us hl => match us, hl with | [_], _ => rfl
  have F8 := fun_mk (st := sPr) l8 c8 k8
  have b8 := F8.binds (ps := ["number"]) fun _ _ _ _ _ _ us hl => match us, hl with | [_], _ => rfl
  have F9 := fun_mk (st := sPrs) l9 c9 k9
  have b9 := F9.binds (ps := ["top"]) fun _ _ _ _ _ _ us hl => match us, hl with | [_], _ => rfl
  have F10 := fun_mk (st := sPw) l10 c10 k10
  have b10 := F10.binds (ps := ["top"]) fun _ _ _ _ _ _ us hl => match us, hl with | [_], _ => rfl
  have F11 := fun_mk (st := sCk) l11 c11 k11
  have b11 := F11.binds (ps := ["kind"]) fun _ _ _ _ _ _ us hl => match us, hl with | [_], _ => rfl
  have F12 := fun_mk (st := sPl) l12 c12 k12
  have b12 := F12.binds (ps := ["kind", "n"]) fun _ _ _ _ _ _ us hl => match us, hl with | [_, _], _ => rfl
  have F13 := fun_mk (st := sAllP) l13 c13 k13
  have b13 := F13.binds (ps := ["plan"]) fun _ _ _ _ _ _ us hl => match us, hl with | [_], _ => rfl
  have F14 := fun_mk (st := sNear) l14 c14 k14
  have b14 := F14.binds (ps := ["plan", "number"]) fun _ _ _ _ _ _ us hl => match us, hl with | [_, _], _ => rfl
  have F15 := fun_mk (st := sNums) l15 c15 k15
  have b15 := F15.binds (ps := ["plan", "places"]) fun _ _ _ _ _ _ us hl => match us, hl with | [_, _], _ => rfl
  have F16 := fun_mk (st := sFrom) l16 c16 k16
  have b16 := F16.binds (ps := ["plan", "first_places", "last_places"]) fun _ _ _ _ _ _ us hl => match us, hl with | [_, _, _], _ => rfl
  have F17 := fun_mk (st := sFRow) l17 c17 k17
  have b17 := F17.binds (ps := ["plan"]) fun _ _ _ _ _ _ us hl => match us, hl with | [_], _ => rfl
  have F18 := fun_mk (st := sFRing) l18 c18 k18
  have b18 := F18.binds (ps := ["plan"]) fun _ _ _ _ _ _ us hl => match us, hl with | [_], _ => rfl
  have F19 := fun_mk (st := sRL) l19 c19 k19
  have b19 := F19.binds (ps := ["kind"]) fun _ _ _ _ _ _ us hl => match us, hl with | [_], _ => rfl
  have F20 := fun_mk (st := sGL) l20 c20 k20
  have b20 := F20.binds (ps := ["kind"]) fun _ _ _ _ _ _ us hl => match us, hl with | [_], _ => rfl
  have F21 := fun_mk (st := sDeck) l21 c21 k21
  have b21 := F21.binds (ps := ["script"]) fun _ _ _ _ _ _ us hl => match us, hl with | [_], _ => rfl
  have F22 := fun_mk (st := sDraw) l22 c22 k22
  have b22 := F22.binds (ps := ["deck", "many"]) fun _ _ _ _ _ _ us hl => match us, hl with | [_, _], _ => rfl
  have F23 := fun_mk (st := sKin) l23 c23 k23
  have b23 := F23.binds (ps := ["caught", "due"]) fun _ _ _ _ _ _ us hl => match us, hl with | [_, _], _ => rfl
  have F24 := fun_mk (st := sNoK) l24 c24 k24
  have b24 := F24.binds (ps := ["deck", "kind"]) fun _ _ _ _ _ _ us hl => match us, hl with | [_, _], _ => rfl
  have F25 := fun_mk (st := sCau) l25 c25 k25
  have b25 := F25.binds (ps := ["way", "kind"]) fun _ _ _ _ _ _ us hl => match us, hl with | [_, _], _ => rfl
  have F26 := fun_mk (st := sLaw) l26 c26 k26
  have b26 := F26.binds (ps := ["script"]) fun _ _ _ _ _ _ us hl => match us, hl with | [_], _ => rfl
  have F27 := fun_mk (st := sIni) l27 c27 k27
  have b27 := F27.binds (ps := ["self", "plan", "first_places", "last_places"]) fun _ _ _ _ _ _ us hl => match us, hl with | [_, _, _, _], _ => rfl
  have F28 := fun_mk (st := sCan) l28 c28 k28
  have b28 := F28.binds (ps := ["self", "left", "end"]) fun _ _ _ _ _ _ us hl => match us, hl with | [_, _, _], _ => rfl
  have F29 := fun_mk (st := sFst) l29 c29 k29
  have b29 := F29.binds (ps := ["self", "left", "end"]) fun _ _ _ _ _ _ us hl => match us, hl with | [_, _, _], _ => rfl
  have F30 := fun_mk (st := sFnd) l30 c30 k30
  have b30 := F30.binds (ps := ["self"]) fun _ _ _ _ _ _ us hl => match us, hl with | [_], _ => rfl
  have F31 := fun_mk (st := sSteps) l31 c31 k31
  have b31 := F31.binds (ps := ["self", "left", "end"]) fun _ _ _ _ _ _ us hl => match us, hl with | [_, _, _], _ => rfl
  have F32 := fun_mk (st := sIni0) l32 c32 k32
  have b32 := F32.binds (ps := ["self", "plan", "first_places"]) fun _ _ _ _ _ _ us hl => match us, hl with | [_, _, _], _ => rfl
  refine ⟨PySem.W.fnOf "law" "law" (defArgs sLaw) (defBody sLaw) (defScope sLaw) .none kV26 dc26 pm26 an26 cd26 ct26, fun s v => .of_eq rfl, fun base _ _ => ?_⟩
  have exN : ExD K [x0, x1, x2, x3, x4, x5, x6, x7, x8, x9, x10, x11] XS x1 1 := ⟨kkN, vvN, ⟨gaN, ghN, caN, obN, beN, clN, hn_, htk_⟩, emN, eiN, by decide⟩
  have exK : ExD K [x0, x1, x2, x3, x4, x5, x6, x7, x8, x9, x10, x11] XS x2 2 := ⟨kkK, vvK, ⟨gaK, ghK, caK, obK, beK, clK, hn_, htk_⟩, emK, eiK, by decide⟩
  have B4 : Bt4 mg := { len := zb "len" z1, max := zb "max" z2, min := zb "min" z3, range := zb "range" z4, list := zb "list" z5, int := zb "int" z6, all := zb "all" z7, isinstance := zb "isinstance" z8, bool := zb "bool" z9, str := zb "str" z10, tuple := zb "tuple" z11, sorted := zb "sorted" z12, enumerate := zb "enumerate" z13, zip := zb "zip" z14, sum := zb "sum" z15 }
  have B : BtR mg := { B4.toBt3.toBt2 with repr := zb "repr" z16 }
  have T : ExT mg x0 x1 x2 x3 x4 x5 x6 x7 x8 x9 x10 x11 XS := ⟨M _ _ ax0, M _ _ ax1, M _ _ ax2, M _ _ ax3, M _ _ ax4, M _ _ ax5, M _ _ ax6, M _ _ ax7, M _ _ ax8, M _ _ ax9, M _ _ ax10, M _ _ ax11, M _ _ axS, zb "ValueError" z17⟩
  have TS : SrT2 K C1 := { cl := ⟨pg1, hd1, po1, sa1⟩, nA := nn1_1, nN := nn1_2, nW := nn1_3, nL := nn1_4, nO := nn1_5 }
  have KD : KDict K w d1 [("squares", u1, .ref f6), ("threes", u2, .ref f7), ("primes", u3, .ref f9), ("powers", u4, .ref f10)] := ⟨lo1, (by decide +kernel : (["squares", "threes", "primes", "powers"] : List Str).Nodup), _, ld1⟩
  have KS : Kinds l.prog w K mg base [("squares", u1, .ref f6), ("threes", u2, .ref f7), ("primes", u3, .ref f9), ("powers", u4, .ref f10)] := ⟨fun word fL hk => by
    cases hk
    · exact ⟨f6, _, rfl, (ok_sq F6 B.toBt2.toBt).mono (by decide), b6, k6⟩
    · exact ⟨f7, _, rfl, (ok_th F7 B.toBt2.toBt).mono (by decide), b7, k7⟩
    · exact ⟨f9, _, rfl, ok_prs F9 B.toBt2.toBt (ok_pr F8 B.toBt2) b8 k8 (M _ _ a8), b9, k9⟩
    · exact ⟨f10, _, rfl, (ok_pw F10 B.toBt2.toBt).mono (by decide), b10, k10⟩⟩
  have KE : ∀ z : Str, (valueAt (kpairs [("squares", u1, .ref f6), ("threes", u2, .ref f7), ("primes", u3, .ref f9), ("powers", u4, .ref f10)]) (Sum.inr z)).isSome = inV (.str z) four := fun z => kp_some z _
  have OW := ok_wholeD (P := l.prog) (w := w) (base := base) F1 B.toBt2
  have OR := ok_riseD F2 B.toBt2 (M _ _ m1) OW b1 k1 (M _ _ a1)
  have OI := ok_isPD F3 B.toBt2 OR b2 k2 (M _ _ a2)
  have OC := ok_ckPD F4 OI b3 k3 (M _ _ a3)
  have OA := ok_add (P := l.prog) (w := w) (mg := mg) (base := base) F5
  have OAP := ok_allP (P := l.prog) (w := w) (base := base) F13 B4.toBt3
  have ON := ok_near F14 B4.toBt3 OA b5 k5 (M _ _ a5)
  have ONU := ok_nums (P := l.prog) (w := w) (mg := mg) (base := base) F15
  have OI0 := ok_ini0 F32 B4.toBt3 TS.toSrT ON b14 k14 (M _ _ a14)
  have OIN := ok_ini F27 B4.toBt3 TS ⟨ga1, rd1, a32, k32⟩ (M _ _ aB1) OI0 b32
  have OST := ok_steps (P := l.prog) (w := w) (mg := mg) (base := base) F31 TS.toSrT
  have OCA := ok_both F28 F29 TS ⟨a28, i28, k28⟩ ⟨a29, i29, k29⟩ ⟨a31, i31, k31⟩ OST b31 b28 b29 10
  have OFN := ok_fnd (P := l.prog) (w := w) (mg := mg) (base := base) F30 TS
  have OFR := ok_from F16 TS ⟨mk1, a27, i27, kc1⟩ (M _ _ aC1) ⟨a28, i28, k28⟩ ⟨a30, i30, k30⟩ (OIN.mono (by decide)) b27 OCA b28 (OFN.mono (by decide)) b30 (ONU.mono (by decide)) b15 k15 (M _ _ a15)
  have ORW := ok_frow F17 (OC.mono (by decide)) b4 k4 (M _ _ a4) OFR b16 k16 (M _ _ a16) (OAP.mono (by decide)) b13 k13 (M _ _ a13)
  have ORG := ok_fring F18 B4.toBt3 (M _ _ m3) (OC.mono (by decide)) b4 k4 (M _ _ a4) OFR b16 k16 (M _ _ a16) (ON.mono (by decide)) b14 k14 (M _ _ a14)
  have OCK := ok_ckK (P := l.prog) (base := base) F11 B.toBt2 KD (M _ _ ad1) exK.i T.m2
  have OP := ok_plX F12 B.toBt2 KD (M _ _ ad1) (M _ _ m1) (M _ _ m2) KS (fun z h => four_kind ((KE z).symm.trans h)) exN.i T.m1 (OCK.mono (by decide)) b11 k11 (M _ _ a11) (OW.mono (by decide)) b1 k1 (M _ _ a1)
  have ORL := ok_RLX F19 B4.toBt3 (M _ _ m1) (fun z h => four_kind ((KE z).symm.trans h)) ORW b17 k17 (M _ _ a17) (OP.mono (by decide)) b12 k12 (M _ _ a12)
  have OGL := ok_GLX F20 B4.toBt3 (M _ _ m1) (fun z h => four_kind ((KE z).symm.trans h)) ORG b18 k18 (M _ _ a18) (OP.mono (by decide)) b12 k12 (M _ _ a12)
  have OD := ok_draw (P := l.prog) (w := w) (base := base) F22 B.toBt2.toBt
  have ONK := ok_noK F24 B OD b22 k22 (M _ _ a22)
  have OK := ok_kin (P := l.prog) (w := w) (base := base) F23 B.toBt2 T
  have OU := ok_cau F25 T.mS exK.e ORL b19 k19 (M _ _ a19) OGL b20 k20 (M _ _ a20)
  exact ok_law F26 B exK KE ((ok_deck F21 B.toBt2.toBt).mono (by decide)) b21 k21 (M _ _ a21) (OD.mono (by decide)) b22 k22 (M _ _ a22) (ONK.mono (by decide)) b24 k24 (M _ _ a24) OU b25 k25 (M _ _ a25) (OK.mono (by decide)) b23 k23 (M _ _ a23)
theorem walk {l : PySem.W.OpenLaw} {q : Program} {loose : List Str} {XP : (Str → Option Value) → Heap → Prop} {YP : World → Heap → Prop} {d : DefRec} {K : Params → PySem.W.Frag} (hn : l.most = some 63) (hdf : d.params.defaults = [])
    (hY : ∀ (w : World) (h : Heap), YP w h → (K w.params).In h)
    (F : ∀ (w : World) (mg : Str → Option Value) (fa : Addr) (h : Heap), (K w.params).In h → h.Ns mainGlobals mg → mg d.name = some (.ref fa) →
      ∃ fd : FuncData, (∀ (s : Shared) (u : Value), BindsTo s fd ⟨[u], []⟩ [("script", u)]) ∧ ∀ base : Heap, (K w.params).In base → base.Ns mainGlobals mg → FnOk l.prog w (K w.params) mg base CX0 27 fa fd ["script"] (spLaw (K w.params))) :
    PySem.W.WalkO q loose XP YP l.row.toRowW d [] (fun f vs => PySem.call f vs) :=
  L2.walk_of (n := 63) (k := 27) (x := "script") (CX := fun _ => CX0) (sp := fun w => spLaw (K w.params)) hn (by decide) hdf ⟨rfl, by decide, by decide, rfl⟩ hY F (fun _ _ a ns hl _ hS => ⟨a, ns, rfl, hS, hl, fun _ => rfl⟩) fun _ _ _ _ _ z => z
end N32
def PySem.W.Fast.tw470889653979970026 : Nat := 0
def PySem.W.Fast.tw2017802813354474591 : Nat := 0
def PySem.W.Fast.tw8867444318415155928 : Nat := 0
def PySem.W.Fast.tw2678519756561165773 : Nat := 0
def PySem.W.Fast.tw6632416601021489099 : Nat := 0
def PySem.W.Fast.tw5977777587551779889 : Nat := 0
def PySem.W.Fast.tw12858076065939138090 : Nat := 0
def PySem.W.Fast.tw17237695740263445022 : Nat := 0
def PySem.W.Fast.tw16933333302303018844 : Nat := 0
def PySem.W.Fast.tw7689599216702277036 : Nat := 0
def PySem.W.Fast.tw5796899912973601784 : Nat := 0
def PySem.W.Fast.tw3949967159136767961 : Nat := 0
def PySem.W.Fast.tw14355085298844520744 : Nat := 0
def PySem.W.Fast.tw14270973922754511634 : Nat := 0
def PySem.W.Fast.tw4711134564936140432 : Nat := 0
def PySem.W.Fast.tw7720917008222336791 : Nat := 0
def PySem.W.Fast.tw11949743758268285761 : Nat := 0
def PySem.W.Fast.tw4404635575146694389 : Nat := 0
def PySem.W.Fast.tw3313007015638729081 : Nat := 0
def PySem.W.Fast.tw14903000546241212988 : Nat := 0
open PySem PySem.W PyProof.Rows
set_option maxRecDepth 100000 in
set_option maxHeartbeats 0 in
theorem PySem.Challenge.cw_nearsums_k32_no_kinds_of_lengths_holds : PySem.Challenge.rw_nearsums_k32_no_kinds_of_lengths.Holds := by
  w_on; o_law; k_head; (case hw => w_witness2)
  k_fill
  refine N32.walk (l := PySem.Challenge.rw_nearsums_k32_no_kinds_of_lengths) rfl rfl (fun w h Y => PySem.W.kIn_of Y) ?F
  case F =>
    intro w mg fa h KX G hmg
    refine' N32.all_mk KX G hmg ?a1 ?l1 ?c1 ?k1 ?a2 ?l2 ?c2 ?k2 ?a3 ?l3 ?c3 ?k3 ?a4 ?l4 ?c4 ?k4 ?a5 ?l5 ?c5 ?k5 ?a6 ?l6 ?c6 ?k6 ?a7 ?l7 ?c7 ?k7 ?a8 ?l8 ?c8 ?k8 ?a9 ?l9 ?c9 ?k9 ?a10 ?l10 ?c10 ?k10 ?a11 ?l11 ?c11 ?k11 ?a12 ?l12 ?c12 ?k12 ?a13 ?l13 ?c13 ?k13 ?a14 ?l14 ?c14 ?k14 ?a15 ?l15 ?c15 ?k15 ?a16 ?l16 ?c16 ?k16 ?a17 ?l17 ?c17 ?k17 ?a18 ?l18 ?c18 ?k18 ?a19 ?l19 ?c19 ?k19 ?a20 ?l20 ?c20 ?k20 ?a21 ?l21 ?c21 ?k21 ?a22 ?l22 ?c22 ?k22 ?a23 ?l23 ?c23 ?k23 ?a24 ?l24 ?c24 ?k24 ?a25 ?l25 ?c25 ?k25 ?a26 ?l26 ?c26 ?k26 ?aC1 ?pg1 ?hd1 ?po1 ?sa1 ?mk1 ?kc1 ?nn1_1 ?nn1_2 ?nn1_3 ?nn1_4 ?nn1_5 ?aB1 ?ty1 ?ga1 ?rd1 ?a27 ?i27 ?l27 ?c27 ?k27 ?a28 ?i28 ?l28 ?c28 ?k28 ?a29 ?i29 ?l29 ?c29 ?k29 ?a30 ?i30 ?l30 ?c30 ?k30 ?a31 ?i31 ?l31 ?c31 ?k31 ?a32 ?i32 ?l32 ?c32 ?k32 ?m1 ?m2 ?m3 ?ad1 ?ld1 ?lo1 ?ax0 ?ax1 ?ax2 ?ax3 ?ax4 ?ax5 ?ax6 ?ax7 ?ax8 ?ax9 ?ax10 ?ax11 ?axS ?gaN ?ghN ?caN ?obN ?beN ?clN ?vvN ?emN ?eiN ?kkN ?gaK ?ghK ?caK ?obK ?beK ?clK ?vvK ?emK ?eiK ?kkK ?hn_ ?htk_ ?z1 ?z2 ?z3 ?z4 ?z5 ?z6 ?z7 ?z8 ?z9 ?z10 ?z11 ?z12 ?z13 ?z14 ?z15 ?z16 ?z17
    (case a1 => k_is)
    (case l1 => k_is)
    (case c1 => k_is)
    (case k1 => k_is)
    (case a2 => k_is)
    (case l2 => k_is)
    (case c2 => k_is)
    (case k2 => k_is)
    (case a3 => k_is)
    (case l3 => k_is)
    (case c3 => k_is)
    (case k3 => k_is)
    (case a4 => k_is)
    (case l4 => k_is)
    (case c4 => k_is)
    (case k4 => k_is)
    (case a5 => k_is)
    (case l5 => k_is)
    (case c5 => k_is)
    (case k5 => k_is)
    (case a6 => k_is)
    (case l6 => k_is)
    (case c6 => k_is)
    (case k6 => k_is)
    (case a7 => k_is)
    (case l7 => k_is)
    (case c7 => k_is)
    (case k7 => k_is)
    (case a8 => k_is)
    (case l8 => k_is)
    (case c8 => k_is)
    (case k8 => k_is)
    (case a9 => k_is)
    (case l9 => k_is)
    (case c9 => k_is)
    (case k9 => k_is)
    (case a10 => k_is)
    (case l10 => k_is)
    (case c10 => k_is)
    (case k10 => k_is)
    (case a11 => k_is)
    (case l11 => k_is)
    (case c11 => k_is)
    (case k11 => k_is)
    (case a12 => k_is)
    (case l12 => k_is)
    (case c12 => k_is)
    (case k12 => k_is)
    (case a13 => k_is)
    (case l13 => k_is)
    (case c13 => k_is)
    (case k13 => k_is)
    (case a14 => k_is)
    (case l14 => k_is)
    (case c14 => k_is)
    (case k14 => k_is)
    (case a15 => k_is)
    (case l15 => k_is)
    (case c15 => k_is)
    (case k15 => k_is)
    (case a16 => k_is)
    (case l16 => k_is)
    (case c16 => k_is)
    (case k16 => k_is)
    (case a17 => k_is)
    (case l17 => k_is)
    (case c17 => k_is)
    (case k17 => k_is)
    (case a18 => k_is)
    (case l18 => k_is)
    (case c18 => k_is)
    (case k18 => k_is)
    (case a19 => k_is)
    (case l19 => k_is)
    (case c19 => k_is)
    (case k19 => k_is)
    (case a20 => k_is)
    (case l20 => k_is)
    (case c20 => k_is)
    (case k20 => k_is)
    (case a21 => k_is)
    (case l21 => k_is)
    (case c21 => k_is)
    (case k21 => k_is)
    (case a22 => k_is)
    (case l22 => k_is)
    (case c22 => k_is)
    (case k22 => k_is)
    (case a23 => k_is)
    (case l23 => k_is)
    (case c23 => k_is)
    (case k23 => k_is)
    (case a24 => k_is)
    (case l24 => k_is)
    (case c24 => k_is)
    (case k24 => k_is)
    (case a25 => k_is)
    (case l25 => k_is)
    (case c25 => k_is)
    (case k25 => k_is)
    (case a26 => k_is)
    (case l26 => k_is)
    (case c26 => k_is)
    (case k26 => k_is)
    (case aC1 => k_is)
    (case pg1 => k_is)
    (case hd1 => k_is)
    (case po1 => k_is)
    (case sa1 => k_is)
    (case mk1 => k_is)
    (case kc1 => k_is)
    (case nn1_1 => k_is)
    (case nn1_2 => k_is)
    (case nn1_3 => k_is)
    (case nn1_4 => k_is)
    (case nn1_5 => k_is)
    (case aB1 => k_is)
    (case ty1 => k_is)
    (case ga1 => k_is)
    (case rd1 => k_is)
    (case a27 => k_is)
    (case i27 => k_is)
    (case l27 => k_is)
    (case c27 => k_is)
    (case k27 => k_is)
    (case a28 => k_is)
    (case i28 => k_is)
    (case l28 => k_is)
    (case c28 => k_is)
    (case k28 => k_is)
    (case a29 => k_is)
    (case i29 => k_is)
    (case l29 => k_is)
    (case c29 => k_is)
    (case k29 => k_is)
    (case a30 => k_is)
    (case i30 => k_is)
    (case l30 => k_is)
    (case c30 => k_is)
    (case k30 => k_is)
    (case a31 => k_is)
    (case i31 => k_is)
    (case l31 => k_is)
    (case c31 => k_is)
    (case k31 => k_is)
    (case a32 => k_is)
    (case i32 => k_is)
    (case l32 => k_is)
    (case c32 => k_is)
    (case k32 => k_is)
    (case m1 => k_is)
    (case m2 => k_is)
    (case m3 => k_is)
    (case ad1 => k_is)
    (case ld1 => k_is)
    (case lo1 => rfl)
    (case ax0 => k_is)
    (case ax1 => k_is)
    (case ax2 => k_is)
    (case ax3 => k_is)
    (case ax4 => k_is)
    (case ax5 => k_is)
    (case ax6 => k_is)
    (case ax7 => k_is)
    (case ax8 => k_is)
    (case ax9 => k_is)
    (case ax10 => k_is)
    (case ax11 => k_is)
    (case axS => k_is)
    (case gaN => k_is)
    (case ghN => k_is)
    (case caN => k_is)
    (case obN => k_is)
    (case beN => k_is)
    (case clN => kernel_rfl)
    (case vvN => kernel_rfl)
    (case emN => kernel_rfl)
    (case eiN => kernel_rfl)
    (case kkN => kernel_rfl)
    (case gaK => k_is)
    (case ghK => k_is)
    (case caK => k_is)
    (case obK => k_is)
    (case beK => k_is)
    (case clK => kernel_rfl)
    (case vvK => kernel_rfl)
    (case emK => kernel_rfl)
    (case eiK => kernel_rfl)
    (case kkK => kernel_rfl)
    (case hn_ => k_is)
    (case htk_ => k_is)
    (case z1 => k_is)
    (case z2 => k_is)
    (case z3 => k_is)
    (case z4 => k_is)
    (case z5 => k_is)
    (case z6 => k_is)
    (case z7 => k_is)
    (case z8 => k_is)
    (case z9 => k_is)
    (case z10 => k_is)
    (case z11 => k_is)
    (case z12 => k_is)
    (case z13 => k_is)
    (case z14 => k_is)
    (case z15 => k_is)
    (case z16 => k_is)
    (case z17 => k_is)
