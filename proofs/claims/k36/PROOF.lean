import PyProof.Rows.All
import Wide.All
import OpenK.AllK
import Wide.FinOn
import Lean
import PyProof.EqAt
import PyProof.EqKinds
import PyProof.TupleCall
import PyProof.NeKinds
import PyProof.EnumStmt
import PyProof.WalkInts
import PyProof.ZipIter
import PyProof.Rows.ZipGen
import PyProof.Rows.SumAny
import PyProof.ReprBulk
import PyProof.FitsInt
import PyProof.CallStr
import PyProof.Draws
import KE.KSortAsk
import PyProof.FactsAll.list_4
import KE.KTryMore
import PyProof.NsDelKeeps
import PyProof.ExcArgsOwn
import PyProof.ExcBaseAll.ValueError
import PySem.Challenge.RW_nearsums_k36_no_parts_and_no_places
set_option Elab.async false
set_option linter.all false
set_option maxRecDepth 100000
namespace L2
open PySem PySem.Spec PyProof.Rows
abbrev Key := Sum Int Str
def keyIs : Key → Value → Bool
 | .inl k, v => Value.isInt k v
 | .inr x, v => Value.isStrOf x v
def keyH (w : World) : Key → Int
 | .inl k => hashInt k
 | .inr x => hashStr w x
theorem keyIs_shape : ∀ {k : Key} {v : Value}, keyIs k v = true → (∃ i t, k = Sum.inl i ∧ v = Value.int i t) ∨ (∃ x t, k = Sum.inr x ∧ v = Value.str x t)
 | .inl i, v, h => by
  obtain ⟨t, e⟩ := Value.isInt_shape (k := i) (v := v) h
  exact .inl ⟨i, t, rfl, e⟩
 | .inr x, v, h => by
  obtain ⟨t, e⟩ := Value.isStrOf_shape (x := x) (v := v) h
  exact .inr ⟨x, t, rfl, e⟩
theorem keyIs_int (i : Int) (t : Tok) : keyIs (.inl i) (.int i t) = true := by simp [keyIs, Value.isInt]
theorem keyIs_str (x : Str) (t : Tok) : keyIs (.inr x) (.str x t) = true := by simp [keyIs, Value.isStrOf]
theorem key_ll (a b : Int) : decide ((Sum.inl a : Key) = Sum.inl b) = (a == b) := by
 by_cases e : a = b
 ·subst e; simp
 ·have h : ¬ (Sum.inl a : Key) = Sum.inl b := fun q => e (Sum.inl.inj q)
  rw [decide_eq_false h]
  exact (beq_eq_false_iff_ne.mpr e).symm
theorem key_rr (a b : Str) : decide ((Sum.inr a : Key) = Sum.inr b) = decide (a = b) := by
 by_cases e : a = b
 ·subst e; simp
 ·have h : ¬ (Sum.inr a : Key) = Sum.inr b := fun q => e (Sum.inr.inj q)
  rw [decide_eq_false h, decide_eq_false e]
theorem key_lr (a : Int) (b : Str) : decide ((Sum.inl a : Key) = Sum.inr b) = false := decide_eq_false (fun q => nomatch q)
theorem key_rl (a : Str) (b : Int) : decide ((Sum.inr a : Key) = Sum.inl b) = false := decide_eq_false (fun q => nomatch q)
def mixKind (prog : Program) (w : World) : PySem.KeyKind prog w Key where
 is := keyIs
 hash := keyH w
 inj := fun v a b ha hb => by
  rcases keyIs_shape ha with ⟨i, t, rfl, rfl⟩ | ⟨x, t, rfl, rfl⟩
  ·rcases keyIs_shape hb with ⟨j, u, rfl, e⟩ | ⟨y, u, rfl, e⟩
   ·injection e with e1 _; rw [e1]
   ·exact nomatch e
  ·rcases keyIs_shape hb with ⟨j, u, rfl, e⟩ | ⟨y, u, rfl, e⟩
   ·exact nomatch e
   ·injection e with e1 _; rw [e1]
 byValue := fun k v h => by
  rcases keyIs_shape h with ⟨i, t, rfl, rfl⟩ | ⟨x, t, rfl, rfl⟩ <;> rfl
 pyHash := fun hv h => by
  rcases keyIs_shape hv with ⟨i, t, rfl, rfl⟩ | ⟨x, t, rfl, rfl⟩
  ·exact wpAny_pyHash_int h
  ·exact wpAny_pyHash_str h
 eqBool := fun hu hv h => by
  rcases keyIs_shape hu with ⟨i, t, rfl, rfl⟩ | ⟨x, t, rfl, rfl⟩
  ·rcases keyIs_shape hv with ⟨j, u, rfl, rfl⟩ | ⟨y, u, rfl, rfl⟩
   ·rw [key_ll] at h; exact wpAny_eqBool_int h
   ·rw [key_lr] at h; exact SeqAt.EqAt.int_str i t y u _ _ _ _ h
  ·rcases keyIs_shape hv with ⟨j, u, rfl, rfl⟩ | ⟨y, u, rfl, rfl⟩
   ·rw [key_rl] at h; exact SeqAt.EqAt.str_int x t j u _ _ _ _ h
   ·rw [key_rr] at h; exact wpAny_eqBool_str h
 «strs» := fun k x t v h => by
  rcases keyIs_shape h with ⟨i, u, rfl, e⟩ | ⟨y, u, rfl, e⟩
  ·exact nomatch e
  ·injection e with e1 _
   subst e1
   cases v <;> rfl
theorem mixKind_int (prog : Program) (w : World) (i : Int) (t : Tok) : (mixKind prog w).is (.inl i) (.int i t) = true := keyIs_int i t
theorem mixKind_str (prog : Program) (w : World) (x : Str) (t : Tok) : (mixKind prog w).is (.inr x) (.str x t) = true := keyIs_str x t
end L2
namespace L2
open PySem PySem.Spec PyProof.Rows
inductive V where
 | non | bl (b : Bool) | int (i : Int) | str (x : Str) | byt (b : Array UInt8) | flt (b : UInt64) | ref (a : Addr) | ty (n : String)
 deriving DecidableEq
def RelV : V → Value → Prop
 | .non, u => u = Value.none
 | .bl b, u => u = Value.bool b
 | .int i, u => ∃ t, u = Value.int i t
 | .str x, u => ∃ t, u = Value.str x t
 | .byt b, u => ∃ t, u = Value.bytes b t
 | .flt b, u => ∃ t, u = Value.float b t
 | .ref a, u => u = Value.ref a
 | .ty n, u => u = Value.type n
abbrev Vals : List V → List Value → Prop := Paired RelV
theorem Vals.length {xs : List V} {us : List Value} (r : Vals xs us) : xs.length = us.length := Paired.length r
theorem Vals.get : ∀ {xs : List V} {us : List Value} {i : Nat} {x : V}, Vals xs us → xs[i]? = some x → ∃ u, us[i]? = some u ∧ RelV x u
 | _, _, _, _, .nil, e => by simp at e
 | _, _, 0, _, .cons r _, e => by simp at e; subst e; exact ⟨_, rfl, r⟩
 | _, _, i + 1, x, .cons _ t, e => by
  obtain ⟨u, h1, h2⟩ := Vals.get (i := i) (x := x) t (by simpa using e)
  exact ⟨u, by simpa using h1, h2⟩
theorem Vals.set {x : V} {u : Value} (r : RelV x u) : ∀ {xs : List V} {us : List Value} (i : Nat), Vals xs us → Vals (xs.set i x) (us.set i u)
 | _, _, _, .nil => .nil
 | _, _, 0, .cons _ t => .cons r t
 | _, _, i + 1, .cons q t => .cons q (Vals.set r i t)
theorem Vals.append : ∀ {xs ys : List V} {us ws : List Value}, Vals xs us → Vals ys ws → Vals (xs ++ ys) (us ++ ws)
 | _, _, _, _, .nil, s => s
 | _, _, _, _, .cons r t, s => .cons r (Vals.append t s)
theorem Vals.take : ∀ {xs : List V} {us : List Value} (n : Nat), Vals xs us → Vals (xs.take n) (us.take n)
 | _, _, 0, _ => .nil
 | _, _, _ + 1, .nil => .nil
 | _, _, n + 1, .cons r t => .cons r (Vals.take n t)
theorem Vals.drop : ∀ {xs : List V} {us : List Value} (n : Nat), Vals xs us → Vals (xs.drop n) (us.drop n)
 | _, _, 0, r => r
 | _, _, _ + 1, .nil => .nil
 | _, _, n + 1, .cons _ t => Vals.drop n t
def RelO : Option V → Option Value → Prop
 | some v, some u => RelV v u
 | none, none => True
 | _, _ => False
def KV {κ : Type} : List (κ × V) → List (κ × Value) → Prop := Paired fun (p : κ × V) (q : κ × Value) => p.1 = q.1 ∧ RelV p.2 q.2
def kV : Key → V
 | .inl i => .int i
 | .inr x => .str x
inductive HO where
  | lst (xs : List V)
  | tup (xs : List V)
  | dK (kvs : List (Key × V)) | dT (kvs : List (List Key × V))
  | set (S : Int → Bool) (n : Nat)
  | ins (C dx : Addr) (fs : List (Str × V))
  | own (x : Addr)
  | xd (fs : List (Str × V))
  | met (f x : Addr)
  | rng (lo hi : Int)
  | frz (o : Obj) (u : HO)
  | tbl (ps : Array Value)
  | ext (φ : Heap → Prop)
abbrev Hp := Addr → Option HO
def upd (H : Hp) (a : Addr) (o : HO) : Hp := fun b => if b = a then some o else H b
theorem upd_same {H : Hp} {a : Addr} {o : HO} : upd H a o a = some o := by unfold upd; rw [if_pos rfl]
theorem upd_ne {H : Hp} {a b : Addr} {o : HO} (h : b ≠ a) : upd H a o b = H b := by unfold upd; rw [if_neg h]
theorem ne_of {H : Hp} {a b : Addr} {o u : HO} (h : H a = some o) (h' : H b = some u) (d : o ≠ u) : a ≠ b := by
 intro e; subst e; rw [h] at h'; exact d (Option.some.inj h')
theorem ne_of_none {H : Hp} {a b : Addr} {o : HO} (h : H a = some o) (h' : H b = none) : a ≠ b := by
 intro e; subst e; rw [h] at h'; cases h'
section
variable (P : Program) (w : World)
def ObjOk (H : Hp) (h : Heap) (a : Addr) : HO → Prop
 | .lst xs => xs.length ≤ sizeLine ∧ ∃ (its : List Value) (n : Nat), Vals xs its ∧ h.get? a = some { cls := .type "list", data := .seq its.toArray n }
 | .tup xs => xs.length ≤ sizeLine ∧ ∃ its : List Value, Vals xs its ∧ IsTup h a its.toArray
 | .dK kvs => kvs.length ≤ sizeLine ∧ (a == sysModules) = false ∧ ∃ vs, KV kvs vs ∧ h.DictOf (mixKind P w) a vs
 | .dT kvs => kvs.length ≤ sizeLine ∧ (a == sysModules) = false ∧ ∃ xs : List (List Key × Addr × Value),
   Paired (fun (p : List Key × V) (q : List Key × Addr × Value) => p.1 = q.1 ∧ H q.2.1 = some (.tup (p.1.map kV)) ∧ RelV p.2 q.2.2) kvs xs ∧
   ∃ o es ep, h.get? a = some o ∧ o.ExactDict ∧ o.data = .dict es ep ∧ es.toList = xs.map (entryOfKey (tupleKind (mixKind P w))) ∧ (xs.map (·.1)).Nodup
 | .set S n => h.SetOf (intKind P w) a S n
 | .ins C dx fs => H dx = some (.own a) ∧ fs.length ≤ 1000 ∧ dx ≠ a ∧ h.get? a = some (PySem.W.instObj C dx) ∧
   ∃ mA, h.Ns1 dx mA ∧ (∀ f, RelO (fs.lookup f) (mA f)) ∧ PySem.Within mA (fs.map (·.1))
 | .own _ => ∃ o, h.get? a = some o
 | .xd fs => ∃ mA, h.Ns1 a mA ∧ ∀ f, RelO (fs.lookup f) (mA f)
 | .rng lo hi => ∃ t u v, h.get? a = some { cls := .type "range", data := .fields #[.int lo t, .int hi u, .int 1 v] }
 | .frz o u => h.get? a = some o ∧ ObjOk H h a u
 | .tbl ps => h.get? a = some { cls := .none, data := .fields ps }
 | .met f x => h.get? a = some (PySem.W.methodObj (.ref f) (.ref x))
 | .ext φ => φ h ∧ (∃ o, h.get? a = some o) ∧ ∀ h1 h2 : Heap, φ h1 → (∀ o, h1.get? a = some o → h2.get? a = some o) → φ h2
def HOk (H : Hp) (h : Heap) : Prop := ∀ a o, H a = some o → ObjOk P w H h a o
end
section
variable {P : Program} {w : World} {H H' : Hp} {h h' : Heap} {a : Addr} {o : HO}
theorem ObjOk.lt (x : ObjOk P w H h a o) : a < h.objs.size := by
 cases o with
 | lst xs => obtain ⟨_, _, _, _, e⟩ := x; exact Heap.lt_size e
 | tup xs => obtain ⟨_, _, _, p⟩ := x; exact p.lt
 | dK kvs => obtain ⟨_, _, _, _, o, _, _, e, _⟩ := x; exact Heap.lt_size e
 | dT kvs => obtain ⟨_, _, _, _, o, _, _, e, _⟩ := x; exact Heap.lt_size e
 | set S n => obtain ⟨o, _, _, _, e, _⟩ := x; exact Heap.lt_size e
 | ins C dx fs => obtain ⟨_, _, _, e, _⟩ := x; exact Heap.lt_size e
 | own y => obtain ⟨_, e⟩ := x; exact Heap.lt_size e
 | xd fs => obtain ⟨_, ⟨_, _, _, e, _⟩, _⟩ := x; exact Heap.lt_size e
 | rng lo hi => obtain ⟨_, _, _, e⟩ := x; exact Heap.lt_size e
 | frz ob u => obtain ⟨e, _⟩ := x; exact Heap.lt_size e
 | tbl ps => exact Heap.lt_size (show h.get? a = some _ from x)
 | met f y => exact Heap.lt_size (show h.get? a = some _ from x)
 | ext φ => obtain ⟨_, ⟨_, e⟩, _⟩ := x; exact Heap.lt_size e
theorem Paired.mapP {α β : Type} {F G : α → β → Prop} : ∀ {l₁ : List α} {l₂ : List β}, Paired F l₁ l₂ → (∀ a b, F a b → G a b) → Paired G l₁ l₂
 | _, _, .nil, _ => .nil
 | _, _, .cons r t, f => .cons (f _ _ r) (Paired.mapP t f)
theorem ObjOk.stay (x : ObjOk P w H h a o) (k : ∀ b u, (b = a ∨ H b = some (.own a)) → h.get? b = some u → h'.get? b = some u)
  (ho : ∀ b, H b = some (.own a) → H' b = some (.own a)) (ht : ∀ b xs, H b = some (.tup xs) → H' b = some (.tup xs)) : ObjOk P w H' h' a o := by
 induction o with
 | lst xs => obtain ⟨z, its, n, r, e⟩ := x; exact ⟨z, its, n, r, k _ _ (.inl rfl) e⟩
 | tup xs => obtain ⟨z, its, r, ob, e, c⟩ := x; exact ⟨z, its, r, ob, k _ _ (.inl rfl) e, c⟩
 | dK kvs => obtain ⟨z, y, vs, r, ob, es, ep, e, c⟩ := x; exact ⟨z, y, vs, r, ob, es, ep, k _ _ (.inl rfl) e, c⟩
 | dT kvs =>
  obtain ⟨z, y, xs, r, ob, es, ep, e, c⟩ := x
  exact ⟨z, y, xs, Paired.mapP r fun p q z => ⟨z.1, ht _ _ z.2.1, z.2.2⟩, ob, es, ep, k _ _ (.inl rfl) e, c⟩
 | set S n => obtain ⟨ob, es, ep, t, e, c⟩ := x; exact ⟨ob, es, ep, t, k _ _ (.inl rfl) e, c⟩
 | ins C dx fs =>
  obtain ⟨d, z, ne, e, mA, ⟨od, es, ep, e2, c⟩, r⟩ := x
  exact ⟨ho _ d, z, ne, k _ _ (.inl rfl) e, mA, ⟨od, es, ep, k _ _ (.inr d) e2, c⟩, r⟩
 | own y => obtain ⟨ob, e⟩ := x; exact ⟨ob, k _ _ (.inl rfl) e⟩
 | xd fs => obtain ⟨mA, ⟨od, es, ep, e, c⟩, r⟩ := x; exact ⟨mA, ⟨od, es, ep, k _ _ (.inl rfl) e, c⟩, r⟩
 | rng lo hi => obtain ⟨t, u, v, e⟩ := x; exact ⟨t, u, v, k _ _ (.inl rfl) e⟩
 | frz ob u ih => obtain ⟨e, q⟩ := x; exact ⟨k _ _ (.inl rfl) e, ih q⟩
 | tbl ps =>
  have e : h.get? a = some { cls := .none, data := .fields ps } := x
  show h'.get? a = some { cls := .none, data := .fields ps }
  exact k a _ (.inl rfl) e
 | met f y =>
  have e : h.get? a = some (PySem.W.methodObj (.ref f) (.ref y)) := x
  show h'.get? a = some (PySem.W.methodObj (.ref f) (.ref y))
  exact k a _ (.inl rfl) e
 | ext φ => obtain ⟨p, ⟨o, e⟩, st⟩ := x; exact ⟨st _ _ p fun o q => k _ _ (.inl rfl) q, ⟨o, k _ _ (.inl rfl) e⟩, st⟩
theorem HOk.lt (x : HOk P w H h) (e : H a = some o) : a < h.objs.size := (x a o e).lt
theorem HOk.fresh (x : HOk P w H h) (e : h.objs.size ≤ a) : H a = none := by
 cases q : H a with
 | none => rfl
 | some u => exact absurd (Nat.lt_of_lt_of_le (x.lt q) e) (Nat.lt_irrefl _)
theorem HOk.kept (x : HOk P w H h) (k : ∀ b u, h.get? b = some u → h'.get? b = some u) : HOk P w H h' := fun a o e =>
 (x a o e).stay (fun b u _ q => k b u q) (fun _ q => q) fun _ _ q => q
theorem HOk.laid (x : HOk P w H h) (k : ∀ b u, h.get? b = some u → h'.get? b = some u) (hp : h.objs.size ≤ a) (new : ObjOk P w (upd H a o) h' a o) : HOk P w (upd H a o) h' := fun b u e => by
 have hn := x.fresh hp
 by_cases hb : b = a
 ·subst hb; rw [upd_same] at e; cases e; exact new
 ·rw [upd_ne hb] at e
  exact (x b u e).stay (fun c v _ q => k c v q) (fun c q => by rw [upd_ne (ne_of_none q hn)]; exact q) fun c xs q => by rw [upd_ne (ne_of_none q hn)]; exact q
end
def Rd (H : Hp) (a : Addr) (u : HO) : Prop := H a = some u ∨ ∃ o, H a = some (.frz o u)
theorem Rd.ok {P : Program} {w : World} {H : Hp} {h : Heap} {a : Addr} {u : HO} (r : Rd H a u) (x : HOk P w H h) : ObjOk P w H h a u := by
 rcases r with r | ⟨o, r⟩
 ·exact x a u r
 ·obtain ⟨_, q⟩ := x a _ r
  exact q
def Mut : Option HO → Prop
 | some (.lst _) => True
 | some (.dK _) => True
 | some (.dT _) => True
 | some (.set _ _) => True
 | some (.ins _ _ _) => True
 | some (.ext _) => True
 | _ => False
section
variable {P : Program} {w : World} {H : Hp} {h h' : Heap} {x e : Addr} {o' : HO}
theorem HOk.write (ok : HOk P w H h) (mu : Mut (H x)) (he : e = x ∨ H e = some (.own x)) (k : ∀ b u, b ≠ e → h.get? b = some u → h'.get? b = some u) (heo : ∃ u, h'.get? e = some u)
  (new : ObjOk P w (upd H x o') h' x o') : HOk P w (upd H x o') h' := fun b u q => by
 have nown : ∀ c y, H c = some (.own y) → c ≠ x := fun c y r z => by subst z; rw [r] at mu; exact mu
 have ntup : ∀ c xs, H c = some (.tup xs) → c ≠ x := fun c xs r z => by subst z; rw [r] at mu; exact mu
 by_cases hb : b = x
 ·subst hb; rw [upd_same] at q; cases q; exact new
 ·rw [upd_ne hb] at q
  by_cases hbe : b = e
  ·have q' : H b = some (.own x) := by
    rcases he with z | z
    ·exact absurd (hbe.trans z) hb
    ·rw [hbe]; exact z
   rw [q] at q'; cases q'
   obtain ⟨v, hv⟩ := heo
   exact ⟨v, by rw [hbe]; exact hv⟩
  ·refine (ok b u q).stay (fun c v hc r => k c v ?_ r) (fun c r => by rw [upd_ne (nown c b r)]; exact r) fun c xs r => by rw [upd_ne (ntup c xs r)]; exact r
   rcases hc with rfl | hc
   ·exact hbe
   ·rintro rfl
    rcases he with z | z
    ·exact nown c b hc z
    ·rw [hc] at z; cases z; exact hb rfl
end
structure Un (fs ex : List Addr) (H H' : Hp) (h h' : Heap) : Prop where
 keep : ∀ b o, h.get? b = some o → H b = none → b ∉ fs → b ∉ ex → h'.get? b = some o
 slot : ∀ b o, h.get? b = some o → H b = none → b ∈ fs → b ∉ ex → ∃ sl, h'.get? b = some { o with slots := sl }
 free : ∀ b o, h.get? b = some o → H b = none → b ∉ ex → H' b = none
 there : ∀ b o, h.get? b = some o → b ∉ ex → ∃ o', h'.get? b = some o'
 tups : ∀ b xs, H b = some (.tup xs) → H' b = some (.tup xs)
 frzs : ∀ b o u, H b = some (.frz o u) → H' b = some (.frz o u)
 tbls : ∀ b ps, H b = some (.tbl ps) → ∃ more, H' b = some (.tbl (ps ++ more))
section
variable {fs fs' ex ex' : List Addr} {H H1 H2 : Hp} {h h1 h2 h' : Heap} {a x e : Addr} {o : HO}
theorem Un.any (u : Un fs ex H H1 h h1) {b : Addr} {ob : Obj} (q : h.get? b = some ob) (n : H b = none) (hx : b ∉ ex) : ∃ sl, h1.get? b = some { ob with slots := sl } := by
 by_cases hb : b ∈ fs
 ·exact u.slot b ob q n hb hx
 ·exact ⟨ob.slots, u.keep b ob q n hb hx⟩
theorem Un.trans (a : Un fs ex H H1 h h1) (b : Un fs ex H1 H2 h1 h2) : Un fs ex H H2 h h2 where
 keep := fun c ob q n hc hx => b.keep c ob (a.keep c ob q n hc hx) (a.free c ob q n hx) hc hx
 slot := fun c ob q n hc hx => by
  obtain ⟨sl, e1⟩ := a.slot c ob q n hc hx
  obtain ⟨sl', e2⟩ := b.slot c _ e1 (a.free c ob q n hx) hc hx
  exact ⟨sl', e2⟩
 free := fun c ob q n hx => by
  obtain ⟨o', e1⟩ := a.there c ob q hx
  exact b.free c o' e1 (a.free c ob q n hx) hx
 there := fun c ob q hx => by
  obtain ⟨o', e1⟩ := a.there c ob q hx
  exact b.there c o' e1 hx
 tups := fun c xs q => b.tups c xs (a.tups c xs q)
 frzs := fun c ob xs q => b.frzs c ob xs (a.frzs c ob xs q)
 tbls := fun c ps q => by
  obtain ⟨m1, e1⟩ := a.tbls c ps q
  obtain ⟨m2, e2⟩ := b.tbls c _ e1
  exact ⟨m1 ++ m2, by rw [e2, Array.append_assoc]⟩
theorem Un.kept (k : ∀ b u, h.get? b = some u → h'.get? b = some u) : Un fs ex H H h h' :=
 ⟨fun b ob q _ _ _ => k b ob q, fun b ob q _ _ _ => ⟨ob.slots, k b ob q⟩, fun _ _ _ n _ => n, fun b ob q _ => ⟨ob, k b ob q⟩, fun _ _ q => q, fun _ _ _ q => q, fun _ ps q => ⟨#[], by rw [q]; simp⟩⟩
theorem Un.refl : Un fs ex H H h h := Un.kept fun _ _ q => q
theorem Un.laid (k : ∀ b u, h.get? b = some u → h'.get? b = some u) (hp : h.objs.size ≤ a) (hn : H a = none) : Un fs ex H (upd H a o) h h' where
 keep := fun b u q _ _ _ => k b u q
 slot := fun b u q _ _ _ => ⟨u.slots, k b u q⟩
 free := fun b u q n _ => by rw [upd_ne (Nat.ne_of_lt (Nat.lt_of_lt_of_le (Heap.lt_size q) hp))]; exact n
 there := fun b u q _ => ⟨u, k b u q⟩
 tups := fun b xs q => by rw [upd_ne (ne_of_none q hn)]; exact q
 frzs := fun b u xs q => by rw [upd_ne (ne_of_none q hn)]; exact q
 tbls := fun b ps q => ⟨#[], by rw [upd_ne (ne_of_none q hn), q]; simp⟩
theorem Un.write (mu : Mut (H x)) (he : e = x ∨ H e = some (.own x)) (k : ∀ b u, b ≠ e → h.get? b = some u → h'.get? b = some u) (heo : ∃ u, h'.get? e = some u) : Un fs ex H (upd H x o) h h' := by
 have hx : ∀ b, H b = none → b ≠ x := fun b n z => by subst z; rw [n] at mu; exact mu
 have hb : ∀ b, H b = none → b ≠ e := fun b n z => by
  subst z
  rcases he with r | r
  ·exact hx b n r
  ·rw [n] at r; cases r
 have hm : ∀ b u, H b = some u → ¬ Mut (some u) → b ≠ x := fun b u q nm z => by subst z; rw [q] at mu; exact nm mu
 refine ⟨fun b u q n _ _ => k b u (hb b n) q, fun b u q n _ _ => ⟨u.slots, k b u (hb b n) q⟩, fun b u q n _ => by rw [upd_ne (hx b n)]; exact n, fun b u q _ => ?_,
  fun b xs q => by rw [upd_ne (hm b _ q fun z => z)]; exact q, fun b u xs q => by rw [upd_ne (hm b _ q fun z => z)]; exact q, fun b ps q => ⟨#[], by rw [upd_ne (hm b _ q fun z => z), q]; simp⟩⟩
 by_cases hbe : b = e
 ·subst hbe; exact heo
 ·exact ⟨u, k b u hbe q⟩
end
def trk (h : Heap) (H : Hp) : List Addr := (List.range h.objs.size).filter fun a => (H a).isSome
def hidT (h : Heap) (H : Hp) : Heap := PySem.W.hideAll h (trk h H)
theorem hidT_size (h : Heap) (H : Hp) : (hidT h H).objs.size = h.objs.size := PySem.W.hideAll_size _ _
theorem hidT_get {h : Heap} {H : Hp} {b : Addr} {o : Obj} (e : h.get? b = some o) (n : H b = none) : (hidT h H).get? b = some o :=
 PySem.W.hideAll_get _ e fun hm => by
  have q : (H b).isSome = true := (List.mem_filter.mp hm).2
  rw [n] at q; simp at q
theorem of_hidT {h : Heap} {H : Hp} {b : Addr} {o : Obj} (e : (hidT h H).get? b = some o) : h.get? b = some o ∧ H b = none := by
 have e' : h.get? b = some o := PySem.W.of_hideAll (trk h H) e
 refine ⟨e', ?_⟩
 cases q : H b with
 | none => rfl
 | some x =>
  have hm : b ∈ trk h H := List.mem_filter.mpr ⟨List.mem_range.mpr (Heap.lt_size e'), by simp [q]⟩
  have z : (hidT h H).get? b = none := PySem.W.hideAll_none (trk h H) hm
  rw [z] at e; cases e
end L2
namespace L2
open PySem PySem.Spec PyProof.Rows
structure Mod (K : PySem.W.Frag) (mg : Str → Option Value) (base : Heap) : Prop where
 kin : K.In base
 glob : base.Ns mainGlobals mg
 blt : ∃ mb, base.Ns builtinsNs mb ∧ ∀ x : Str, x ≠ "__name__" → mb x = bootBuiltins x
 nolimit : base.NoLimit
structure Cx where
 prog : Program
 w : World
 K : PySem.W.Frag
 mg : Str → Option Value
 base : Heap
 A : Around
 N : List Str
 s₀ : Shared
 H₀ : Hp
 env : Env
 outer : List Env
 stack : List Env
 ex : List Addr
 fn : Str → Bool
 calm : Bool
 pn : List (Addr × Obj)
 xe : Value → Shared → Prop
def frs (l : List Env) : List Addr := l.filterMap (·.frame)
abbrev Cx.fs (X : Cx) : List Addr := frs X.outer
def Vis (sc : Scope) (x : Str) : Prop := sc.names.lookup x = some .local ∨ sc.names.lookup x = some .cell ∨ sc.names.lookup x = some .free
def Loc (sc : Scope) (x : Str) : Prop := sc.names.lookup x = some .local ∨ sc.names.lookup x = some .cell
def Look (env : Env) (h : Heap) (m : Str → Option Value) (x : Str) (u : Value) : Prop :=
 (env.kindOf x = some .local ∧ m x = some u) ∨ ((env.kindOf x = some .cell ∨ env.kindOf x = some .free) ∧ ∃ c, env.cells.lookup x = some c ∧ h.IsCell c (some u))
structure Cx.Ok (X : Cx) : Prop where
 mod : Mod X.K X.mg X.base
 kind : X.env.scope.kind = .function
 glob : X.env.globals = mainGlobals
 blt : X.env.builtins = builtinsNs
 above : X.s₀.heap.objs.size ≤ X.env.locals
 inj : ∀ x y c, X.env.cells.lookup x = some c → X.env.cells.lookup y = some c → x = y
 has : ∀ x, (X.env.kindOf x = some .cell ∨ X.env.kindOf x = some .free) → ∃ c, X.env.cells.lookup x = some c
 cab : ∀ x c, X.fn x = true → X.env.cells.lookup x = some c → X.s₀.heap.objs.size ≤ c
 hd : X.calm = true → X.A.handled = none
 frames : X.A.frames = some X.stack
 stk : X.stack = X.outer ∨ (X.stack = X.env :: X.outer ∧ X.env.frame = some X.env.locals)
 exf : ∀ b ∈ X.ex, b ≠ X.env.locals ∧ ∀ x c, X.env.cells.lookup x = some c → c ≠ b
 bs : ∀ b o, X.base.get? b = some o → X.s₀.heap.get? b = some o ∧ X.H₀ b = none
 bsz : X.base.objs.size ≤ X.s₀.heap.objs.size
 noex : ∀ b o, X.base.get? b = some o → b ∉ X.ex
 exfs : ∀ b ∈ X.ex, b ∉ X.fs
 funs : X.s₀.heap.FunFrames X.base X.outer
 frf : ∀ b ∈ X.fs, X.H₀ b = none
structure Inv (X : Cx) (pins : List (Addr × Obj)) (σ : List (Option V)) (H : Hp) (s : Shared) : Prop where
 ok : X.Ok
 os : s.os = X.s₀.os
 bare : AllBare s.gens
 base : Un X.fs X.ex X.H₀ H X.s₀.heap s.heap
 loc : ∃ m, s.heap.Ns X.env.locals m ∧ ∀ (i : Nat) (x : Str) (v : V), X.N[i]? = some x → σ[i]? = some (some v) → Vis X.env.scope x → ∃ u, RelV v u ∧ Look X.env s.heap m x u
 cell : ∀ x c, X.env.cells.lookup x = some c → ∃ v, s.heap.IsCell c v
 free : H X.env.locals = none
 freeC : ∀ x c, X.env.cells.lookup x = some c → H c = none
 pin : ∀ p ∈ X.pn ++ pins, s.heap.get? p.1 = some p.2 ∧ H p.1 = none ∧ p.1 ≠ X.env.locals ∧ p.1 ∉ X.fs ∧ ∀ v, p.2.data ≠ .cell v
 hok : HOk X.prog X.w H s.heap
 len : σ.length = X.N.length
section
variable {X : Cx} {pins : List (Addr × Obj)} {σ : List (Option V)} {H H' : Hp} {s : Shared} {h' : Heap}
theorem Cx.Ok.nofr (ok : X.Ok) {b : Addr} {o : Obj} (e : X.base.get? b = some o) : b ∉ X.fs := fun hb => by
 have := (ok.funs.mem hb).1
 rw [e] at this; cases this
theorem Inv.bs (I : Inv X pins σ H s) : ∀ b o, X.base.get? b = some o → s.heap.get? b = some o ∧ H b = none := fun b o e =>
 ⟨I.base.keep b o (I.ok.bs b o e).1 (I.ok.bs b o e).2 (I.ok.nofr e) (I.ok.noex b o e), I.base.free b o (I.ok.bs b o e).1 (I.ok.bs b o e).2 (I.ok.noex b o e)⟩
theorem Inv.bk (I : Inv X pins σ H s) : ∀ b o, X.base.get? b = some o → s.heap.get? b = some o := fun b o e => (I.bs b o e).1
theorem Inv.mod (I : Inv X pins σ H s) : Mod X.K X.mg X.base := I.ok.mod
theorem Inv.kIn (I : Inv X pins σ H s) : X.K.In s.heap := I.ok.mod.kin.keeps I.bk
theorem Inv.lt (I : Inv X pins σ H s) : X.env.locals < s.heap.objs.size := let ⟨_, hn, _⟩ := I.loc; hn.lt
theorem Inv.sz (I : Inv X pins σ H s) : X.s₀.heap.objs.size ≤ s.heap.objs.size := Nat.le_trans I.ok.above (Nat.le_of_lt I.lt)
theorem Inv.nofs (I : Inv X pins σ H s) {a : Addr} (h : s.heap.objs.size ≤ a) : a ∉ X.fs := fun hb => by
 obtain ⟨_, o, ho, _⟩ := I.ok.funs.mem hb
 exact absurd (Nat.lt_of_lt_of_le (Heap.lt_size ho) (Nat.le_trans I.sz h)) (Nat.lt_irrefl _)
theorem Inv.cne (I : Inv X pins σ H s) : ∀ x c, X.env.cells.lookup x = some c → c ≠ X.env.locals := fun x c e z => by
 obtain ⟨v, o, ho, hd⟩ := I.cell x c e
 obtain ⟨m, ⟨o', es, ep, ho', hd', _⟩, _⟩ := I.loc
 rw [z, ho'] at ho; cases ho; rw [hd'] at hd; cases hd
theorem Inv.funs (I : Inv X pins σ H s) : s.heap.FunFrames X.base X.outer := by
 have all : ∀ (l : List Env), (∀ b ∈ frs l, b ∈ X.fs) → X.s₀.heap.FunFrames X.base l → s.heap.FunFrames X.base l := by
  intro l
  induction l with
  | nil => intro _ _; trivial
  | cons env r ih =>
   intro hs hl
   obtain ⟨hk, ⟨L, o, hf, hn, ho, hd⟩, hr⟩ := hl
   have hL : L ∈ X.fs := hs L (by unfold frs; rw [List.filterMap_cons, hf]; exact List.mem_cons_self)
   obtain ⟨sl, e⟩ := I.base.slot L o ho (I.ok.frf L hL) hL fun z => I.ok.exfs L z hL
   exact ⟨hk, ⟨L, _, hf, hn, e, hd⟩, ih (fun b hb => hs b (by unfold frs; rw [List.filterMap_cons, hf]; exact List.mem_cons_of_mem _ hb)) hr⟩
 exact all X.outer (fun _ hb => hb) I.ok.funs
theorem Inv.stack (I : Inv X pins σ H s) : s.heap.FunFrames X.base X.stack := by
 rcases I.ok.stk with e | ⟨e, hf⟩
 ·rw [e]; exact I.funs
 ·rw [e]
  obtain ⟨m, hn, _⟩ := I.loc
  refine .cons (by rw [I.ok.kind]; decide) hf hn ?_ I.funs
  exact Heap.get?_none_of_le (Nat.le_trans I.ok.bsz I.ok.above)
theorem Inv.stkSub (I : Inv X pins σ H s) : ∀ b ∈ frs X.stack, b ∈ X.env.locals :: X.fs := fun b hb => by
 rcases I.ok.stk with e | ⟨e, hf⟩
 ·rw [e] at hb; exact List.mem_cons_of_mem _ hb
 ·rw [e] at hb
  unfold frs at hb
  rw [List.filterMap_cons, hf] at hb
  exact hb
theorem Inv.stkFree (I : Inv X pins σ H s) : ∀ b ∈ frs X.stack, H b = none := fun b hb => by
 rcases List.mem_cons.mp (I.stkSub b hb) with e | hb
 ·rw [e]; exact I.free
 ·obtain ⟨_, o, ho, _⟩ := I.ok.funs.mem hb
  exact I.base.free b o ho (I.ok.frf b hb) fun z => I.ok.exfs b z hb
theorem Inv.step {g' : Array GenState} {t' : Nat} {d' : Drawn} {ch : List Addr} (I : Inv X pins σ H s)
  (hch : ∀ b ∈ ch, (b ∈ X.ex ∨ X.s₀.heap.objs.size ≤ b) ∧ b ≠ X.env.locals ∧ (∀ x c, X.env.cells.lookup x = some c → c ≠ b) ∧ ∀ p ∈ X.pn ++ pins, p.1 ≠ b)
  (keep : ∀ b o, b ≠ X.env.locals → b ∉ X.fs → b ∉ ch → s.heap.get? b = some o → H b = none → h'.get? b = some o)
  (slot : ∀ b o, b ≠ X.env.locals → b ∈ X.fs → b ∉ ch → s.heap.get? b = some o → H b = none → ∃ sl, h'.get? b = some { o with slots := sl }) (free : ∀ b o, b ∉ ch → s.heap.get? b = some o → H b = none → H' b = none)
  (there : ∀ b o, b ∉ ch → s.heap.get? b = some o → ∃ o', h'.get? b = some o')
  (tups : ∀ b xs, H b = some (.tup xs) → H' b = some (.tup xs)) (frzs : ∀ b o u, H b = some (.frz o u) → H' b = some (.frz o u)) (tbls : ∀ b ps, H b = some (.tbl ps) → ∃ more, H' b = some (.tbl (ps ++ more)))
  (ns : ∀ m, s.heap.Ns X.env.locals m → h'.Ns X.env.locals m) (hok : HOk X.prog X.w H' h') (hg : AllBare g') :
  Inv X pins σ H' { s with heap := h', gens := g', drawn := d', toks := t' } := by
 have neL : ∀ b o, X.s₀.heap.get? b = some o → b ≠ X.env.locals := fun b o e => Nat.ne_of_lt (Nat.lt_of_lt_of_le (Heap.lt_size e) I.ok.above)
 have neC : ∀ b o, X.s₀.heap.get? b = some o → b ∉ X.ex → b ∉ ch := fun b o e hx hb => by
  rcases (hch b hb).1 with z | z
  ·exact hx z
  ·exact absurd (Nat.lt_of_lt_of_le (Heap.lt_size e) z) (Nat.lt_irrefl _)
 have cellK : ∀ x c, X.env.cells.lookup x = some c → ∀ v, s.heap.IsCell c v → h'.IsCell c v := fun x c e v ⟨o, ho, hd⟩ => by
  have nch : c ∉ ch := fun z => (hch c z).2.2.1 x c e rfl
  by_cases hc : c ∈ X.fs
  ·obtain ⟨sl, q⟩ := slot c o (I.cne x c e) hc nch ho (I.freeC x c e)
   exact ⟨_, q, hd⟩
  ·exact ⟨o, keep c o (I.cne x c e) hc nch ho (I.freeC x c e), hd⟩
 refine ⟨I.ok, I.os, hg, ⟨fun b o e n hb hx => ?_, fun b o e n hb hx => ?_, fun b o e n hx => ?_, fun b o e hx => ?_, fun b xs e => tups b xs (I.base.tups b xs e), fun b o xs e => frzs b o xs (I.base.frzs b o xs e), fun b ps e => ?_⟩, ?_, fun x c e => ?_, ?_, fun x c e => ?_, fun p hp => ?_, hok, I.len⟩
 ·exact keep b o (neL b o e) hb (neC b o e hx) (I.base.keep b o e n hb hx) (I.base.free b o e n hx)
 ·obtain ⟨sl, e1⟩ := I.base.slot b o e n hb hx
  obtain ⟨sl', e2⟩ := slot b _ (neL b o e) hb (neC b o e hx) e1 (I.base.free b o e n hx)
  exact ⟨sl', e2⟩
 ·obtain ⟨o', e1⟩ := I.base.there b o e hx
  exact free b o' (neC b o e hx) e1 (I.base.free b o e n hx)
 ·obtain ⟨o', e1⟩ := I.base.there b o e hx
  exact there b o' (neC b o e hx) e1
 ·obtain ⟨m1, e1⟩ := I.base.tbls b ps e
  obtain ⟨m2, e2⟩ := tbls b _ e1
  exact ⟨m1 ++ m2, by rw [e2, Array.append_assoc]⟩
 ·obtain ⟨m, hn, hl⟩ := I.loc
  refine ⟨m, ns m hn, fun i x v e1 e2 e3 => ?_⟩
  obtain ⟨u, r, l⟩ := hl i x v e1 e2 e3
  refine ⟨u, r, ?_⟩
  rcases l with l | ⟨k, c, e, z⟩
  ·exact .inl l
  ·exact .inr ⟨k, c, e, cellK x c e _ z⟩
 ·obtain ⟨v, z⟩ := I.cell x c e
  exact ⟨v, cellK x c e v z⟩
 ·obtain ⟨m, ⟨o, _, _, ho, _⟩, _⟩ := I.loc
  exact free _ o (fun z => (hch _ z).2.1 rfl) ho I.free
 ·obtain ⟨v, o, ho, hd⟩ := I.cell x c e
  exact free c o (fun z => (hch c z).2.2.1 x c e rfl) ho (I.freeC x c e)
 ·obtain ⟨e, n, ne, nf, d⟩ := I.pin p hp
  have nch : p.1 ∉ ch := fun z => (hch p.1 z).2.2.2 p hp rfl
  exact ⟨keep p.1 p.2 ne nf nch e n, free p.1 p.2 nch e n, ne, nf, d⟩
theorem Inv.un {t' : Nat} (I : Inv X pins σ H s) (u : Un X.fs [] H H' s.heap h') (hok : HOk X.prog X.w H' h') : Inv X pins σ H' { s with heap := h', toks := t' } := by
 obtain ⟨m, ⟨o, es, ep, ho, r⟩, _⟩ := id I.loc
 obtain ⟨sl, hL⟩ := u.any ho I.free (by simp)
 exact I.step (g' := s.gens) (d' := s.drawn) (ch := []) (fun _ z => nomatch z) (fun b o _ hb _ e n => u.keep b o e n hb (by simp)) (fun b o _ hb _ e n => u.slot b o e n hb (by simp)) (fun b o _ e n => u.free b o e n (by simp)) (fun b o _ e => u.there b o e (by simp)) u.tups u.frzs u.tbls (fun m' hm => by
  obtain ⟨o', es', ep', ho', r'⟩ := hm
  rw [ho] at ho'; cases ho'
  exact ⟨_, es', ep', hL, r'⟩) hok I.bare
theorem Inv.call {g' : Array GenState} {t' : Nat} {d' : Drawn} {ch : List Addr} (I : Inv X pins σ H s) (u : Un (frs X.stack) ch H H' s.heap h') (hok : HOk X.prog X.w H' h') (hg : AllBare g')
  (hch : ∀ b ∈ ch, (b ∈ X.ex ∨ X.s₀.heap.objs.size ≤ b) ∧ b ≠ X.env.locals ∧ (∀ x c, X.env.cells.lookup x = some c → c ≠ b) ∧ ∀ p ∈ X.pn ++ pins, p.1 ≠ b) :
  Inv X pins σ H' { s with heap := h', gens := g', drawn := d', toks := t' } := by
 obtain ⟨m, ⟨o, es, ep, ho, r⟩, _⟩ := id I.loc
 obtain ⟨sl, hL⟩ := u.any ho I.free fun z => (hch _ z).2.1 rfl
 exact I.step (ch := ch) hch (fun b o hL hb hc e n => u.keep b o e n (fun z => (List.mem_cons.mp (I.stkSub b z)).elim hL hb) hc) (fun b o _ _ hc e n => u.any e n hc) (fun b o hc e n => u.free b o e n hc) (fun b o hc e => u.there b o e hc) u.tups u.frzs u.tbls (fun m' hm => by
  obtain ⟨o', es', ep', ho', r'⟩ := hm
  rw [ho] at ho'; cases ho'
  exact ⟨_, es', ep', hL, r'⟩) hok hg
theorem Inv.turned {t' : Nat} {it : Addr} (I : Inv X pins σ H s) (k : ∀ b o, b ≠ it → s.heap.get? b = some o → h'.get? b = some o) (hn : H it = none) (hL : it ≠ X.env.locals)
  (h1 : it ∈ X.ex ∨ X.s₀.heap.objs.size ≤ it) (h2 : ∀ x c, X.env.cells.lookup x = some c → c ≠ it) (h3 : ∀ p ∈ X.pn ++ pins, p.1 ≠ it) : Inv X pins σ H { s with heap := h', toks := t' } := by
 have nit : ∀ b u, H b = some u → b ≠ it := fun b u e z => by rw [z, hn] at e; cases e
 refine I.step (g' := s.gens) (d' := s.drawn) (ch := [it]) (fun b hb => ?_) (fun b o _ _ hc e _ => k b o (fun z => hc (by simp [z])) e) (fun b o _ _ hc e _ => ⟨o.slots, k b o (fun z => hc (by simp [z])) e⟩) (fun _ _ _ _ n => n)
  (fun b o hc e => ⟨o, k b o (fun z => hc (by simp [z])) e⟩) (fun _ _ e => e) (fun _ _ _ e => e) (fun b ps e => ⟨#[], by rw [e]; simp⟩) (fun m hm => ?_) (fun b u e => ?_) I.bare
 ·have e : b = it := by simpa using hb
  subst e
  exact ⟨h1, hL, h2, h3⟩
 ·obtain ⟨o, es, ep, ho, r⟩ := hm
  exact ⟨o, es, ep, k _ o (Ne.symm hL) ho, r⟩
 ·refine (I.hok b u e).stay (fun c v hc q => k c v ?_ q) (fun _ q => q) fun _ _ q => q
  rcases hc with z | z
  ·rw [z]; exact nit b u e
  ·exact nit c _ z
theorem Inv.tok (I : Inv X pins σ H s) (t : Nat) : Inv X pins σ H { s with toks := t } := I.un (h' := s.heap) (t' := t) Un.refl I.hok
theorem Inv.kept {t' : Nat} (I : Inv X pins σ H s) (k : ∀ b u, s.heap.get? b = some u → h'.get? b = some u) : Inv X pins σ H { s with heap := h', toks := t' } := I.un (Un.kept k) (I.hok.kept k)
theorem Inv.laid {a : Addr} {o : HO} {t' : Nat} (I : Inv X pins σ H s) (k : ∀ b u, s.heap.get? b = some u → h'.get? b = some u) (hp : s.heap.objs.size ≤ a) (new : ObjOk X.prog X.w (upd H a o) h' a o) :
  Inv X pins σ (upd H a o) { s with heap := h', toks := t' } := I.un (Un.laid k hp (I.hok.fresh hp)) (I.hok.laid k hp new)
theorem Inv.write {x e : Addr} {o : HO} {t' : Nat} (I : Inv X pins σ H s) (mu : Mut (H x)) (he : e = x ∨ H e = some (.own x)) (k : ∀ b u, b ≠ e → s.heap.get? b = some u → h'.get? b = some u) (heo : ∃ u, h'.get? e = some u)
  (new : ObjOk X.prog X.w (upd H x o) h' x o) : Inv X pins σ (upd H x o) { s with heap := h', toks := t' } := I.un (Un.write mu he k heo) (I.hok.write mu he k heo new)
theorem Inv.pins_of {pins' : List (Addr × Obj)} (I : Inv X pins σ H s) (h : ∀ p ∈ pins', s.heap.get? p.1 = some p.2 ∧ H p.1 = none ∧ p.1 ≠ X.env.locals ∧ p.1 ∉ X.fs ∧ ∀ v, p.2.data ≠ .cell v) : Inv X pins' σ H s :=
 ⟨I.ok, I.os, I.bare, I.base, I.loc, I.cell, I.free, I.freeC, fun p hp => (List.mem_append.mp hp).elim (fun z => I.pin p (List.mem_append_left _ z)) (h p), I.hok, I.len⟩
theorem nodup_ix {N : List Str} (hN : N.Nodup) {i j : Nat} {x : Str} (a : N[i]? = some x) (b : N[j]? = some x) : i = j := by
 obtain ⟨h1, e1⟩ := List.getElem?_eq_some_iff.mp a
 obtain ⟨h2, e2⟩ := List.getElem?_eq_some_iff.mp b
 exact (List.getElem_inj hN).mp (e1.trans e2.symm)
theorem store_ok2 {M : Model} {A : Around} {E : Value → Shared → Prop} {i : Nat} {x : Str} {v : V} {u : Value} {Q : Unit → Shared → Prop} (I : Inv X pins σ H s) (hN : X.N.Nodup) (hi : X.N[i]? = some x) (hx : Loc X.env.scope x) (r : RelV v u)
  (h : ∀ s', Inv X pins (σ.set i (some v)) H s' → (∃ a, Heap.SameBut a s.heap s'.heap ∧ (a = X.env.locals ∨ X.env.cells.lookup x = some a)) → Q () s') (hf : X.fn x = true ∨ X.env.scope.names.lookup x = some .local := by first | exact .inl rfl | exact .inr rfl | assumption) : wpAny M A (storeName X.env x u) Q E s := by
 obtain ⟨m, hn, hl⟩ := id I.loc
 have hcls : (X.env.scope.kind == .class || (X.env.scope.kind == .module && X.env.locals != X.env.globals)) = false := by rw [I.ok.kind]; rfl
 have hiσ : i < σ.length := by rw [I.len]; exact (List.getElem?_eq_some_iff.mp hi).1
 have cne := I.cne
 have tracked : ∀ {a : Addr} {h' : Heap}, (∃ o, s.heap.get? a = some o ∧ H a = none) → Heap.SameBut a s.heap h' → HOk X.prog X.w H h' := fun {a h'} ha hs b ob e => by
  obtain ⟨_, _, hfree⟩ := ha
  refine (I.hok b ob e).stay (fun c w' hc q => (hs.2 c ?_).trans q) (fun _ q => q) fun _ _ q => q
  rintro rfl
  rcases hc with rfl | hc
  ·rw [hfree] at e; cases e
  ·rw [hfree] at hc; cases hc
 rcases hx with hk | hk
 ·refine wpAny_storeName_local hk hn (fun h' hn' hs => ?_) hcls
  obtain ⟨oL, _, _, hoL, _⟩ := id hn
  refine h _ ⟨I.ok, I.os, I.bare, ⟨fun b o e n hb hx => ?_, fun b o e n hb hx => ?_, I.base.free, fun b o e hx => ?_, I.base.tups, I.base.frzs, I.base.tbls⟩, ⟨_, hn', fun j y v' e1 e2 e3 => ?_⟩, fun y c e => ?_, I.free, I.freeC, fun p hp => ?_, tracked ⟨oL, hoL, I.free⟩ hs, by simpa using I.len⟩ ⟨_, hs, .inl rfl⟩
  ·exact (hs.2 b (Nat.ne_of_lt (Nat.lt_of_lt_of_le (Heap.lt_size e) I.ok.above))).trans (I.base.keep b o e n hb hx)
  ·obtain ⟨sl, e1⟩ := I.base.slot b o e n hb hx
   exact ⟨sl, (hs.2 b (Nat.ne_of_lt (Nat.lt_of_lt_of_le (Heap.lt_size e) I.ok.above))).trans e1⟩
  ·obtain ⟨o', e1⟩ := I.base.there b o e hx
   exact ⟨o', (hs.2 b (Nat.ne_of_lt (Nat.lt_of_lt_of_le (Heap.lt_size e) I.ok.above))).trans e1⟩
  ·by_cases hj : j = i
   ·subst hj
    rw [hi] at e1; cases e1
    rw [List.getElem?_set_self hiσ] at e2
    cases e2
    exact ⟨u, r, .inl ⟨hk, by simp⟩⟩
   ·rw [List.getElem?_set_ne (Ne.symm hj)] at e2
    obtain ⟨u', r', q⟩ := hl j y v' e1 e2 e3
    refine ⟨u', r', ?_⟩
    rcases q with ⟨k, e⟩ | ⟨k, c, e, z⟩
    ·refine .inl ⟨k, ?_⟩
     have : y ≠ x := fun e => hj (nodup_ix hN e1 (e ▸ hi))
     simp [this, e]
    ·exact .inr ⟨k, c, e, z.sameBut hs (cne y c e)⟩
  ·obtain ⟨w', z⟩ := I.cell y c e
   exact ⟨w', z.sameBut hs (cne y c e)⟩
  ·obtain ⟨e, n, ne, nf, d⟩ := I.pin p hp
   exact ⟨(hs.2 p.1 ne).trans e, n, ne, nf, d⟩
 ·have hfn : X.fn x = true := by
   rcases hf with z | z
   ·exact z
   ·rw [z] at hk; cases hk
  obtain ⟨c, hc⟩ := I.ok.has x (.inl hk)
  obtain ⟨w', z⟩ := I.cell x c hc
  refine wpAny_storeName_cell I.ok.kind hk hc z (fun h' hc' hs => ?_)
  obtain ⟨oc, hoc, hocd⟩ := id z
  refine h { s with heap := h' } ⟨I.ok, I.os, I.bare, ⟨fun b o e n hb hx => ?_, fun b o e n hb hx => ?_, I.base.free, fun b o e hx => ?_, I.base.tups, I.base.frzs, I.base.tbls⟩, ⟨m, hn.sameBut hs (Ne.symm (cne x c hc)), fun j y v' e1 e2 e3 => ?_⟩, fun y c' e => ?_, I.free, I.freeC, fun p hp => ?_, tracked ⟨oc, hoc, I.freeC x c hc⟩ hs, by simpa using I.len⟩ ⟨c, hs, .inr hc⟩
  ·exact (hs.2 b (Nat.ne_of_lt (Nat.lt_of_lt_of_le (Heap.lt_size e) (I.ok.cab x c hfn hc)))).trans (I.base.keep b o e n hb hx)
  ·obtain ⟨sl, e1⟩ := I.base.slot b o e n hb hx
   exact ⟨sl, (hs.2 b (Nat.ne_of_lt (Nat.lt_of_lt_of_le (Heap.lt_size e) (I.ok.cab x c hfn hc)))).trans e1⟩
  ·obtain ⟨o', e1⟩ := I.base.there b o e hx
   exact ⟨o', (hs.2 b (Nat.ne_of_lt (Nat.lt_of_lt_of_le (Heap.lt_size e) (I.ok.cab x c hfn hc)))).trans e1⟩
  ·by_cases hj : j = i
   ·subst hj
    rw [hi] at e1; cases e1
    rw [List.getElem?_set_self hiσ] at e2
    cases e2
    exact ⟨u, r, .inr ⟨.inl hk, c, hc, hc'⟩⟩
   ·rw [List.getElem?_set_ne (Ne.symm hj)] at e2
    obtain ⟨u', r', q⟩ := hl j y v' e1 e2 e3
    refine ⟨u', r', ?_⟩
    rcases q with q | ⟨k, c', e, z'⟩
    ·exact .inl q
    ·refine .inr ⟨k, c', e, z'.sameBut hs ?_⟩
     rintro rfl
     exact hj (nodup_ix hN e1 (I.ok.inj _ _ _ e hc ▸ hi))
  ·by_cases hcc : c' = c
   ·subst hcc; exact ⟨_, hc'⟩
   ·obtain ⟨w2, z2⟩ := I.cell y c' e
    exact ⟨w2, z2.sameBut hs hcc⟩
  ·obtain ⟨e, n, ne, nf, d⟩ := I.pin p hp
   refine ⟨(hs.2 p.1 ?_).trans e, n, ne, nf, d⟩
   intro q
   rw [q, hoc] at e
   have q' : oc = p.2 := Option.some.inj e
   exact d w' (by rw [← q']; exact hocd)
theorem store_ok {M : Model} {A : Around} {E : Value → Shared → Prop} {i : Nat} {x : Str} {v : V} {u : Value} {Q : Unit → Shared → Prop} (I : Inv X pins σ H s) (hN : X.N.Nodup) (hi : X.N[i]? = some x) (hx : Loc X.env.scope x) (r : RelV v u)
  (h : ∀ s', Inv X pins (σ.set i (some v)) H s' → Q () s') (hf : X.fn x = true ∨ X.env.scope.names.lookup x = some .local := by first | exact .inl rfl | exact .inr rfl | assumption) : wpAny M A (storeName X.env x u) Q E s :=
 store_ok2 I hN hi hx r (fun s' I' _ => h s' I') hf
theorem Inv.call' {s' : Shared} {ch : List Addr} (I : Inv X pins σ H s) (ho : s'.os = s.os) (u : Un (frs X.stack) ch H H' s.heap s'.heap) (hok : HOk X.prog X.w H' s'.heap) (hg : AllBare s'.gens)
  (hch : ∀ b ∈ ch, (b ∈ X.ex ∨ X.s₀.heap.objs.size ≤ b) ∧ b ≠ X.env.locals ∧ (∀ x c, X.env.cells.lookup x = some c → c ≠ b) ∧ ∀ p ∈ X.pn ++ pins, p.1 ≠ b) : Inv X pins σ H' s' := by
 obtain ⟨h', g', d', t', o'⟩ := s'
 have e : o' = s.os := ho
 subst e
 exact I.call (g' := g') (t' := t') (d' := d') u hok hg hch
end
abbrev XK := Value → Option Addr → Hp → Prop
abbrev St := List (Option V)
abbrev VK := V → Hp → Prop
abbrev TE := St → Hp → VK → Prop
abbrev TT := St → Hp → (Bool → Hp → Prop) → Prop
abbrev TA := St → Hp → (List V → Hp → Prop) → Prop
structure Ends where
 nx : St → Hp → Prop
 rt : VK
 bk : St → Hp → Prop := fun _ _ => False
 ct : St → Hp → Prop := fun _ _ => False
abbrev TS := Ends → St → Hp → Prop
def EP (X : Cx) (pins : List (Addr × Obj)) (σ : St) (Q : VK) (u : Value) (s' : Shared) : Prop := ∃ v H', Inv X pins σ H' s' ∧ RelV v u ∧ Q v H'
def TP (X : Cx) (pins : List (Addr × Obj)) (σ : St) (Q : Bool → Hp → Prop) (b : Bool) (s' : Shared) : Prop := ∃ H', Inv X pins σ H' s' ∧ Q b H'
def AP (X : Cx) (pins : List (Addr × Obj)) (σ : St) (Q : List V → Hp → Prop) (us : List Value) (s' : Shared) : Prop := ∃ vs H', Inv X pins σ H' s' ∧ Vals vs us ∧ Q vs H'
def SP (X : Cx) (pins : List (Addr × Obj)) (D : Ends) (f : Flow) (s' : Shared) : Prop :=
 match f with
 | .next => ∃ σ' H', Inv X pins σ' H' s' ∧ D.nx σ' H'
 | .brk => ∃ σ' H', Inv X pins σ' H' s' ∧ D.bk σ' H'
 | .cont => ∃ σ' H', Inv X pins σ' H' s' ∧ D.ct σ' H'
 | .ret u => ∃ v σ' H', Inv X pins σ' H' s' ∧ RelV v u ∧ D.rt v H'
def PE (X : Cx) (e : Expr) (t : TE) : Prop :=
 ∀ (pins : List (Addr × Obj)) (s : Shared) (σ : St) (H : Hp) (Q : VK), Inv X pins σ H s → t σ H Q → wpAny (model X.prog X.w) X.A (eval e X.env) (EP X pins σ Q) X.xe s
def PT (X : Cx) (e : Expr) (t : TT) : Prop :=
 ∀ (pins : List (Addr × Obj)) (s : Shared) (σ : St) (H : Hp) (Q : Bool → Hp → Prop), Inv X pins σ H s → t σ H Q → wpAny (model X.prog X.w) X.A (isTrue e X.env (eval e X.env)) (TP X pins σ Q) X.xe s
def PW (X : Cx) (e : Expr) (t : TT) : Prop :=
 ∀ (whole : Sem Value) (pins : List (Addr × Obj)) (s : Shared) (σ : St) (H : Hp) (Q : Bool → Hp → Prop), Inv X pins σ H s → t σ H Q → wpAny (model X.prog X.w) X.A (isTrue e X.env whole) (TP X pins σ Q) X.xe s
theorem PW.pt {X : Cx} {e : Expr} {t : TT} (h : PW X e t) : PT X e t := h _
def PA (X : Cx) (es : List Expr) (t : TA) : Prop :=
 ∀ (pos : Pos) (pins : List (Addr × Obj)) (s : Shared) (σ : St) (H : Hp) (Q : List V → Hp → Prop), Inv X pins σ H s → t σ H Q → wpAny (model X.prog X.w) X.A (spliced (backTo pos (starEach es X.env))) (AP X pins σ Q) X.xe s
def PS (X : Cx) (st : Stmt) (t : TS) : Prop :=
 ∀ (pins : List (Addr × Obj)) (s : Shared) (σ : St) (H : Hp) (D : Ends), Inv X pins σ H s → t D σ H → wpAny (model X.prog X.w) X.A (exec st X.env) (SP X pins D) X.xe s
def PSs (X : Cx) (st : List Stmt) (t : TS) : Prop :=
 ∀ (pins : List (Addr × Obj)) (s : Shared) (σ : St) (H : Hp) (D : Ends), Inv X pins σ H s → t D σ H → wpAny (model X.prog X.w) X.A (execs st X.env) (SP X pins D) X.xe s
theorem thn {α : Type} {t : Sem α} {Q Q' : α → Shared → Prop} {M : Model} {A : Around} {E : Value → Shared → Prop} {s : Shared} (h : wpAny M A t Q E s) (hQ : ∀ a s, Q a s → Q' a s) : wpAny M A t Q' E s := wpAny_mono h hQ fun _ _ x => x
end L2
namespace L2
open PySem PySem.Spec PyProof.Rows
section
variable {X : Cx}
def tVar (i : Nat) : TE := fun σ H Q => ∃ v, σ[i]? = some (some v) ∧ Q v H
def tC (v : V) : TE := fun _ H Q => Q v H
theorem pe_var {i : Nat} {x : Str} {pos : Pos} (hN : X.N[i]? = some x) (hv : Vis X.env.scope x) (hd : (x == ("__debug__" : Str)) = false := by decide) (hcd : (x == ("__classdict__" : Str)) = false := by decide) : PE X (.Name x pos) (tVar i) := by
 intro pins s σ H Q I h
 obtain ⟨v, e, h⟩ := h
 obtain ⟨m, hn, hl⟩ := I.loc
 obtain ⟨u, r, l⟩ := hl i x v hN e hv
 have fin : EP X pins σ Q u s := ⟨v, H, I, r, h⟩
 rcases l with ⟨hk, hm⟩ | ⟨hk, c, hc, hcell⟩
 ·exact wpAny_Name (wpAny_loadName_local I.ok.kind hk hn hm fin) hd
 ·rcases hk with hk | hk
  ·exact wpAny_Name (wpAny_loadName_cell I.ok.kind hk hc hcell fin) hd
  ·exact wpAny_Name (wpAny_loadName_free I.ok.kind hk hc hcell fin hcd) hd
theorem pe_int {i j pos} : PE X (.Constant (.int i) j pos) (tC (.int i)) := fun _ _ _ H _ I h => wpAny_Constant_int ⟨.int i, H, I.tok _, ⟨_, rfl⟩, h⟩
theorem pe_bl {b j pos} : PE X (.Constant (.bool b) j pos) (tC (.bl b)) := fun _ _ _ H _ I h => Constant_bool ⟨.bl b, H, I, rfl, h⟩
theorem pe_non {j pos} : PE X (.Constant .none j pos) (tC .non) := fun _ _ _ H _ I h => Constant_none ⟨.non, H, I, rfl, h⟩
theorem pe_str {x j pos} : PE X (.Constant (.str x) j pos) (tC (.str x)) := fun _ _ _ H _ I h => Calls.Constant_str ⟨.str x, H, I.tok _, ⟨_, rfl⟩, h⟩
def Gl (X : Cx) (x : Str) : Prop := X.env.kindOf x = some .globalImplicit
theorem ld_glob {E : Value → Shared → Prop} {pins : List (Addr × Obj)} {s : Shared} {σ : St} {H : Hp} {x : Str} {u : Value} {pos : Pos} {Q : Value → Shared → Prop} (I : Inv X pins σ H s) (hg : Gl X x) (hm : X.mg x = some u) (h : Q u s)
  (hd : (x == ("__debug__" : Str)) = false := by decide) : wpAny (model X.prog X.w) X.A (eval (.Name x pos) X.env) Q E s :=
 Calls.Name_function_global I.ok.kind hg (Calls.loadGlobal_global (by rw [I.ok.glob]; exact I.mod.glob.keeps I.bk) hm h) hd
theorem ld_blt {E : Value → Shared → Prop} {pins : List (Addr × Obj)} {s : Shared} {σ : St} {H : Hp} {x : Str} {u : Value} {pos : Pos} {Q : Value → Shared → Prop} (I : Inv X pins σ H s) (hg : Gl X x) (hm : X.mg x = none) (hv : bootBuiltins x = some u) (h : Q u s)
  (hn : x ≠ "__name__" := by decide) (hd : (x == ("__debug__" : Str)) = false := by decide) : wpAny (model X.prog X.w) X.A (eval (.Name x pos) X.env) Q E s := by
 obtain ⟨mb, h1, h2⟩ := I.mod.blt
 exact Calls.Name_function_global I.ok.kind hg (Calls.loadGlobal_builtin (by rw [I.ok.glob]; exact I.mod.glob.keeps I.bk) hm (by rw [I.ok.blt]; exact h1.keeps I.bk) ((h2 x hn).trans hv) h) hd
theorem pe_glob {x : Str} {v : V} {u : Value} {pos : Pos} (hg : Gl X x) (hm : X.mg x = some u) (r : RelV v u) (hd : (x == ("__debug__" : Str)) = false := by decide) : PE X (.Name x pos) (tC v) :=
 fun _ _ _ H _ I h => ld_glob I hg hm ⟨v, H, I, r, h⟩ hd
theorem pe_bltn {x : Str} {v : V} {u : Value} {pos : Pos} (hg : Gl X x) (hm : X.mg x = none) (hv : bootBuiltins x = some u) (r : RelV v u) (hn : x ≠ "__name__" := by decide) (hd : (x == ("__debug__" : Str)) = false := by decide) : PE X (.Name x pos) (tC v) :=
 fun _ _ _ H _ I h => ld_blt I hg hm hv ⟨v, H, I, r, h⟩ hn hd
variable {a b : Expr} {ta tb : TE} {pos : Pos}
def PC (X : Cx) (op : CmpOp) (a b : Expr) (t : TE) : Prop :=
 ∀ (pins : List (Addr × Obj)) (s : Shared) (σ : St) (H : Hp) (Q : VK), Inv X pins σ H s → t σ H Q →
  wpAny (model X.prog X.w) X.A (eval a X.env) (fun v s₁ => wpAny (model X.prog X.w) X.A (eval b X.env) (fun u s₂ => wpAny (model X.prog X.w) X.A (compareOp op v u) (EP X pins σ Q) X.xe s₂) X.xe s₁) X.xe s
def tB (t : TE) : TT := fun σ H Q => t σ H fun x H1 => ∃ c, x = .bl c ∧ Q c H1
theorem pt_cmp {op : CmpOp} {t : TE} (h : PC X op a b t) (h1 : behindInMarks op b = false := by first | exact nobehind _ (by decide) (by decide) | rfl) : PT X (.Compare a [op] [b] pos) (tB t) := by
 intro pins s σ H Q I hw
 refine wpAny_isTrue_Compare1 (thn (h pins s σ H _ I hw) fun v s1 h1 => thn h1 fun u s2 h2 => thn h2 fun c s3 ⟨x, H1, I1, r1, q1⟩ => ?_) h1
 obtain ⟨d, rfl, q⟩ := q1
 cases r1
 exact wpAny_truthy_bool ⟨H1, I1, q⟩
theorem pt_val {e : Expr} {t : TE} (h : PE X e t) (he : ∀ whole, isTrue e X.env whole = (do let v ← whole; standAt e.pos; holding [v] (truthy v)) := by intro _; rfl) : PT X e (tB t) := by
 intro pins s σ H Q I hw
 refine isTrue_plain (thn (h pins s σ H _ I hw) fun v s1 ⟨x, H1, I1, r1, q1⟩ => ?_) (he _)
 obtain ⟨d, rfl, q⟩ := q1
 cases r1
 exact wpAny_truthy_bool ⟨H1, I1, q⟩
variable {tA tB' : TT} {rest : List Expr}
def tAnd (t u : TT) : TT := fun σ H Q => t σ H fun c H1 => if c = true then u σ H1 Q else Q false H1
def tOr (t u : TT) : TT := fun σ H Q => t σ H fun c H1 => if c = true then Q true H1 else u σ H1 Q
def tNot (t : TT) : TT := fun σ H Q => t σ H fun c H1 => Q (!c) H1
theorem pw_and1 (ha : PT X a tA) : PW X (.BoolOp .And [a] pos) tA := by
 intro wh pins s σ H Q I h
 refine isTrue_and (thn (ha pins s σ H Q I h) fun c s1 e => ?_)
 cases c with
 | true => exact isTrue_and_nil e
 | false => exact e
theorem pw_or1 (ha : PT X a tA) : PW X (.BoolOp .Or [a] pos) tA := by
 intro wh pins s σ H Q I h
 refine isTrue_or (thn (ha pins s σ H Q I h) fun c s1 e => ?_)
 cases c with
 | false => exact isTrue_or_nil e
 | true => exact e
theorem pw_and (ha : PT X a tA) (hb : PW X (.BoolOp .And (b :: rest) pos) tB') : PW X (.BoolOp .And (a :: b :: rest) pos) (tAnd tA tB') := by
 intro wh pins s σ H Q I h
 refine isTrue_and (thn (ha pins s σ H _ I h) fun c s1 ⟨H1, I1, q1⟩ => ?_)
 cases c with
 | true => exact hb wh pins s1 σ H1 Q I1 q1
 | false => exact ⟨H1, I1, q1⟩
theorem pw_or (ha : PT X a tA) (hb : PW X (.BoolOp .Or (b :: rest) pos) tB') : PW X (.BoolOp .Or (a :: b :: rest) pos) (tOr tA tB') := by
 intro wh pins s σ H Q I h
 refine isTrue_or (thn (ha pins s σ H _ I h) fun c s1 ⟨H1, I1, q1⟩ => ?_)
 cases c with
 | true => exact ⟨H1, I1, q1⟩
 | false => exact hb wh pins s1 σ H1 Q I1 q1
theorem pt_not (ha : PT X a tA) : PT X (.UnaryOp .Not a pos) (tNot tA) := by
 intro pins s σ H Q I h
 exact isTrue_not (ha pins s σ H (fun c H1 => Q (!c) H1) I h)
def tAndV (ta tb : TE) : TE := fun σ H Q => ta σ H fun x H1 => ∃ c, x = .bl c ∧ if c = true then tb σ H1 Q else Q (.bl false) H1
def tNotV (ta : TE) : TE := fun σ H Q => ta σ H fun x H1 => ∃ c, x = .bl c ∧ Q (.bl (!c)) H1
theorem pe_one {op} {t : TE} (h : PE X a t) : PE X (.BoolOp op [a] pos) t := fun pins s σ H Q I hw => BoolOp_one (h pins s σ H Q I hw)
theorem pe_and (ha : PE X a ta) (hb : PE X (.BoolOp .And (b :: rest) pos) tb) : PE X (.BoolOp .And (a :: b :: rest) pos) (tAndV ta tb) := by
 intro pins s σ H Q I h
 refine BoolOp_and (thn (ha pins s σ H _ I h) fun v s1 ⟨x, H1, I1, r1, q1⟩ => ?_)
 obtain ⟨c, rfl, q1⟩ := q1
 cases r1
 refine wpAny_truthy_bool ?_
 cases c with
 | true => exact hb pins s1 σ H1 Q I1 q1
 | false => exact ⟨.bl false, H1, I1, rfl, q1⟩
theorem pe_not (ha : PE X a ta) : PE X (.UnaryOp .Not a pos) (tNotV ta) := by
 intro pins s σ H Q I h
 refine UnaryOp_ (thn (ha pins s σ H _ I h) fun v s1 ⟨x, H1, I1, r1, q1⟩ => ?_)
 obtain ⟨c, rfl, q1⟩ := q1
 cases r1
 exact not_of (wpAny_truthy_bool ⟨.bl (!c), H1, I1, rfl, q1⟩)
end
end L2
namespace L2
open PySem PySem.Spec PyProof.Rows
def SqL (K : PySem.W.Frag) (H : Hp) (a : Addr) (xs : List V) : Prop :=
 Rd H a (.lst xs) ∨
  ∃ (o : Obj) (its : Array Value) (n : Nat), K.lookup a = some o ∧ o.cls = .type "list" ∧ o.dict = none ∧ o.data = .seq its n ∧ its.size ≤ sizeLine ∧ Vals xs its.toList
def SqT (K : PySem.W.Frag) (H : Hp) (a : Addr) (xs : List V) : Prop :=
 Rd H a (.tup xs) ∨
  ∃ (o : Obj) (its : Array Value) (n : Nat), K.lookup a = some o ∧ o.cls = .type "tuple" ∧ o.data = .seq its n ∧ its.size ≤ sizeLine ∧ Vals xs its.toList
def absV : Value → Option V
 | .none => some .non
 | .bool b => some (.bl b)
 | .int i _ => some (.int i)
 | .str x _ => some (.str x)
 | .bytes b _ => some (.byt b)
 | .float b _ => some (.flt b)
 | .ref a => some (.ref a)
 | .type n => some (.ty n)
 | _ => none
theorem RelV.abs {x : V} {u : Value} (r : RelV x u) : absV u = some x := by
 cases x with
 | non => cases r; rfl
 | bl _ => cases r; rfl
 | int _ => obtain ⟨t, rfl⟩ := r; rfl
 | str _ => obtain ⟨t, rfl⟩ := r; rfl
 | byt _ => obtain ⟨t, rfl⟩ := r; rfl
 | flt _ => obtain ⟨t, rfl⟩ := r; rfl
 | ref _ => cases r; rfl
 | ty _ => cases r; rfl
theorem RelV.inj {x y : V} {u : Value} (r : RelV x u) (q : RelV y u) : x = y := Option.some.inj (r.abs.symm.trans q.abs)
theorem Vals.inj : ∀ {xs ys : List V} {us : List Value}, Vals xs us → Vals ys us → xs = ys
 | _, _, _, .nil, .nil => rfl
 | _, _, _, .cons r t, .cons r' t' => by rw [r.inj r', Vals.inj t t']
section
variable {X : Cx} {pins : List (Addr × Obj)} {σ : St} {H : Hp} {s : Shared} {a : Addr} {xs ys : List V}
theorem SqL.of {K : PySem.W.Frag} (h : H a = some (.lst xs)) : SqL K H a xs := .inl (.inl h)
theorem SqT.of {K : PySem.W.Frag} (h : H a = some (.tup xs)) : SqT K H a xs := .inl (.inl h)
theorem Inv.list (I : Inv X pins σ H s) (h : SqL X.K H a xs) : ∃ its : List Value, Vals xs its ∧ PlainL s.heap a its.toArray ∧ xs.length ≤ sizeLine := by
 rcases h with h | ⟨o, its, n, hk, hc, hd, hs, hz, r⟩
 ·obtain ⟨z, its, n, r, e⟩ := h.ok I.hok
  exact ⟨its, r, ⟨_, n, e, rfl, rfl, rfl⟩, z⟩
 ·refine ⟨its.toList, r, ⟨o, n, I.kIn a o hk, hc, hd, by simpa using hs⟩, ?_⟩
  have e := r.length
  simp only [Array.length_toList] at e
  omega
theorem Inv.tuple (I : Inv X pins σ H s) (h : SqT X.K H a xs) : ∃ its : List Value, Vals xs its ∧ IsTup s.heap a its.toArray ∧ xs.length ≤ sizeLine := by
 rcases h with h | ⟨o, its, n, hk, hc, hs, hz, r⟩
 ·obtain ⟨z, its, r, p⟩ := h.ok I.hok
  exact ⟨its, r, p, z⟩
 ·refine ⟨its.toList, r, ⟨o, I.kIn a o hk, hc, n, by simpa using hs⟩, ?_⟩
  have e := r.length
  simp only [Array.length_toList] at e
  omega
theorem Inv.list_inj (I : Inv X pins σ H s) (h : SqL X.K H a xs) (h' : SqL X.K H a ys) : xs = ys := by
 obtain ⟨its, r, ⟨o, n, e, _, _, d⟩, _⟩ := I.list h
 obtain ⟨its', r', ⟨o', n', e', _, _, d'⟩, _⟩ := I.list h'
 rw [e] at e'; cases e'
 rw [d] at d'
 injection d' with d1 _
 have : its = its' := by simpa using congrArg Array.toList d1
 subst this
 exact r.inj r'
end
abbrev Cx.wish (X : Cx) (E : Value → Shared → Prop) : Cx := { X with xe := E }
abbrev Cx.nox (X : Cx) : Cx := X.wish fun _ _ => False
theorem Cx.Ok.wish {X : Cx} (ok : X.Ok) (E : Value → Shared → Prop) : (X.wish E).Ok :=
 ⟨ok.mod, ok.kind, ok.glob, ok.blt, ok.above, ok.inj, ok.has, ok.cab, ok.hd, ok.frames, ok.stk, ok.exf, ok.bs, ok.bsz, ok.noex, ok.exfs, ok.funs, ok.frf⟩
theorem Cx.Ok.unwish {X : Cx} {E : Value → Shared → Prop} (ok : (X.wish E).Ok) : X.Ok :=
 ⟨ok.mod, ok.kind, ok.glob, ok.blt, ok.above, ok.inj, ok.has, ok.cab, ok.hd, ok.frames, ok.stk, ok.exf, ok.bs, ok.bsz, ok.noex, ok.exfs, ok.funs, ok.frf⟩
section
variable {X : Cx} {pins : List (Addr × Obj)} {σ : St} {H : Hp} {s : Shared} {E : Value → Shared → Prop}
theorem Inv.wish (I : Inv X pins σ H s) (E : Value → Shared → Prop) : Inv (X.wish E) pins σ H s := ⟨I.ok.wish E, I.os, I.bare, I.base, I.loc, I.cell, I.free, I.freeC, I.pin, I.hok, I.len⟩
theorem Inv.unwish (I : Inv (X.wish E) pins σ H s) : Inv X pins σ H s := ⟨I.ok.unwish, I.os, I.bare, I.base, I.loc, I.cell, I.free, I.freeC, I.pin, I.hok, I.len⟩
theorem SP.unwish {D : Ends} {f : Flow} {s' : Shared} (h : SP (X.wish E) pins D f s') : SP X pins D f s' := by
 cases f with
 | next => obtain ⟨σ', H', I, q⟩ := h; exact ⟨σ', H', I.unwish, q⟩
 | brk => obtain ⟨σ', H', I, q⟩ := h; exact ⟨σ', H', I.unwish, q⟩
 | cont => obtain ⟨σ', H', I, q⟩ := h; exact ⟨σ', H', I.unwish, q⟩
 | ret u => obtain ⟨v, σ', H', I, r, q⟩ := h; exact ⟨v, σ', H', I.unwish, r, q⟩
theorem PSs.nox {st : List Stmt} {t : TS} (h : PSs X.nox st t) : PSs X st t := fun pins s σ H D I hw =>
 wpAny_mono (h pins s σ H D (I.wish _) hw) (fun _ _ q => q.unwish) fun _ _ z => False.elim z
end
section
variable {X : Cx} {st : Stmt} {rest : List Stmt} {t u : TS} {e : Expr} {te : TE} {pos : Pos}
def tNext : TS := fun D σ H => D.nx σ H
def tSeq (t u : TS) : TS := fun D σ H => t { D with nx := u D } σ H
theorem pss_nil : PSs X [] tNext := fun _ _ σ H _ I h => wpAny_execs_nil ⟨σ, H, I, h⟩
theorem pss_cons (h1 : PS X st t) (h2 : PSs X rest u) : PSs X (st :: rest) (tSeq t u) := by
 intro pins s σ H D I h
 refine wpAny_execs_cons (thn (h1 pins s σ H { D with nx := u D } I h) fun f s1 q => ?_)
 cases f with
 | next =>
  obtain ⟨σ', H', I', q⟩ := q
  exact h2 pins s1 σ' H' D I' q
 | ret v => exact q
 | brk => exact q
 | cont => exact q
theorem pss_one (h1 : PS X st t) : PSs X [st] t := by
 intro pins s σ H D I h
 refine wpAny_execs_cons (thn (h1 pins s σ H D I h) fun f s1 q => ?_)
 cases f with
 | next => exact wpAny_execs_nil q
 | ret v => exact q
 | brk => exact q
 | cont => exact q
theorem Inv.quiet {pins : List (Addr × Obj)} {σ : St} {H : Hp} {s : Shared} (I : Inv X pins σ H s) : interactive X.env = false := by simp [interactive, I.ok.kind]
def tDrop (te : TE) : TS := fun D σ H => te σ H fun _ H1 => D.nx σ H1
theorem ps_expr (he : PE X e te) (hs : swapsWith e none pos.line X.env = pure false := by rfl) : PS X (.Expr e pos) (tDrop te) := by
 intro pins s σ H D I h
 exact wpAny_Expr_any (thn (he pins s σ H _ I h) fun v s1 ⟨x, H1, I1, r1, q1⟩ => ⟨σ, H1, I1, q1⟩) I.quiet hs
def tRet (te : TE) : TS := fun D σ H => te σ H D.rt
theorem ps_ret (he : PE X e te) : PS X (.Return (some e) pos) (tRet te) := by
 intro pins s σ H D I h
 exact wpAny_Return_some (thn (he pins s σ H _ I h) fun v s1 ⟨x, H1, I1, r1, q1⟩ => ⟨x, σ, H1, I1, r1, q1⟩)
def tIfS (c : TT) (t u : TS) : TS := fun D σ H => c σ H fun b H1 => if b = true then t D σ H1 else u D σ H1
theorem ps_if {c : Expr} {a b : List Stmt} {tc : TT} (hc : PT X c tc) (ha : PSs X a t) (hb : PSs X b u) : PS X (.If c a b pos) (tIfS tc t u) := by
 intro pins s σ H D I h
 refine wpAny_If (thn (hc pins s σ H _ I h) fun d s1 ⟨H1, I1, q1⟩ => ?_)
 cases d with
 | true => exact ha pins s1 σ H1 D I1 q1
 | false => exact hb pins s1 σ H1 D I1 q1
end
abbrev TG := V → St → Hp → (St → Hp → Prop) → Prop
abbrev TGs := List V → St → Hp → (St → Hp → Prop) → Prop
def PG (X : Cx) (target : Expr) (t : TG) : Prop :=
 ∀ (pins : List (Addr × Obj)) (s : Shared) (σ : St) (H : Hp) (v : V) (u : Value) (Q : St → Hp → Prop), Inv X pins σ H s → RelV v u → t v σ H Q →
  wpAny (model X.prog X.w) X.A (assign target X.env u) (fun _ s' => ∃ σ' H', Inv X pins σ' H' s' ∧ Q σ' H') X.xe s
def PGs (X : Cx) (ts : List Expr) (t : TGs) : Prop :=
 ∀ (pins : List (Addr × Obj)) (s : Shared) (σ : St) (H : Hp) (vs : List V) (us : List Value) (Q : St → Hp → Prop), Inv X pins σ H s → Vals vs us → t vs σ H Q →
  wpAny (model X.prog X.w) X.A (assignInOrder ((assignEach ts X.env).map (·.2)) us) (fun _ s' => ∃ σ' H', Inv X pins σ' H' s' ∧ Q σ' H') X.xe s
abbrev TSet := V → V → V → Hp → (Hp → Prop) → Prop
def PSet (X : Cx) (t : TSet) : Prop :=
 ∀ (pins : List (Addr × Obj)) (s : Shared) (σ : St) (H : Hp) (o i v : V) (ov iv u : Value) (Q : Hp → Prop), Inv X pins σ H s → RelV o ov → RelV i iv → RelV v u → t o i v H Q →
  wpAny (model X.prog X.w) X.A (setItem ov iv u) (fun _ s' => ∃ H', Inv X pins σ H' s' ∧ Q H') X.xe s
section
variable {X : Cx} {pos : Pos}
def gName (i : Nat) : TG := fun v σ H Q => Q (σ.set i (some v)) H
theorem pg_name {i : Nat} {x : Str} (hN : X.N.Nodup) (hi : X.N[i]? = some x) (hx : Loc X.env.scope x) (hf : X.fn x = true ∨ X.env.scope.names.lookup x = some .local := by first | exact .inl rfl | exact .inr rfl | assumption) : PG X (.Name x pos) (gName i) := by
 intro pins s σ H v u Q I r h
 exact wpAny_assign_Name (store_ok I hN hi hx r (fun s' I' => ⟨_, H, I', h⟩) hf)
def gNil : TGs := fun vs σ H Q => vs = [] ∧ Q σ H
def gCons (t : TG) (u : TGs) : TGs := fun vs σ H Q => ∃ v r, vs = v :: r ∧ t v σ H fun σ' H' => u r σ' H' Q
theorem pgs_nil : PGs X [] gNil := by
 intro pins s σ H vs us Q I r h
 obtain ⟨e, h⟩ := h
 subst e
 cases r
 exact assignInOrder_nil ⟨σ, H, I, h⟩
theorem pgs_cons {e : Expr} {es : List Expr} {t : TG} {u : TGs} (h1 : PG X e t) (h2 : PGs X es u)
  (hs : (assignEach (e :: es) X.env).map (·.2) = assign e X.env :: (assignEach es X.env).map (·.2) := by rfl) : PGs X (e :: es) (gCons t u) := by
 intro pins s σ H vs us Q I r h
 obtain ⟨v, vr, e1, h⟩ := h
 subst e1
 cases r with
 | cons r rr =>
  rw [hs]
  refine assignInOrder_cons (thn (h1 pins s σ H _ _ _ I r h) fun _ s1 ⟨σ1, H1, I1, q1⟩ => ?_)
  exact h2 pins s1 σ1 H1 _ _ Q I1 rr q1
def gTup (K : PySem.W.Frag) (n : Nat) (t : TGs) : TG := fun v σ H Q => ∃ a xs, v = .ref a ∧ SqT K H a xs ∧ xs.length = n ∧ t xs σ H Q
theorem pg_tup {es : List Expr} {k : Nat} {t : TGs} {n : Nat} (hc : X.calm = true) (h : PGs X es t)
  (hn : (assignEach es X.env).length = n := by rfl) (hst : (assignEach es X.env).findIdx? (·.1) = none := by rfl) : PG X (.Tuple es k pos) (gTup X.K n t) := by
 intro pins s σ H v u Q I r hw
 obtain ⟨a, xs, e1, hq, hl, hw⟩ := hw
 subst e1
 cases r
 obtain ⟨its, rv, ht, hz⟩ := I.tuple hq
 refine assign_Tuple_tuple (I.ok.hd hc) ht (by simp [hn, ← hl, rv.length]) hst fun h' hx => ?_
 have I1 : Inv X pins σ H { s with heap := h' } := I.kept (t' := s.toks) fun b o e => hx b o (Nat.ne_of_lt (Heap.lt_size e)) e
 exact h pins _ σ H xs _ Q I1 (by simpa using rv) hw
def gSub (to ti : TE) (t : TSet) : TG := fun v σ H Q => to σ H fun o H1 => ti σ H1 fun i H2 => t o i v H2 fun H3 => Q σ H3
theorem pg_sub {o i : Expr} {to ti : TE} {t : TSet} (ho : PE X o to) (hi : PE X i ti) (hs : PSet X t)
  (ha : ∀ v, assign (.Subscript o i pos) X.env v = (do
   let ov ← holding [v] (eval o X.env)
   let iv ← holding [v, ov] (eval i X.env)
   standAt pos
   holding [v, ov, iv] (setItem ov iv v)
   release [v, ov, iv] []) := by intro _; rfl) : PG X (.Subscript o i pos) (gSub to ti t) := by
 intro pins s σ H v u Q I r h
 rw [ha]
 refine wpAny_bind (wpAny_holding (thn (ho pins s σ H _ I h) fun ov s1 ⟨x, H1, I1, r1, q1⟩ => ?_))
 refine wpAny_bind (wpAny_holding (thn (hi pins s1 σ H1 _ I1 q1) fun iv s2 ⟨y, H2, I2, r2, q2⟩ => ?_))
 refine wpAny_bind (wpAny_standAt (wpAny_bind (wpAny_holding (thn (hs pins s2 σ H2 x y v ov iv u _ I2 r1 r2 r q2) fun _ s3 ⟨H3, I3, q3⟩ => ?_))))
 exact wpAny_release ⟨σ, H3, I3, q3⟩
def tAsg (te : TE) (g : TG) : TS := fun D σ H => te σ H fun x H1 => g x σ H1 D.nx
theorem ps_asg {tg e : Expr} {te : TE} {g : TG} (he : PE X e te) (hg : PG X tg g) (hs : swapsWithSole [tg] e pos.line X.env = pure false := by rfl) (hw : swappedStores [tg] e X.env = pure none := by rfl)
  (h1 : (assignEach [tg] X.env).map (·.2) = [assign tg X.env] := by rfl) : PS X (.Assign [tg] e pos) (tAsg te g) := by
 intro pins s σ H D I h
 refine wpAny_Assign_stores (thn (he pins s σ H _ I h) fun v s1 ⟨x, H1, I1, r1, q1⟩ => ?_) hs hw
 rw [h1]
 exact thn (hg pins s1 σ H1 x v _ I1 r1 q1) fun _ s2 q => q
theorem ps_set {i : Nat} {x : Str} {e : Expr} {te : TE} {pos' : Pos} (hN : X.N.Nodup) (hi : X.N[i]? = some x) (hx : Loc X.env.scope x) (he : PE X e te) (hs : swapsWith e (some (.Name x pos')) pos.line X.env = pure false := by rfl) (hf : X.fn x = true ∨ X.env.scope.names.lookup x = some .local := by first | exact .inl rfl | exact .inr rfl | assumption) :
  PS X (.Assign [.Name x pos'] e pos) (tAsg te (gName i)) := by
 intro pins s σ H D I h
 refine wpAny_Assign_Name (thn (he pins s σ H _ I h) fun v s1 ⟨y, H1, I1, r1, q1⟩ => ?_) hs
 exact store_ok I1 hN hi hx r1 (fun s2 I2 => ⟨_, H1, I2, q1⟩) hf
end
section
variable {X : Cx} {pos : Pos}
def tWhile (c : TT) (tb : TS) : TS := fun D σ H => ∃ W : Nat → St → Hp → Prop, (∃ m, W m σ H) ∧ ∀ m σ H, W m σ H →
 c σ H fun b H1 => if b = true then ∃ N : St → Hp → Prop, (∀ σ' H', N σ' H' → ∃ m', m' < m ∧ W m' σ' H') ∧ tb { D with nx := N, ct := N, bk := D.nx } σ H1 else D.nx σ H1
theorem ps_while {c : Expr} {body : List Stmt} {tc : TT} {tb : TS} (hp : PassesOwn (model X.prog X.w) X.A X.env X.xe) (hc : PT X c tc) (hb : PSs X body tb) : PS X (.While c body [] pos) (tWhile tc tb) := by
 intro pins s σ H D I h
 obtain ⟨W, ⟨m0, w0⟩, turn⟩ := h
 refine wpAny_While (codeAny_whileLoop (fun n s' => ∃ σ' H', Inv X pins σ' H' s' ∧ W n σ' H') ?_ m0 ⟨σ, H, I, w0⟩)
 rintro n s1 ⟨σ1, H1, I1, w1⟩
 refine wpAny_passesOwn hp (thn (hc pins s1 σ1 H1 _ I1 (turn n σ1 H1 w1)) fun b s2 ⟨H2, I2, q2⟩ => ?_)
 cases b with
 | true =>
  obtain ⟨N, hN, q2⟩ := q2
  rw [if_pos rfl]
  refine wpAny_passesOwn hp (thn (hb pins s2 σ1 H2 _ I2 q2) fun f s3 q3 => ?_)
  cases f with
  | next =>
   obtain ⟨σ3, H3, I3, n3⟩ := q3
   obtain ⟨m', hm, w3⟩ := hN σ3 H3 n3
   exact ⟨m', hm, σ3, H3, I3, w3⟩
  | cont =>
   obtain ⟨σ3, H3, I3, n3⟩ := q3
   obtain ⟨m', hm, w3⟩ := hN σ3 H3 n3
   exact ⟨m', hm, σ3, H3, I3, w3⟩
  | brk => exact q3
  | ret v => exact q3
 | false =>
  rw [if_neg Bool.false_ne_true]
  exact wpAny_execs_nil ⟨σ1, H2, I2, q2⟩
end
structure It where
 go : Nat → Hp → Prop
 yld : Nat → Hp → V → Hp → Prop
 stop : Nat → Hp → Prop
def FpOk (X : Cx) (pins : List (Addr × Obj)) (H : Hp) (b : Addr) : Prop :=
 H b = none ∧ b ≠ X.env.locals ∧ b ∉ X.fs ∧ (b ∈ X.ex ∨ X.s₀.heap.objs.size ≤ b) ∧ (∀ x c, X.env.cells.lookup x = some c → c ≠ b) ∧ ∀ p ∈ X.pn ++ pins, p.1 ≠ b
theorem Inv.fpOk {X : Cx} {pins : List (Addr × Obj)} {σ : St} {H H' : Hp} {s : Shared} {b : Addr} (I : Inv X pins σ H s) (hb : s.heap.objs.size ≤ b) (hn : H' b = none) : FpOk X pins H' b := by
 refine ⟨hn, Nat.ne_of_gt (Nat.lt_of_lt_of_le I.lt hb), I.nofs hb, .inr (Nat.le_trans I.sz hb), fun x c e z => ?_, fun p hp z => ?_⟩
 ·obtain ⟨v, q⟩ := I.cell x c e
  exact absurd (Nat.lt_of_lt_of_le q.lt (by rw [z]; exact hb)) (Nat.lt_irrefl _)
 ·exact absurd (Nat.lt_of_lt_of_le (Heap.lt_size (I.pin p hp).1) (by rw [z]; exact hb)) (Nat.lt_irrefl _)
structure Turn (P : Program) (w : World) (K : PySem.W.Frag) (tg : Expr) (J : It) (fp : List Addr) (it : Addr) (tn : Nat → Heap → Prop) : Prop where
 mem : it ∈ fp
 obj : ∀ i h, tn i h → ∀ b ∈ fp, ∃ o, h.get? b = some o ∧ ∀ v, o.data ≠ .cell v
 keep : ∀ i h h', tn i h → (∀ b ∈ fp, ∀ o, h.get? b = some o → h'.get? b = some o) → tn i h'
 item : ∀ (X : Cx), X.prog = P → X.w = w → X.K = K → X.calm = true → ∀ (i : Nat) (pins : List (Addr × Obj)) (s : Shared) (σ : St) (H : Hp) (E : Value → Shared → Prop), Inv X pins σ H s → (∀ b ∈ fp, FpOk X pins H b) → tn i s.heap → J.go i H →
  wpAny (model P w) X.A (pyNext (.ref it)) (fun r s1 => ∃ u, r = some u ∧
   wpAny (model P w) X.A (letOwnedTupleGo tg (.ref it) u) (fun _ s2 => ∃ x H', Inv X pins σ H' s2 ∧ RelV x u ∧ J.yld i H x H' ∧ tn (i + 1) s2.heap ∧ ∀ b ∈ fp, H' b = none) E s1) E s
 done : ∀ (X : Cx), X.prog = P → X.w = w → X.K = K → X.calm = true → ∀ (i : Nat) (pins : List (Addr × Obj)) (s : Shared) (σ : St) (H : Hp) (E : Value → Shared → Prop), Inv X pins σ H s → (∀ b ∈ fp, FpOk X pins H b) → tn i s.heap → J.stop i H →
  wpAny (model P w) X.A (pyNext (.ref it)) (fun r s1 => r = none ∧ Inv X pins σ H s1) E s
 self : ∀ (A : Around) (i : Nat) (s : Shared) (Q : Value → Shared → Prop) (E : Value → Shared → Prop), tn i s.heap → Q (.ref it) s → wpAny (model P w) A (pyIter (.ref it)) Q E s
abbrev TI := St → Hp → (It → Hp → Prop) → Prop
def PIE (X : Cx) (pins : List (Addr × Obj)) (σ : St) (tg : Expr) (R : It → Hp → Prop) (itv : Value) (s2 : Shared) : Prop :=
 ∃ (it : Addr) (fp : List Addr) (tn : Nat → Heap → Prop) (J : It) (H' : Hp), itv = .ref it ∧ Inv X pins σ H' s2 ∧ Turn X.prog X.w X.K tg J fp it tn ∧ tn 0 s2.heap ∧ (∀ b ∈ fp, FpOk X pins H' b) ∧ R J H'
def PI (X : Cx) (tg iter : Expr) (wi : TI) : Prop :=
 ∀ (pins : List (Addr × Obj)) (s : Shared) (σ : St) (H : Hp) (R : It → Hp → Prop), Inv X pins σ H s → wi σ H R →
  wpAny (model X.prog X.w) X.A (eval iter X.env) (fun v s1 => wpAny (model X.prog X.w) X.A (pyIter v) (PIE X pins σ tg R) X.xe s1) X.xe s
theorem go_of {M : Model} {A : Around} {E : Value → Shared → Prop} {s : Shared} {tg : Expr} {it : Addr} {u : Value} {o : Obj} {n : String} {vs : Array Value} {Q : Unit → Shared → Prop} (ho : s.heap.get? it = some o) (hc : o.cls = .type n) (hd : o.data = .fields vs)
    (hn : ["enumerate", "zip", "dict_itemiterator", "dict_reverseitemiterator", "odict_iterator", "itertools.zip_longest", "itertools.pairwise"].contains n = false) (hQ : Q () s) : wpAny M A (letOwnedTupleGo tg (.ref it) u) Q E s := by
  unfold letOwnedTupleGo
  cases tg <;> first
    | exact wpAny_pure hQ
    | (cases u <;> first
        | exact wpAny_pure hQ
        | (refine wpAny_bind (wpAny_load ho ?_)
           rw [hc, hd]
           show wpAny M A (if (["enumerate", "zip", "dict_itemiterator", "dict_reverseitemiterator", "odict_iterator", "itertools.zip_longest", "itertools.pairwise"].contains n && vs[0]? == some (rawInt _)) = true then _ else _) Q E s
           rw [if_neg (by intro h; rw [hn, Bool.false_and] at h; cases h)]
           exact wpAny_pure hQ))
def Itl (K : PySem.W.Frag) (a : Addr) : It :=
 ⟨fun i H => ∃ xs x, SqL K H a xs ∧ xs[i]? = some x, fun i H x H' => H' = H ∧ ∀ xs, SqL K H a xs → xs[i]? = some x, fun i H => ∃ xs, SqL K H a xs ∧ xs.length ≤ i⟩
def Itr (lo : Int) (n : Nat) : It := ⟨fun i _ => i < n, fun i H x H' => H' = H ∧ x = .int (lo + i), fun i _ => n ≤ i⟩
theorem turn_list {P : Program} {w : World} {K : PySem.W.Frag} {tg : Expr} (a it : Addr) : Turn P w K tg (Itl K a) [it] it (fun i h => h.IsListIter it a i) where
 mem := by simp
 obj := fun i h st b hb => by
  have e : b = it := by simpa using hb
  subst e
  obtain ⟨o, e, c, d⟩ := st
  exact ⟨o, e, fun v z => by rw [d] at z; cases z⟩
 keep := fun i h h' st k => st.at fun o e => k it (by simp) o e
 item := by
  intro X hP hw hK hc i pins s σ H E I hf st hg
  subst hP hw hK
  obtain ⟨xs, x, hq, hx⟩ := hg
  obtain ⟨its, rv, p, hz⟩ := I.list hq
  obtain ⟨u, hu, ru⟩ := rv.get hx
  obtain ⟨f0, f1, f2, f3, f4, f5⟩ := hf it (by simp)
  refine wpAny_pyNext_list_item st p.isList (x := u) (by simpa using hu) fun h' st' sb => ?_
  have I1 : Inv X pins σ H { s with heap := h' } := I.turned (t' := s.toks) (fun b o hb e => (sb.2 b hb).trans e) f0 f1 f3 f4 f5
  obtain ⟨o, e, c, d⟩ := id st'
  exact ⟨u, rfl, go_of (s := { s with heap := h' }) e c d (by decide) ⟨x, H, I1, ru, ⟨rfl, fun ys hy => by rw [I.list_inj hy hq]; exact hx⟩, st', fun b hb => (hf b hb).1⟩⟩
 done := by
  intro X hP hw hK hc i pins s σ H E I hf st hg
  subst hP hw hK
  obtain ⟨xs, hq, hx⟩ := hg
  obtain ⟨its, rv, p, hz⟩ := I.list hq
  obtain ⟨f0, f1, f2, f3, f4, f5⟩ := hf it (by simp)
  have hl := rv.length
  exact wpAny_pyNext_list_end (I.ok.hd hc) st p.isList (by simp; omega) fun h' eb => ⟨rfl, I.turned (t' := s.toks) (fun b o hb e => eb b o hb e) f0 f1 f3 f4 f5⟩
 self := fun _ _ _ _ _ st h => wpAny_pyIter_listiter st h
theorem turn_range {P : Program} {w : World} {K : PySem.W.Frag} {tg : Expr} (it : Addr) (lo : Int) (n : Nat) : Turn P w K tg (Itr lo n) [it] it (fun i h => IsRangeIter h it (lo + (i : Nat) * 1) ((n : Int) - (i : Nat)) 1) where
 mem := by simp
 obj := fun i h st b hb => by
  have e : b = it := by simpa using hb
  subst e
  exact ⟨_, st, fun v z => by
   have z' : Data.fields _ = Data.cell v := z
   cases z'⟩
 keep := fun i h h' st k => k it (by simp) _ st
 item := by
  intro X hP hw hK hc i pins s σ H E I hf st hg
  subst hP hw hK
  obtain ⟨f0, f1, f2, f3, f4, f5⟩ := hf it (by simp)
  have W := Walks.range (prog := X.prog) (w := X.w) (I.ok.hd hc) it lo 1 n
  refine W.item i s _ _ hg st fun v h' tk hv st' kk => ?_
  obtain ⟨t, rfl⟩ := hv
  have I1 : Inv X pins σ H { s with heap := h', toks := tk } := I.turned (fun b o hb e => kk b o (by simpa using hb) e) f0 f1 f3 f4 f5
  refine ⟨_, rfl, go_of (s := { s with heap := h', toks := tk }) (n := "range_iterator") st' rfl rfl (by decide) ⟨.int (lo + i), H, I1, ⟨t, ?_⟩, ⟨rfl, rfl⟩, st', fun b hb => (hf b hb).1⟩⟩
  rw [Int.mul_one]
 done := by
  intro X hP hw hK hc i pins s σ H E I hf st hg
  subst hP hw hK
  obtain ⟨f0, f1, f2, f3, f4, f5⟩ := hf it (by simp)
  exact wpAny_pyNext_range_end (I.ok.hd hc) st (by have : n ≤ i := hg; omega) fun h' eb => ⟨rfl, I.turned (t' := s.toks) (fun b o hb e => eb b o hb e) f0 f1 f3 f4 f5⟩
 self := fun _ _ _ _ _ st h => wpAny_pyIter_rangeiter st h
end L2
namespace L2
open PySem PySem.Spec PyProof.Rows
section
variable {X : Cx} {tg : Expr}
def iList (K : PySem.W.Frag) (tl : TE) : TI := fun σ H R => tl σ H fun x H1 => ∃ a, x = .ref a ∧ (∃ xs, SqL K H1 a xs) ∧ R (Itl K a) H1
theorem pi_list {l : Expr} {tl : TE} (hl : PE X l tl) : PI X tg l (iList X.K tl) := by
 intro pins s σ H R I h
 refine thn (hl pins s σ H _ I h) fun v s1 ⟨x, H1, I1, r1, q1⟩ => ?_
 obtain ⟨a, e, ⟨xs, hq⟩, q⟩ := q1
 subst e
 cases r1
 obtain ⟨its, rv, p, hz⟩ := I1.list hq
 refine wpAny_pyIter_list p.isList ?_
 refine ⟨s1.heap.objs.size, [s1.heap.objs.size], _, _, H1, rfl, I1.kept (t' := s1.toks) fun b o e => Heap.get?_push_of_some _ e, turn_list a _, ⟨_, Heap.get?_push_size _ rfl, rfl, rfl⟩, fun b hb => ?_, q⟩
 have e : b = s1.heap.objs.size := by simpa using hb
 subst e
 exact I1.fpOk (Nat.le_refl _) (I1.hok.fresh (Nat.le_refl _))
theorem range_it {pins : List (Addr × Obj)} {σ : St} {H : Hp} {s : Shared} {R : It → Hp → Prop} {E : Value → Shared → Prop} {lo hi : Int} {t u v : Tok} {tk : Nat} (I : Inv X pins σ H s) (h1 : -(2 ^ 62) ≤ lo) (h2 : lo < 2 ^ 62) (h3 : -(2 ^ 62) ≤ hi) (h4 : hi < 2 ^ 62)
  (q : R (Itr lo (hi - lo).toNat) H) : wpAny (model X.prog X.w) X.A (pyIter (.ref s.heap.objs.size)) (PIE X pins σ tg R) E { s with heap := s.heap.push { cls := .type "range", data := .fields #[.int lo t, .int hi u, .int 1 v] }, toks := tk } := by
 refine wpAny_pyIter_range (IsRange.new ..) (small_one h1 h2 h3 h4) ?_
 have I1 : Inv X pins σ H { s with heap := s.heap.push { cls := .type "range", data := .fields #[.int lo t, .int hi u, .int 1 v] }, toks := tk } := I.kept fun b o e => Heap.get?_push_of_some _ e
 refine ⟨(s.heap.push { cls := .type "range", data := .fields #[.int lo t, .int hi u, .int 1 v] }).objs.size, [(s.heap.push { cls := .type "range", data := .fields #[.int lo t, .int hi u, .int 1 v] }).objs.size], _, _, H, rfl,
  I1.kept (t' := tk) fun b o e => Heap.get?_push_of_some _ e, turn_range _ lo (hi - lo).toNat, ?_, fun b hb => ?_, q⟩
 ·have e1 : lo + ((0 : Nat) : Int) * 1 = lo := by simp
  have e2 : (((hi - lo).toNat : Nat) : Int) - ((0 : Nat) : Int) = Builtin.Range.rangeSize lo hi 1 := by rw [rangeSize_one]; split <;> omega
  show IsRangeIter _ _ (lo + ((0 : Nat) : Int) * 1) ((((hi - lo).toNat : Nat) : Int) - ((0 : Nat) : Int)) 1
  rw [e1, e2]
  exact Heap.get?_push_size _ rfl
 ·have e : b = (s.heap.push { cls := .type "range", data := .fields #[.int lo t, .int hi u, .int 1 v] }).objs.size := by simpa using hb
  subst e
  exact I1.fpOk (Nat.le_refl _) (I1.hok.fresh (Nat.le_refl _))
def iRng1 (ta : TA) : TI := fun σ H R => ta σ H fun vs H1 => ∃ j : Int, vs = [.int j] ∧ -(2 ^ 62) ≤ j ∧ j < 2 ^ 62 ∧ R (Itr 0 j.toNat) H1
theorem pi_range1 {a : Expr} {ta : TA} {p pos : Pos} (hg : Gl X "range") (hm : X.mg "range" = none) (ha : PA X [a] ta) (hs : starEach [a] X.env = [(false, eval a X.env)] := by rfl) : PI X tg (.Call (.Name "range" p) [a] [] pos) (iRng1 ta) := by
 intro pins s σ H R I h
 refine Call_ (ld_blt I hg hm boot_range (PyProof.Rows.callWith_type1 (thn (ha pos pins s σ H _ I h) fun us s1 ⟨vs, H1, I1, r1, q1⟩ => ?_) hs rfl))
 obtain ⟨j, e, q1, q2, q⟩ := q1
 subst e
 cases r1 with
 | cons r rr =>
  cases rr
  obtain ⟨t, rfl⟩ := r
  exact call_range_1 (range_it I1 (by omega) (by omega) q1 q2 (by simpa using q))
def tFor (wi : TI) (g : TG) (tb : TS) : TS := fun D σ H => wi σ H fun J H1 => ∃ W : Nat → Nat → St → Hp → Prop, (∃ m, W 0 m σ H1) ∧ ∀ i m σ H, W i m σ H →
 (J.stop i H ∧ D.nx σ H) ∨ (J.go i H ∧ ∃ N : St → Hp → Prop, (∀ σ' H', N σ' H' → ∃ m', m' < m ∧ W (i + 1) m' σ' H') ∧ ∀ x H', J.yld i H x H' → g x σ H' fun σ2 H2 => tb { D with nx := N, ct := N, bk := D.nx } σ2 H2)
def pinsAt (fp : List Addr) (h : Heap) : List (Addr × Obj) := fp.filterMap fun b => (h.get? b).map fun o => (b, o)
theorem mem_pinsAt {fp : List Addr} {h : Heap} {b : Addr} {o : Obj} (hb : b ∈ fp) (e : h.get? b = some o) : (b, o) ∈ pinsAt fp h := List.mem_filterMap.mpr ⟨b, hb, by rw [e]; rfl⟩
theorem of_pinsAt {fp : List Addr} {h : Heap} {p : Addr × Obj} (hp : p ∈ pinsAt fp h) : p.1 ∈ fp ∧ h.get? p.1 = some p.2 := by
 obtain ⟨b, hb, e⟩ := List.mem_filterMap.mp hp
 cases q : h.get? b with
 | none => rw [q] at e; cases e
 | some o =>
  rw [q] at e
  have e' : (b, o) = p := Option.some.inj e
  subst e'
  exact ⟨hb, q⟩
theorem Inv.pinned {pins : List (Addr × Obj)} {σ : St} {H : Hp} {s : Shared} {fp : List Addr} (I : Inv X pins σ H s) (hf : ∀ b ∈ fp, FpOk X pins H b) (ho : ∀ b ∈ fp, ∃ o, s.heap.get? b = some o ∧ ∀ v, o.data ≠ .cell v) : Inv X (pins ++ pinsAt fp s.heap) σ H s :=
 I.pins_of fun p hp => (List.mem_append.mp hp).elim (fun z => I.pin p (List.mem_append_right _ z)) fun z => by
  obtain ⟨hb, e⟩ := of_pinsAt z
  obtain ⟨f0, f1, f2, _⟩ := hf p.1 hb
  obtain ⟨o, e', d⟩ := ho p.1 hb
  rw [e] at e'; cases e'
  exact ⟨e, f0, f1, f2, d⟩
theorem Inv.unpinned {pins pl : List (Addr × Obj)} {σ : St} {H : Hp} {s : Shared} (I : Inv X (pins ++ pl) σ H s) : Inv X pins σ H s := I.pins_of fun p hp => I.pin p (List.mem_append_right _ (List.mem_append_left _ hp))
theorem ps_for {iter : Expr} {body : List Stmt} {wi : TI} {g : TG} {tb : TS} {pos : Pos} (hp : PassesOwn (model X.prog X.w) X.A X.env X.xe) (hc : X.calm = true) (hi : PI X tg iter wi) (hg : PG X tg g) (hb : PSs X body tb)
  (hs : ∀ x, foldedSetIterable iter X.env x = pure x := by intro _; rfl) : PS X (.For tg iter body [] pos) (tFor wi g tb) := by
 intro pins s σ H D I h
 refine wpAny_For (thn (hi pins s σ H _ I h) fun v s1 h1 => thn h1 fun itv s2 h2 => ?_) hs
 obtain ⟨it, fp, tn, J, H2, e, I2, T, st2, f2, W, ⟨m0, w0⟩, turn⟩ := h2
 subst e
 have stat : ∀ {H' : Hp}, (∀ b ∈ fp, H' b = none) → ∀ b ∈ fp, FpOk X pins H' b := fun hn b hb => ⟨hn b hb, (f2 b hb).2⟩
 refine codeAny_forLoop_any (fun n s' => ∃ i σ' H', Inv X pins σ' H' s' ∧ tn i s'.heap ∧ (∀ b ∈ fp, H' b = none) ∧ W i n σ' H') ?_ m0 ⟨0, σ, H2, I2, st2, fun b hb => (f2 b hb).1, w0⟩
 rintro n s3 ⟨i, σ3, H3, I3, st3, fr3, w3⟩
 rcases turn i n σ3 H3 w3 with ⟨stop, qn⟩ | ⟨go, N, hN, step⟩
 ·refine wpAny_passesOwn hp (thn (T.done X rfl rfl rfl hc i pins s3 σ3 H3 X.xe I3 (stat fr3) st3 stop) fun r s4 ⟨hr, I4⟩ => ?_)
  subst hr
  exact wpAny_execs_nil ⟨σ3, H3, I4, qn⟩
 ·refine wpAny_passesOwn hp (thn (T.item X rfl rfl rfl hc i pins s3 σ3 H3 X.xe I3 (stat fr3) st3 go) fun r s4 ⟨u, hr, h4⟩ => ?_)
  subst hr
  refine wpAny_passesOwn hp (thn h4 fun _ s5 ⟨x, H5, I5, r5, y5, st5, fr5⟩ => ?_)
  have I5' := I5.pinned (stat fr5) (T.obj _ _ st5)
  refine wpAny_passesOwn hp (thn (hg _ s5 σ3 H5 x u _ I5' r5 (step x H5 y5)) fun _ s6 ⟨σ6, H6, I6, q6⟩ => ?_)
  refine wpAny_passesOwn hp (thn (hb _ s6 σ6 H6 _ I6 q6) fun f s7 q7 => ?_)
  have again : ∀ {σ7 : St} {H7 : Hp}, Inv X (pins ++ pinsAt fp s5.heap) σ7 H7 s7 → N σ7 H7 → ∃ m, m < n ∧ ∃ i σ' H', Inv X pins σ' H' s7 ∧ tn i s7.heap ∧ (∀ b ∈ fp, H' b = none) ∧ W i m σ' H' := fun {σ7 H7} I7 n7 => by
   obtain ⟨m', hm, w7⟩ := hN σ7 H7 n7
   refine ⟨m', hm, i + 1, σ7, H7, I7.unpinned, T.keep _ _ _ st5 fun b hb o e => (I7.pin (b, o) (List.mem_append_right _ (List.mem_append_right _ (mem_pinsAt hb e)))).1, fun b hb => ?_, w7⟩
   obtain ⟨o, e, d⟩ := T.obj _ _ st5 b hb
   exact (I7.pin (b, o) (List.mem_append_right _ (List.mem_append_right _ (mem_pinsAt hb e)))).2.1
  cases f with
  | next => obtain ⟨σ7, H7, I7, n7⟩ := q7; exact again I7 n7
  | cont => obtain ⟨σ7, H7, I7, n7⟩ := q7; exact again I7 n7
  | brk => obtain ⟨σ7, H7, I7, q7⟩ := q7; exact ⟨σ7, H7, I7.unpinned, q7⟩
  | ret v => obtain ⟨x7, σ7, H7, I7, r7, q7⟩ := q7; exact ⟨x7, σ7, H7, I7.unpinned, r7, q7⟩
end
theorem for_list {K : PySem.W.Frag} {a : Addr} {xs : List V} {g : TG} {tb : TS} {D : Ends} {σ : St} {H : Hp} (Pv : Nat → St → Hp → Prop) (h0 : Pv 0 σ H) (hl : ∀ i σ H, i ≤ xs.length → Pv i σ H → SqL K H a xs)
  (hs : ∀ i x σ H, xs[i]? = some x → Pv i σ H → g x σ H fun σ2 H2 => tb { D with nx := Pv (i + 1), ct := Pv (i + 1), bk := D.nx } σ2 H2) (hd : ∀ σ H, Pv xs.length σ H → D.nx σ H) :
  ∃ W : Nat → Nat → St → Hp → Prop, (∃ m, W 0 m σ H) ∧ ∀ i m σ H, W i m σ H →
   ((Itl K a).stop i H ∧ D.nx σ H) ∨ ((Itl K a).go i H ∧ ∃ N : St → Hp → Prop, (∀ σ' H', N σ' H' → ∃ m', m' < m ∧ W (i + 1) m' σ' H') ∧ ∀ x H', (Itl K a).yld i H x H' → g x σ H' fun σ2 H2 => tb { D with nx := N, ct := N, bk := D.nx } σ2 H2) := by
 refine ⟨fun i m σ H => m = xs.length - i ∧ i ≤ xs.length ∧ Pv i σ H, ⟨xs.length, by simp, Nat.zero_le _, h0⟩, ?_⟩
 rintro i m σ H ⟨rfl, hi, p⟩
 have q := hl i σ H hi p
 by_cases hlt : i < xs.length
 ·refine .inr ⟨⟨xs, xs[i], q, by simp [hlt]⟩, Pv (i + 1), fun σ' H' p' => ⟨xs.length - (i + 1), by omega, rfl, hlt, p'⟩, fun x H' y => ?_⟩
  obtain ⟨e, y⟩ := y
  subst e
  exact hs i x σ _ (y xs q) p
 ·have e : i = xs.length := by omega
  subst e
  exact .inl ⟨⟨xs, q, Nat.le_refl _⟩, hd σ H p⟩
theorem for_range {lo : Int} {n : Nat} {g : TG} {tb : TS} {D : Ends} {σ : St} {H : Hp} (Pv : Nat → St → Hp → Prop) (h0 : Pv 0 σ H)
  (hs : ∀ i σ H, i < n → Pv i σ H → g (.int (lo + i)) σ H fun σ2 H2 => tb { D with nx := Pv (i + 1), ct := Pv (i + 1), bk := D.nx } σ2 H2) (hd : ∀ σ H, Pv n σ H → D.nx σ H) :
  ∃ W : Nat → Nat → St → Hp → Prop, (∃ m, W 0 m σ H) ∧ ∀ i m σ H, W i m σ H →
   ((Itr lo n).stop i H ∧ D.nx σ H) ∨ ((Itr lo n).go i H ∧ ∃ N : St → Hp → Prop, (∀ σ' H', N σ' H' → ∃ m', m' < m ∧ W (i + 1) m' σ' H') ∧ ∀ x H', (Itr lo n).yld i H x H' → g x σ H' fun σ2 H2 => tb { D with nx := N, ct := N, bk := D.nx } σ2 H2) := by
 refine ⟨fun i m σ H => m = n - i ∧ i ≤ n ∧ Pv i σ H, ⟨n, by simp, Nat.zero_le _, h0⟩, ?_⟩
 rintro i m σ H ⟨rfl, hi, p⟩
 by_cases hlt : i < n
 ·refine .inr ⟨hlt, Pv (i + 1), fun σ' H' p' => ⟨n - (i + 1), by omega, rfl, hlt, p'⟩, fun x H' y => ?_⟩
  obtain ⟨e, y⟩ := y
  subst e y
  exact hs i σ _ hlt p
 ·have e : i = n := by omega
  subst e
  exact .inl ⟨Nat.le_refl _, hd σ H p⟩
end L2
namespace L2
open PySem PySem.Spec PyProof.Rows
abbrev R2 := V → V → Hp → VK → Prop
def OpR (X : Cx) (f : Value → Value → Sem Value) (r : R2) : Prop :=
 ∀ (pins : List (Addr × Obj)) (s : Shared) (σ : St) (H : Hp) (x y : V) (v u : Value) (Q : VK), Inv X pins σ H s → RelV x v → RelV y u → r x y H Q →
  wpAny (model X.prog X.w) X.A (f v u) (EP X pins σ Q) X.xe s
def UnR (X : Cx) (f : Value → Sem Value) (r : V → Hp → VK → Prop) : Prop :=
 ∀ (pins : List (Addr × Obj)) (s : Shared) (σ : St) (H : Hp) (x : V) (v : Value) (Q : VK), Inv X pins σ H s → RelV x v → r x H Q →
  wpAny (model X.prog X.w) X.A (f v) (EP X pins σ Q) X.xe s
def CallR (X : Cx) (f : Value) (r : List V → Hp → VK → Prop) : Prop :=
 ∀ (pins : List (Addr × Obj)) (s : Shared) (σ : St) (H : Hp) (xs : List V) (us : List Value) (Q : VK), Inv X pins σ H s → Vals xs us → r xs H Q →
  wpAny (model X.prog X.w) X.A (call f us) (EP X pins σ Q) X.xe s
def TruR (X : Cx) (r : V → Hp → (Bool → Hp → Prop) → Prop) : Prop :=
 ∀ (pins : List (Addr × Obj)) (s : Shared) (σ : St) (H : Hp) (x : V) (v : Value) (Q : Bool → Hp → Prop), Inv X pins σ H s → RelV x v → r x H Q →
  wpAny (model X.prog X.w) X.A (truthy v) (TP X pins σ Q) X.xe s
def tOp (r : R2) (ta tb : TE) : TE := fun σ H Q => ta σ H fun x H1 => tb σ H1 fun y H2 => r x y H2 Q
def tUn (r : V → Hp → VK → Prop) (ta : TE) : TE := fun σ H Q => ta σ H fun x H1 => r x H1 Q
def rI (C : Int → Int → Prop) (g : Int → Int → V) : R2 := fun x y H Q => ∃ i j, x = .int i ∧ y = .int j ∧ C i j ∧ Q (g i j) H
def rI0 (g : Int → Int → V) : R2 := fun x y H Q => ∃ i j, x = .int i ∧ y = .int j ∧ Q (g i j) H
def rU (g : Int → V) : V → Hp → VK → Prop := fun x H Q => ∃ i, x = .int i ∧ Q (g i) H
section
variable {X : Cx} {a b c : Expr} {ta tb tc : TE} {pos : Pos}
theorem binT (ha : PE X a ta) (hb : PE X b tb) {pins : List (Addr × Obj)} {s : Shared} {σ : St} {H : Hp} {R : V → V → Hp → Prop} (I : Inv X pins σ H s)
  (h : ta σ H fun x H1 => tb σ H1 fun y H2 => R x y H2) {Q : Value → Shared → Prop} {f : Value → Value → Sem Value}
  (hf : ∀ v u s2 x y H2, Inv X pins σ H2 s2 → RelV x v → RelV y u → R x y H2 → wpAny (model X.prog X.w) X.A (f v u) Q X.xe s2) :
  wpAny (model X.prog X.w) X.A (eval a X.env) (fun v s₁ => wpAny (model X.prog X.w) X.A (eval b X.env) (fun u s₂ => wpAny (model X.prog X.w) X.A (f v u) Q X.xe s₂) X.xe s₁) X.xe s := by
 refine thn (ha pins s σ H _ I h) fun v s1 ⟨x, H1, I1, r1, q1⟩ => ?_
 refine thn (hb pins s1 σ H1 _ I1 q1) fun u s2 ⟨y, H2, I2, r2, q2⟩ => ?_
 exact hf v u s2 x y H2 I2 r1 r2 q2
theorem pe_op {op : Operator} {r : R2} (ho : OpR X (binaryOp op) r) (ha : PE X a ta) (hb : PE X b tb) : PE X (.BinOp a op b pos) (tOp r ta tb) := by
 intro pins s σ H Q I h
 exact wpAny_BinOp (binT ha hb I h fun v u s2 x y H2 I2 rx ry q => ho pins s2 σ H2 x y v u Q I2 rx ry q)
theorem pe_un {op : UnaryOp} {r : V → Hp → VK → Prop} (ho : UnR X (unaryOp op) r) (ha : PE X a ta) : PE X (.UnaryOp op a pos) (tUn r ta) := by
 intro pins s σ H Q I h
 exact UnaryOp_ (thn (ha pins s σ H _ I h) fun v s1 ⟨x, H1, I1, r1, q1⟩ => ho pins s1 σ H1 x v Q I1 r1 q1)
theorem opI {f : Value → Value → Sem Value} {C : Int → Int → Prop} {g : Int → Int → Int}
  (rule : ∀ (i j : Int) (t u : Tok) (s : Shared) (Q : Value → Shared → Prop) (E : Value → Shared → Prop), C i j → Q (.int (g i j) s.toks) { s with toks := s.toks + 1 } → wpAny (model X.prog X.w) X.A (f (.int i t) (.int j u)) Q E s) :
  OpR X f (rI C fun i j => .int (g i j)) := by
 intro pins s σ H x y v u Q I rx ry h
 obtain ⟨i, j, rfl, rfl, hc, q⟩ := h
 obtain ⟨t, rfl⟩ := rx
 obtain ⟨t', rfl⟩ := ry
 exact rule i j t t' s _ _ hc ⟨.int (g i j), H, I.tok _, ⟨_, rfl⟩, q⟩
theorem opI0 {f : Value → Value → Sem Value} {g : Int → Int → Int}
  (rule : ∀ (i j : Int) (t u : Tok) (s : Shared) (Q : Value → Shared → Prop) (E : Value → Shared → Prop), Q (.int (g i j) s.toks) { s with toks := s.toks + 1 } → wpAny (model X.prog X.w) X.A (f (.int i t) (.int j u)) Q E s) :
  OpR X f (rI0 fun i j => .int (g i j)) := by
 intro pins s σ H x y v u Q I rx ry h
 obtain ⟨i, j, rfl, rfl, q⟩ := h
 obtain ⟨t, rfl⟩ := rx
 obtain ⟨t', rfl⟩ := ry
 exact rule i j t t' s _ _ ⟨.int (g i j), H, I.tok _, ⟨_, rfl⟩, q⟩
theorem opB0 {f : Value → Value → Sem Value} {g : Int → Int → Bool}
  (rule : ∀ (i j : Int) (t u : Tok) (s : Shared) (Q : Value → Shared → Prop) (E : Value → Shared → Prop), Q (.bool (g i j)) s → wpAny (model X.prog X.w) X.A (f (.int i t) (.int j u)) Q E s) :
  OpR X f (rI0 fun i j => .bl (g i j)) := by
 intro pins s σ H x y v u Q I rx ry h
 obtain ⟨i, j, rfl, rfl, q⟩ := h
 obtain ⟨t, rfl⟩ := rx
 obtain ⟨t', rfl⟩ := ry
 exact rule i j t t' s _ _ ⟨.bl (g i j), H, I, rfl, q⟩
def CDiv (i j : Int) : Prop := 0 < j ∧ j < 1073741824
def CPow (i j : Int) : Prop := 0 ≤ j ∧ j ≤ 1000000 ∧ i.natAbs < 2 ^ 64
def CMul (i j : Int) : Prop := (-(2 ^ 64) < i ∧ i < 2 ^ 64) ∨ (-(2 ^ 64) < j ∧ j < 2 ^ 64)
theorem CMul.ok {i j : Int} (h : CMul i j) : IntMulOk i j := by
 rcases h with ⟨h1, h2⟩ | ⟨h1, h2⟩
 ·exact .of_left (intBits_le_64 h1 h2)
 ·exact .of_right (intBits_le_64 h1 h2)
theorem op_add : OpR X (binaryOp .Add) (rI0 fun i j => .int (i + j)) := opI0 fun _ _ _ _ _ _ _ q => add_int q
theorem op_sub : OpR X (binaryOp .Sub) (rI0 fun i j => .int (i - j)) := opI0 fun _ _ _ _ _ _ _ q => sub_int q
theorem op_mul : OpR X (binaryOp .Mult) (rI CMul fun i j => .int (i * j)) := opI fun _ _ _ _ _ _ _ hc q => mul_int q hc.ok
theorem op_fdiv : OpR X (binaryOp .FloorDiv) (rI CDiv fun i j => .int (i / j)) := opI fun i j _ _ _ _ _ hc q => by
 have h1 : (0 : Int) < j := hc.1
 have h2 : j < 1073741824 := hc.2
 exact floordiv_int (by omega) (by rw [Int.fdiv_eq_ediv_of_nonneg i (by omega)]; exact q) (.inl (PyProof.noPylong_small (by omega)))
theorem op_mod : OpR X (binaryOp .Mod) (rI (fun _ j => 0 < j) fun i j => .int (i % j)) := opI fun i j _ _ _ _ _ hc q => by
 have h1 : (0 : Int) < j := hc
 exact mod_int' (by omega) (by rw [Int.fmod_eq_emod_of_nonneg i (by omega)]; exact q)
theorem op_pow : OpR X (binaryOp .Pow) (rI CPow fun i j => .int (i ^ j.toNat)) := opI fun _ _ _ _ _ _ _ hc q => pow_int_small hc.1 hc.2.1 hc.2.2 q
theorem unI {f : Value → Sem Value} {g : Int → Int}
  (rule : ∀ (i : Int) (t : Tok) (s : Shared) (Q : Value → Shared → Prop) (E : Value → Shared → Prop), Q (.int (g i) s.toks) { s with toks := s.toks + 1 } → wpAny (model X.prog X.w) X.A (f (.int i t)) Q E s) :
  UnR X f (rU fun i => .int (g i)) := by
 intro pins s σ H x v Q I rx h
 obtain ⟨i, rfl, q⟩ := h
 obtain ⟨t, rfl⟩ := rx
 exact rule i t s _ _ ⟨.int (g i), H, I.tok _, ⟨_, rfl⟩, q⟩
theorem un_neg : UnR X (unaryOp .USub) (rU fun i => .int (-i)) := unI fun _ _ _ _ _ q => neg_int q
end
def scal : V → V → Bool
 | .non, .non => true | .non, .int _ => true | .int _, .non => true | .non, .bl _ => true | .bl _, .non => true | .non, .str _ => true | .str _, .non => true
 | .int _, .int _ => true | .bl _, .bl _ => true | .str _, .str _ => true | .byt _, .byt _ => true
 | .int _, .str _ => true | .str _, .int _ => true | .bl _, .str _ => true | .str _, .bl _ => true
 | _, _ => false
def rEq : R2 := fun x y H Q => scal x y = true ∧ Q (.bl (decide (x = y))) H
def rNe : R2 := fun x y H Q => scal x y = true ∧ Q (.bl (!decide (x = y))) H
theorem dec_int {i j : Int} : decide (V.int i = V.int j) = (i == j) := by
 rw [Bool.eq_iff_iff]
 simp
theorem dec_bl {i j : Bool} : decide (V.bl i = V.bl j) = (i == j) := by
 rw [Bool.eq_iff_iff]
 simp
theorem dec_str {i j : Str} : decide (V.str i = V.str j) = (i == j) := by
 rw [Bool.eq_iff_iff]
 simp
theorem dec_byt {i j : Array UInt8} : decide (V.byt i = V.byt j) = (i.toList == j.toList) := by
 rw [Bool.eq_iff_iff]
 cases i
 cases j
 simp
section
variable {X : Cx} {a b c : Expr} {ta tb tc : TE} {pos : Pos}
theorem fin_bl {pins : List (Addr × Obj)} {σ : St} {H : Hp} {s : Shared} {Q : VK} {k k' : Bool} (I : Inv X pins σ H s) (q : Q (.bl k) H) (e : k = k') : EP X pins σ Q (.bool k') s := by
 subst e
 exact ⟨.bl k, H, I, rfl, q⟩
theorem op_eq : OpR X (compareOp .Eq) rEq := by
 intro pins s σ H x y v u Q I rx ry h
 obtain ⟨hs, q⟩ := h
 cases x with
 | non =>
  cases rx
  cases y with
  | non => cases ry; exact PySem.EqNone.eq_none_none (fin_bl I q (by simp))
  | bl j => cases ry; exact PySem.EqNone.eq_none_bool (fin_bl I q (by simp))
  | int j => obtain ⟨t', rfl⟩ := ry; exact PySem.EqNone.eq_none_int (fin_bl I q (by simp))
  | str j => obtain ⟨t', rfl⟩ := ry; exact PySem.EqNone.eq_none_str (fin_bl I q (by simp))
  | _ => exact absurd (show false = true from hs) Bool.false_ne_true
 | bl i =>
  cases rx
  cases y with
  | non => cases ry; exact PySem.EqNone.eq_bool_none (fin_bl I q (by simp))
  | bl j => cases ry; exact eq_bool (fin_bl I q dec_bl)
  | str j => obtain ⟨t', rfl⟩ := ry; exact PySem.EqMixed.eq_bool_str (fin_bl I q (by simp))
  | _ => exact absurd (show false = true from hs) Bool.false_ne_true
 | int i =>
  obtain ⟨t, rfl⟩ := rx
  cases y with
  | non => cases ry; exact PySem.EqNone.eq_int_none (fin_bl I q (by simp))
  | int j => obtain ⟨t', rfl⟩ := ry; exact eq_int (fin_bl I q dec_int)
  | str j => obtain ⟨t', rfl⟩ := ry; exact PySem.EqMixed.eq_int_str (fin_bl I q (by simp))
  | _ => exact absurd (show false = true from hs) Bool.false_ne_true
 | str i =>
  obtain ⟨t, rfl⟩ := rx
  cases y with
  | non => cases ry; exact PySem.EqNone.eq_str_none (fin_bl I q (by simp))
  | bl j => cases ry; exact PySem.EqMixed.eq_str_bool (fin_bl I q (by simp))
  | int j => obtain ⟨t', rfl⟩ := ry; exact PySem.EqMixed.eq_str_int (fin_bl I q (by simp))
  | str j => obtain ⟨t', rfl⟩ := ry; exact eq_str (fin_bl I q dec_str)
  | _ => exact absurd (show false = true from hs) Bool.false_ne_true
 | byt i =>
  obtain ⟨t, rfl⟩ := rx
  cases y with
  | byt j => obtain ⟨t', rfl⟩ := ry; exact PySem.W.eq_bytes (fin_bl I q dec_byt)
  | _ => exact absurd (show false = true from hs) Bool.false_ne_true
 | _ => cases y <;> exact absurd (show false = true from hs) Bool.false_ne_true
theorem op_ne : OpR X (compareOp .NotEq) rNe := by
 intro pins s σ H x y v u Q I rx ry h
 obtain ⟨hs, q⟩ := h
 cases x with
 | non =>
  cases rx
  cases y with
  | non => cases ry; exact PySem.EqNone.ne_none_none (fin_bl I q (by simp))
  | bl j => cases ry; exact PySem.EqNone.ne_none_bool (fin_bl I q (by simp))
  | int j => obtain ⟨t', rfl⟩ := ry; exact PySem.EqNone.ne_none_int (fin_bl I q (by simp))
  | str j => obtain ⟨t', rfl⟩ := ry; exact PySem.EqNone.ne_none_str (fin_bl I q (by simp))
  | _ => exact absurd (show false = true from hs) Bool.false_ne_true
 | bl i =>
  cases rx
  cases y with
  | non => cases ry; exact PySem.EqNone.ne_bool_none (fin_bl I q (by simp))
  | bl j => cases ry; exact ne_bool (fin_bl I q (congrArg not dec_bl))
  | str j => obtain ⟨t', rfl⟩ := ry; exact PySem.EqMixed.ne_bool_str (fin_bl I q (by simp))
  | _ => exact absurd (show false = true from hs) Bool.false_ne_true
 | int i =>
  obtain ⟨t, rfl⟩ := rx
  cases y with
  | non => cases ry; exact PySem.EqNone.ne_int_none (fin_bl I q (by simp))
  | int j => obtain ⟨t', rfl⟩ := ry; exact ne_int (fin_bl I q (congrArg not dec_int))
  | str j => obtain ⟨t', rfl⟩ := ry; exact PySem.EqMixed.ne_int_str (fin_bl I q (by simp))
  | _ => exact absurd (show false = true from hs) Bool.false_ne_true
 | str i =>
  obtain ⟨t, rfl⟩ := rx
  cases y with
  | non => cases ry; exact PySem.EqNone.ne_str_none (fin_bl I q (by simp))
  | bl j => cases ry; exact PySem.EqMixed.ne_str_bool (fin_bl I q (by simp))
  | int j => obtain ⟨t', rfl⟩ := ry; exact PySem.EqMixed.ne_str_int (fin_bl I q (by simp))
  | str j => obtain ⟨t', rfl⟩ := ry; exact ne_str (fin_bl I q (congrArg not dec_str))
  | _ => exact absurd (show false = true from hs) Bool.false_ne_true
 | byt i =>
  obtain ⟨t, rfl⟩ := rx
  cases y with
  | byt j => obtain ⟨t', rfl⟩ := ry; exact PySem.W.ne_bytes (fin_bl I q (congrArg not dec_byt))
  | _ => exact absurd (show false = true from hs) Bool.false_ne_true
 | _ => cases y <;> exact absurd (show false = true from hs) Bool.false_ne_true
theorem op_lt : OpR X (compareOp .Lt) (rI0 fun i j => .bl (decide (i < j))) := opB0 fun _ _ _ _ _ _ _ q => lt_int q
theorem op_le : OpR X (compareOp .LtE) (rI0 fun i j => .bl (decide (i ≤ j))) := opB0 fun _ _ _ _ _ _ _ q => le_int q
theorem op_gt : OpR X (compareOp .Gt) (rI0 fun i j => .bl (decide (j < i))) := opB0 fun _ _ _ _ _ _ _ q => gt_int q
theorem op_ge : OpR X (compareOp .GtE) (rI0 fun i j => .bl (decide (j ≤ i))) := opB0 fun _ _ _ _ _ _ _ q => ge_int q
theorem op_isN : OpR X (compareOp .Is) (fun x y H Q => y = .non ∧ Q (.bl (decide (x = .non))) H) := by
 intro pins s σ H x y v u Q I rx ry h
 obtain ⟨rfl, q⟩ := h
 cases ry
 refine is_none_gen (fin_bl I q ?_)
 cases x <;> first
  | (cases rx; rfl)
  | (obtain ⟨t, rfl⟩ := rx; rfl)
theorem nomark (b : Expr) {op : CmpOp} (h : op ≠ .In := by decide) (h2 : op ≠ .NotIn := by decide) : behindInMarks op b = false := by
 have e1 : (op == CmpOp.In) = false := by cases op <;> first | rfl | exact absurd rfl h
 have e2 : (op == CmpOp.NotIn) = false := by cases op <;> first | rfl | exact absurd rfl h2
 cases b <;> simp [behindInMarks, e1, e2]
theorem pe_cmpR {op : CmpOp} {r : R2} (ho : OpR X (compareOp op) r) (ha : PE X a ta) (hb : PE X b tb) (hm : behindInMarks op b = false) : PE X (.Compare a [op] [b] pos) (tOp r ta tb) := by
 intro pins s σ H Q I h
 exact wpAny_Compare1 (binT ha hb I h fun v u s2 x y H2 I2 rx ry q => ho pins s2 σ H2 x y v u Q I2 rx ry q) hm
def tTest (t : TE) : TT := fun σ H Q => t σ H fun x H' => ∃ k, x = .bl k ∧ Q k H'
theorem pt_cmpR {op : CmpOp} {r : R2} (ho : OpR X (compareOp op) r) (ha : PE X a ta) (hb : PE X b tb) (hm : behindInMarks op b = false) : PT X (.Compare a [op] [b] pos) (tTest (tOp r ta tb)) := by
 intro pins s σ H Q I h
 refine wpAny_isTrue_Compare1 (thn (ha pins s σ H _ I h) fun v s1 ⟨x, H1, I1, r1, q1⟩ => thn (hb pins s1 σ H1 _ I1 q1) fun u s2 ⟨y, H2, I2, r2, q2⟩ =>
  thn (ho pins s2 σ H2 x y v u _ I2 r1 r2 q2) fun c s3 ⟨z, H3, I3, r3, k, e, q3⟩ => ?_) hm
 subst e
 cases r3
 exact wpAny_truthy_bool ⟨H3, I3, q3⟩
def tChain (r r' : R2) (ta tb tc : TE) : TE := fun σ H Q => ta σ H fun x H1 => tb σ H1 fun y H2 => r x y H2 fun z H3 => ∃ k, z = .bl k ∧
 (if k = true then tc σ H3 fun w' H4 => r' y w' H4 Q else Q (.bl false) H3)
theorem pt_chain {op op' : CmpOp} {r r' : R2} (ho : OpR X (compareOp op) r) (ho' : OpR X (compareOp op') r') (ha : PE X a ta) (hb : PE X b tb) (hc : PE X c tc)
  (hm : lastMarks [op, op'] [b, c] = false := by with_unfolding_all rfl) : PT X (.Compare a [op, op'] [b, c] pos) (tTest (tChain r r' ta tb tc)) := by
 intro pins s σ H Q I h
 refine isTrue_chain (thn (ha pins s σ H _ I h) fun v s1 ⟨x, H1, I1, r1, q1⟩ => test_link (thn (hb pins s1 σ H1 _ I1 q1) fun u s2 ⟨y, H2, I2, r2, q2⟩ =>
  thn (ho pins s2 σ H2 x y v u _ I2 r1 r2 q2) fun d s3 ⟨z, H3, I3, r3, k, e, q3⟩ => ?_)) hm
 subst e
 cases r3
 refine wpAny_truthy_bool ?_
 cases k with
 | false =>
  obtain ⟨k', e', q'⟩ := q3
  cases e'
  exact ite_ff ⟨H3, I3, q'⟩
 | true =>
  refine ite_tt (test_last (thn (hc pins s3 σ H3 _ I3 q3) fun w' s4 ⟨z', H4, I4, r4, q4⟩ => thn (ho' pins s4 σ H4 y z' u w' _ I4 r2 r4 q4) fun d' s5 ⟨z2, H5, I5, r5, k2, e2, q5⟩ => ?_))
  subst e2
  cases r5
  exact wpAny_truthy_bool ⟨H5, I5, q5⟩
def TruV (K : PySem.W.Frag) (x : V) (H : Hp) (k : Bool) : Prop :=
 match x with
 | .non => k = false
 | .bl b => k = b
 | .int i => k = (i != 0)
 | .str y => y.length ≤ sizeLine ∧ k = ((y.length : Int) != 0)
 | .byt y => y.size ≤ sizeLine ∧ k = ((y.size : Int) != 0)
 | .ref p => (∃ xs, SqL K H p xs ∧ k = !xs.isEmpty) ∨ (∃ xs, SqT K H p xs ∧ k = !xs.isEmpty) ∨ ∃ kvs, H p = some (.dK kvs) ∧ k = !kvs.isEmpty
 | _ => False
theorem isEmpty_kv {κ : Type} {kvs : List (κ × V)} {vs : List (κ × Value)} (r : KV kvs vs) : (!vs.isEmpty) = !kvs.isEmpty := by
 cases r <;> rfl
theorem isEmpty_of {xs : List V} {its : List Value} (r : Vals xs its) : (!its.toArray.isEmpty) = !xs.isEmpty := by
 cases r <;> simp
theorem line63 : (sizeLine : Nat) < 2 ^ 63 := by rw [sizeLine_eq]; decide
theorem tru_ok : TruR X (fun x H Q => ∃ k, TruV X.K x H k ∧ Q k H) := by
 intro pins s σ H x v Q I rx h
 obtain ⟨k, e, q⟩ := h
 have hl := line63
 have hs : sizeLine = 16777216 := sizeLine_eq
 cases x with
 | non =>
  cases rx
  have e' : k = false := e
  subst e'
  exact truthy_none ⟨H, I, q⟩
 | bl b =>
  cases rx
  have e' : k = b := e
  subst e'
  exact wpAny_truthy_bool ⟨H, I, q⟩
 | int i =>
  obtain ⟨t, rfl⟩ := rx
  have e' : k = (i != 0) := e
  subst e'
  exact PySem.P.truthy_int ⟨H, I, q⟩
 | str y =>
  obtain ⟨t, rfl⟩ := rx
  obtain ⟨hy, e'⟩ : y.length ≤ sizeLine ∧ k = ((y.length : Int) != 0) := e
  subst e'
  exact PySem.P.truthy_str (by omega) ⟨H, I.tok _, q⟩
 | byt y =>
  obtain ⟨t, rfl⟩ := rx
  obtain ⟨hy, e'⟩ : y.size ≤ sizeLine ∧ k = ((y.size : Int) != 0) := e
  subst e'
  exact PySem.W.truthy_bytes (by omega) ⟨H, I.tok _, q⟩
 | ref p =>
  cases rx
  have e' : (∃ xs, SqL X.K H p xs ∧ k = !xs.isEmpty) ∨ (∃ xs, SqT X.K H p xs ∧ k = !xs.isEmpty) ∨ ∃ kvs, H p = some (.dK kvs) ∧ k = !kvs.isEmpty := e
  rcases e' with ⟨xs, hx, e'⟩ | ⟨xs, hx, e'⟩ | ⟨kvs, hx, e'⟩
  ·subst e'
   obtain ⟨its, r, pl, hz⟩ := I.list hx
   have hlen := r.length
   exact wpAny_truthy_list pl.isList (by simp only [List.size_toArray]; omega) ⟨H, I.tok _, by rw [isEmpty_of r]; exact q⟩
  ·subst e'
   obtain ⟨its, r, pl, hz⟩ := I.tuple hx
   have hlen := r.length
   exact truthy_tuple pl (by simp only [List.size_toArray]; omega) ⟨H, I.tok _, by rw [isEmpty_of r]; exact q⟩
  ·subst e'
   obtain ⟨hz, hS, vs, r, m⟩ : kvs.length ≤ sizeLine ∧ (p == sysModules) = false ∧ ∃ vs, KV kvs vs ∧ s.heap.DictOf (mixKind X.prog X.w) p vs := I.hok p _ hx
   have hlen : kvs.length = vs.length := Paired.length r
   exact wpAny_truthy_dict hS m (by omega) ⟨H, I.tok _, by rw [isEmpty_kv r]; exact q⟩
 | _ => exact (show False from e).elim
theorem pt_truth (ha : PE X a ta) (he : ∀ whole, isTrue a X.env whole = (do let v ← whole; standAt a.pos; holding [v] (truthy v))) :
  PT X a (fun σ H Q => ta σ H fun x H' => ∃ k, TruV X.K x H' k ∧ Q k H') := by
 intro pins s σ H Q I h
 exact isTrue_plain (thn (ha pins s σ H _ I h) fun v s1 ⟨x, H1, I1, r1, q1⟩ => tru_ok pins s1 σ H1 x v Q I1 r1 q1) (he _)
theorem vals1 {x : V} {us : List Value} (r : Vals [x] us) : ∃ u, us = [u] ∧ RelV x u := by
 cases r with
 | cons r1 r2 => cases r2; exact ⟨_, rfl, r1⟩
theorem vals2 {x y : V} {us : List Value} (r : Vals [x, y] us) : ∃ u w', us = [u, w'] ∧ RelV x u ∧ RelV y w' := by
 cases r with
 | cons r1 r2 =>
  cases r2 with
  | cons r3 r4 => cases r4; exact ⟨_, _, rfl, r1, r3⟩
theorem call_max2 (hc : X.calm = true) : CallR X (.builtin "max") (fun xs H Q => ∃ i j, xs = [.int i, .int j] ∧ Q (.int (if j > i then j else i)) H) := by
 intro pins s σ H xs us Q I r h
 obtain ⟨i, j, rfl, q⟩ := h
 obtain ⟨u, w', rfl, ⟨t, rfl⟩, ⟨t', rfl⟩⟩ := vals2 r
 refine max_two_ints (I.ok.hd hc) fun h' tk k => ⟨_, H, I.kept k, ?_, q⟩
 by_cases hj : j > i
 ·rw [if_pos hj, if_pos hj]; exact ⟨_, rfl⟩
 ·rw [if_neg hj, if_neg hj]; exact ⟨_, rfl⟩
theorem call_min2 (hc : X.calm = true) : CallR X (.builtin "min") (fun xs H Q => ∃ i j, xs = [.int i, .int j] ∧ Q (.int (if j < i then j else i)) H) := by
 intro pins s σ H xs us Q I r h
 obtain ⟨i, j, rfl, q⟩ := h
 obtain ⟨u, w', rfl, ⟨t, rfl⟩, ⟨t', rfl⟩⟩ := vals2 r
 refine min_two_ints (I.ok.hd hc) fun h' tk k => ⟨_, H, I.kept k, ?_, q⟩
 by_cases hj : j < i
 ·rw [if_pos hj, if_pos hj]; exact ⟨_, rfl⟩
 ·rw [if_neg hj, if_neg hj]; exact ⟨_, rfl⟩
theorem call_int1 : CallR X (.type "int") (fun xs H Q => (∃ i, xs = [.int i] ∧ Q (.int i) H) ∨ ∃ k, xs = [.bl k] ∧ Q (.int (if k then 1 else 0)) H) := by
 intro pins s σ H xs us Q I r h
 rcases h with ⟨i, rfl, q⟩ | ⟨k, rfl, q⟩
 ·obtain ⟨u, rfl, t, rfl⟩ := vals1 r
  exact call_int_int ⟨.int i, H, I, ⟨_, rfl⟩, q⟩
 ·obtain ⟨u, rfl, r1⟩ := vals1 r
  cases r1
  exact call_int_bool ⟨.int (if k then 1 else 0), H, I.tok _, ⟨_, rfl⟩, q⟩
end
end L2
namespace L2
open PySem PySem.Spec PyProof.Rows
structure ObjM (h : Heap) (x dx C : Addr) (mA : Str → Option Value) : Prop where
 obj : h.get? x = some (PySem.W.instObj C dx)
 ns : h.Ns1 dx mA
 ne : dx ≠ x
theorem lookIn_ns {h : Heap} {dx : Addr} {mA : Str → Option Value} (n : h.Ns1 dx mA) : ∃ od, h.get? dx = some od ∧ ∀ name, PySem.W.lookIn name od = some (mA name) := by
 obtain ⟨o, es, ep, ho, hd, hk, _, hm⟩ := n
 refine ⟨o, ho, fun name => ?_⟩
 have e := hm name
 unfold nsFind findBy at e
 rw [← Array.find?_toList] at e
 unfold PySem.W.lookIn
 rw [hd]
 dsimp only
 split
 ·rename_i y q
  rw [q] at e
  exact congrArg some e
 ·rename_i q
  rw [q] at e
  have a : es.toList.any (·.refKey) = false := by
   rw [List.any_eq_false]
   intro y hy
   obtain ⟨z, t, hkey⟩ := hk y (Array.mem_toList_iff.mp hy)
   simp [DictEntry.refKey, hkey]
  have a' : ¬ es.toList.any (·.refKey) = true := by rw [a]; exact Bool.false_ne_true
  rw [if_neg a']
  exact congrArg some e
theorem ObjM.look {h : Heap} {x dx C : Addr} {mA : Str → Option Value} (I : ObjM h x dx C mA) : ∃ od, PySem.W.InstAt h x (PySem.W.instObj C dx) C (some od) ∧ ∀ name, PySem.W.lookIn name od = some (mA name) :=
 let ⟨od, ho, hl⟩ := lookIn_ns I.ns
 ⟨od, ⟨I.obj, rfl, rfl, ho⟩, hl⟩
section
variable {prog : Program} {w : World} {A : Around} {E : Value → Shared → Prop} {s : Shared} {K : PySem.W.Frag} {x dx C f : Addr} {mA : Str → Option Value} {name : Str} {v : Value}
end
section
variable {P : Program} {w : World} {H H' : Hp} {h h' : Heap} {a C dx : Addr} {fs fs' : List (Str × V)}
theorem ins_get (hok : HOk P w H h) (e : H a = some (.ins C dx fs)) : ∃ mA, ObjM h a dx C mA ∧ (∀ f, RelO (fs.lookup f) (mA f)) ∧ PySem.Within mA (fs.map (·.1)) ∧ fs.length ≤ 1000 ∧ H dx = some (.own a) := by
 obtain ⟨d, z, ne, ob, mA, n, r, q⟩ := (show ObjOk P w H h a (.ins C dx fs) from hok a _ e)
 exact ⟨mA, ⟨ob, n, ne⟩, r, q, z, d⟩
end
structure Cls (K : PySem.W.Frag) (C : Addr) : Prop where
 pg : PySem.W.plainGet K C Str.empty = true
 hd : PySem.W.hasDictIn K C = true
 po : PySem.W.plainOver K C = true
 sa : PySem.W.findIn K (.ref C) "__setattr__" = some (some (.builtin "object.__setattr__"))
theorem Cls.get {K : PySem.W.Frag} {C : Addr} (c : Cls K C) (f : Str) : PySem.W.plainGet K C f = true := c.pg
structure Con (K : PySem.W.Frag) (C : Addr) (f : Str) (v : V) (u : Value) : Prop where
 at_ : PySem.W.findIn K (.ref C) f = some (some u)
 rel : RelV v u
 get : PySem.W.specialIn K u "__get__" = some none
 cp : PySem.W.copiedNames.contains f = false
structure Meth (K : PySem.W.Frag) (C : Addr) (m : Str) (f : Addr) : Prop where
 at_ : PySem.W.findIn K (.ref C) m = some (some (.ref f))
 fn : PySem.W.isFn K (.ref f) = true
 kp : PySem.W.keepIn K (.ref f) = true
section
variable {X : Cx} {pins : List (Addr × Obj)} {σ : St} {H : Hp} {s : Shared} {a C dx : Addr} {fs : List (Str × V)} {f : Str} {v : V} {A : Around} {E : Value → Shared → Prop}
end
section
variable {X : Cx} {o e value : Expr} {f : Str} {pos pos' tpos : Pos} {ta tv : TE}
end
section
variable {X : Cx} {pins : List (Addr × Obj)} {σ : St} {H : Hp} {s : Shared} {A : Around} {E : Value → Shared → Prop} {Q : Value → Shared → Prop} {c : Value} {b : Bool}
inductive TyOf (K : PySem.W.Frag) (H : Hp) : V → Value → Prop where
 | non : TyOf K H .non (.type "NoneType")
 | bl (x : Bool) : TyOf K H (.bl x) (.type "bool")
 | int (i : Int) : TyOf K H (.int i) (.type "int")
 | str (x : Str) : TyOf K H (.str x) (.type "str")
 | flt (x : UInt64) : TyOf K H (.flt x) (.type "float")
 | lst {a : Addr} {xs : List V} (e : H a = some (.lst xs)) : TyOf K H (.ref a) (.type "list")
 | frz {a : Addr} {o : Obj} {xs : List V} (e : H a = some (.frz o (.lst xs))) : TyOf K H (.ref a) (.type "list")
 | tup {a : Addr} {xs : List V} (e : H a = some (.tup xs)) : TyOf K H (.ref a) (.type "tuple")
 | dK {a : Addr} {kvs : List (Key × V)} (e : H a = some (.dK kvs)) : TyOf K H (.ref a) (.type "dict")
 | dT {a : Addr} {kvs : List (List Key × V)} (e : H a = some (.dT kvs)) : TyOf K H (.ref a) (.type "dict")
 | ins {a C dx : Addr} {fs : List (Str × V)} (e : H a = some (.ins C dx fs)) (cl : Cls K C) (ha : PySem.W.findIn K (.ref C) "__class__" = some (some (.builtin "object.__class__")))
   (hn : PySem.W.specialIn K (.builtin "object.__class__") "__get__" = some (some (.builtin "getset_descriptor.__get__"))) (htk : PySem.W.takesIn K (.builtin "object.__class__") = some true)
   (hm : PySem.W.mroIn K C (.type "object") = some true) : TyOf K H (.ref a) (.ref C)
theorem isinst_ok {x : V} {u t : Value} (I : Inv X pins σ H s) (rx : RelV x u) (ty : TyOf X.K H x t) (e : PySem.W.kitOne X.K t c = some b) (h : ∀ tk, Q (.bool b) { s with toks := tk }) :
  wpAny (model X.prog X.w) A (call (.builtin "isinstance") [u, c]) Q E s := by
 cases ty with
 | non => cases (show u = Value.none from rx); exact PySem.W.kia_one PySem.W.kitx_none I.kIn True.intro e (fun z => nomatch z) h
 | bl y => cases (show u = Value.bool y from rx); exact PySem.W.kia_one PySem.W.kitx_bool I.kIn True.intro e (fun z => nomatch z) h
 | int i => obtain ⟨t, q⟩ := (show ∃ t, u = Value.int i t from rx); cases q; exact PySem.W.kia_one PySem.W.kitx_int I.kIn True.intro e (fun z => nomatch z) h
 | str y => obtain ⟨t, q⟩ := (show ∃ t, u = Value.str y t from rx); cases q; exact PySem.W.kia_one PySem.W.kitx_str I.kIn True.intro e (fun z => nomatch z) h
 | flt y => obtain ⟨t, q⟩ := (show ∃ t, u = Value.float y t from rx); cases q; exact PySem.W.kia_one PySem.W.kitx_float I.kIn True.intro e (fun z => nomatch z) h
 | @lst a xs ea =>
  cases (show u = Value.ref a from rx)
  obtain ⟨_, _, n, _, h1⟩ := (show ObjOk X.prog X.w H s.heap a (.lst xs) from I.hok a _ ea)
  exact PySem.W.kia_one PySem.W.kitx_list I.kIn ⟨_, h1, rfl⟩ e (fun z => nomatch z) h
 | @frz a ob xs ea =>
  cases (show u = Value.ref a from rx)
  obtain ⟨_, _, _, n, _, h1⟩ := (show ObjOk X.prog X.w H s.heap a (.frz ob (.lst xs)) from I.hok a _ ea)
  exact PySem.W.kia_one PySem.W.kitx_list I.kIn ⟨_, h1, rfl⟩ e (fun z => nomatch z) h
 | @tup a xs ea =>
  cases (show u = Value.ref a from rx)
  obtain ⟨_, _, _, p⟩ := (show ObjOk X.prog X.w H s.heap a (.tup xs) from I.hok a _ ea)
  obtain ⟨o, h1, h2, _⟩ := p
  exact PySem.W.kia_one PySem.W.kitx_tuple I.kIn ⟨o, h1, h2⟩ e (fun z => nomatch z) h
 | @dK a kvs ea =>
  cases (show u = Value.ref a from rx)
  obtain ⟨_, _, vs, _, p⟩ := (show ObjOk X.prog X.w H s.heap a (.dK kvs) from I.hok a _ ea)
  obtain ⟨o, es, ep, h1, h2, _⟩ := p
  exact PySem.W.kia_one PySem.W.kitx_dict I.kIn ⟨o, h1, h2.1⟩ e (fun z => nomatch z) h
 | @dT a kvs ea =>
  cases (show u = Value.ref a from rx)
  obtain ⟨_, _, xs, _, o, es, ep, h1, h2, _⟩ := (show ObjOk X.prog X.w H s.heap a (.dT kvs) from I.hok a _ ea)
  exact PySem.W.kia_one PySem.W.kitx_dict I.kIn ⟨o, h1, h2.1⟩ e (fun z => nomatch z) h
 | @ins a C dx fs ea cl ha hn htk hm =>
  cases (show u = Value.ref a from rx)
  obtain ⟨mA, O, _⟩ := ins_get I.hok ea
  obtain ⟨od, J, _⟩ := O.look
  exact PySem.W.kia_one (PySem.W.kitx_own (cl.get _) cl.hd ha hn htk hm) I.kIn J e (fun z => nomatch z) h
end
end L2
namespace L2
open PySem PySem.Spec PyProof.Rows
structure Room (k : Nat) (A : Around) : Prop where
 hd : A.handled = none
 dp : A.depth + 3 * k + 5 < recursionLimit
 un : A.units + 16 * k + 200 < cLine
 gd : A.guards = some []
theorem Room.mono {j k : Nat} {A : Around} (r : Room k A) (h : j ≤ k) : Room j A := ⟨r.hd, by have := r.dp; omega, by have := r.un; omega, r.gd⟩
theorem Room.deeper {k : Nat} {A : Around} (r : Room (k + 1) A) (env : Env) : Room k (A.deeper env) :=
 ⟨r.hd, by have := r.dp; show A.depth + 1 + 3 * k + 5 < _; omega, by have := r.un; show A.units + 3 + 16 * k + 200 < _; omega, r.gd⟩
theorem Room.depth {k : Nat} {A : Around} (r : Room k A) : A.depth < recursionLimit := by have := r.dp; omega
theorem Room.units {k : Nat} {A : Around} (r : Room k A) : A.units + 64 < cLine := by have := r.un; omega
def tNil : TA := fun _ H Q => Q [] H
def tCons (ta : TE) (tr : TA) : TA := fun σ H Q => ta σ H fun x H1 => tr σ H1 fun xs H2 => Q (x :: xs) H2
section
variable {X : Cx} {e : Expr} {es : List Expr} {te : TE} {t : TA} {pos : Pos}
theorem pa_nil : PA X [] tNil := fun _ _ _ _ H Q I h => Calls.spliced_nil ⟨[], H, I, .nil, h⟩
theorem pa_cons (ha : PE X e te) (hr : PA X es t) (hs : starEach (e :: es) X.env = (false, eval e X.env) :: starEach es X.env := by rfl) : PA X (e :: es) (tCons te t) := by
 intro pos pins s σ H Q I h
 rw [hs]
 show wpAny _ _ (spliced ((false, eval e X.env) :: backTo pos (starEach es X.env))) _ _ s
 refine Calls.spliced_cons (thn (ha pins s σ H _ I h) fun u s1 ⟨x, H1, I1, r1, q1⟩ => ?_)
 exact thn (hr pos pins s1 σ H1 _ I1 q1) fun us s2 ⟨xs, H2, I2, r2, q2⟩ => ⟨x :: xs, H2, I2, .cons r1 r2, q2⟩
def tTup (t : TA) : TE := fun σ H Q => t σ H fun xs H1 => xs.length ≤ sizeLine ∧ ∀ p, H1 p = none → Q (.ref p) (upd H1 p (.tup xs))
def tLst (t : TA) : TE := fun σ H Q => t σ H fun xs H1 => xs.length ≤ sizeLine ∧ ∀ p, H1 p = none → Q (.ref p) (upd H1 p (.lst xs))
theorem pe_tup {x1} (h : PA X es t) : PE X (.Tuple es x1 pos) (tTup t) := by
 intro pins s σ H Q I hq
 refine wpAny_Tuple_spliced (thn (h pos pins s σ H _ I hq) fun us s1 ⟨xs, H1, I1, r, z, q⟩ => ⟨by rw [← r.length]; exact z, ?_⟩)
 have hf : H1 s1.heap.objs.size = none := I1.hok.fresh (Nat.le_refl _)
 refine ⟨.ref s1.heap.objs.size, upd H1 s1.heap.objs.size (.tup xs), I1.laid (t' := s1.toks) (fun b u e => Heap.get?_push_of_some _ e) (Nat.le_refl _) ?_, rfl, q _ hf⟩
 exact ⟨z, us, r, ⟨_, Heap.get?_push_size _ rfl, rfl, _, rfl⟩⟩
theorem pe_lst (h : PA X es t) : PE X (.List es pos) (tLst t) := by
 intro pins s σ H Q I hq
 refine wpAny_List_spliced (thn (h pos pins s σ H _ I hq) fun us s1 ⟨xs, H1, I1, r, z, q⟩ => ⟨by rw [← r.length]; exact z, ?_⟩)
 have hf : H1 s1.heap.objs.size = none := I1.hok.fresh (Nat.le_refl _)
 refine ⟨.ref s1.heap.objs.size, upd H1 s1.heap.objs.size (.lst xs), I1.laid (t' := s1.toks) (fun b u e => Heap.get?_push_of_some _ e) (Nat.le_refl _) ?_, rfl, q _ hf⟩
 exact ⟨z, us, 0, r, Heap.get?_push_size _ rfl⟩
end
abbrev Sp := List V → Hp → VK → XK → Prop
abbrev CXT := List Env → Hp → Shared → XK → Value → Shared → Prop
structure Env0 (P : Program) (w : World) (K : PySem.W.Frag) (mg : Str → Option Value) (base : Heap) (A : Around) (outer : List Env) (s : Shared) (H : Hp) : Prop where
 frames : A.frames = some outer
 mod : Mod K mg base
 bs : ∀ b o, base.get? b = some o → s.heap.get? b = some o ∧ H b = none
 bsz : base.objs.size ≤ s.heap.objs.size
 funs : s.heap.FunFrames base outer
 frf : ∀ b ∈ frs outer, H b = none
 hok : HOk P w H s.heap
 bare : AllBare s.gens
def CE (outer : List Env) (P : Program) (w : World) (H : Hp) (s : Shared) (Q : VK) (u : Value) (s' : Shared) : Prop :=
 ∃ v H', s'.os = s.os ∧ AllBare s'.gens ∧ Un (frs outer) [] H H' s.heap s'.heap ∧ HOk P w H' s'.heap ∧ RelV v u ∧ Q v H'
def CR (CX : CXT) (outer : List Env) (P : Program) (w : World) (H : Hp) (s : Shared) (Q : VK) (E : XK) (r : Result) (s' : Shared) : Prop :=
 match r with
 | .ok (.ret u) => CE outer P w H s Q u s'
 | .ok _ => False
 | .error e => CX outer H s E e s'
structure FnOk (P : Program) (w : World) (K : PySem.W.Frag) (mg : Str → Option Value) (base : Heap) (CX : CXT) (k : Nat) (f : Addr) (fd : FuncData) (ps : List Str) (sp : Sp) : Prop where
 len : ∀ vs H Q E, sp vs H Q E → vs.length = ps.length
 run : ∀ (A : Around) (outer : List Env) (s : Shared) (H : Hp) (args : Args) (us : List Value) (vs : List V) (Q : VK) (E : XK), Room k A → Env0 P w K mg base A outer s H → BindsTo s fd args (ps.zip us) → Vals vs us → sp vs H Q E →
  codeAny (model P w) A (.call (.ref f) args) (CR CX outer P w H s Q E) s
theorem FnOk.mono {P : Program} {w : World} {K : PySem.W.Frag} {mg : Str → Option Value} {base : Heap} {CX : CXT} {j k : Nat} {f : Addr} {fd : FuncData} {ps : List Str} {sp : Sp} (F : FnOk P w K mg base CX j f fd ps sp) (h : j ≤ k) :
  FnOk P w K mg base CX k f fd ps sp := ⟨F.len, fun A outer s H args us vs Q E hr => F.run A outer s H args us vs Q E (hr.mono h)⟩
section
variable {X : Cx} {pins : List (Addr × Obj)} {σ : St} {H : Hp} {s s' : Shared}
theorem Inv.env0 (I : Inv X pins σ H s) : Env0 X.prog X.w X.K X.mg X.base X.A X.stack s H :=
 ⟨I.ok.frames, I.ok.mod, I.bs, Nat.le_trans I.ok.bsz I.sz, I.stack, I.stkFree, I.hok, I.bare⟩
theorem Inv.after {Q : VK} {u : Value} (I : Inv X pins σ H s) (h : CE X.stack X.prog X.w H s Q u s') : EP X pins σ Q u s' := by
 obtain ⟨v, H', os, bare, un, hok, r, q⟩ := h
 obtain ⟨hh, g, d, t, os'⟩ := s'
 obtain rfl : os' = s.os := os
 exact ⟨v, H', I.call (h' := hh) (g' := g) (d' := d) (t' := t) (ch := []) un hok bare (fun b z => absurd z (by simp)), r, q⟩
end
def tCall (sp : Sp) (dvs : List V) (E : XK) (t : TA) : TE := fun σ H Q => t σ H fun vs H1 => sp (vs ++ dvs) H1 Q E
def Binds (K : PySem.W.Frag) (fd : FuncData) (ps : List Str) (ds : List Value) : Prop :=
 ∀ (s : Shared) (us : List Value), K.In s.heap → (us ++ ds).length = ps.length → BindsTo s fd ⟨us, []⟩ (ps.zip (us ++ ds))
theorem Binds.all {K : PySem.W.Frag} {fd : FuncData} {ps : List Str} (h : ∀ us : List Value, us.length = ps.length → bindArgs fd ⟨us, []⟩ = pure (ps.zip us)) : Binds K fd ps [] := fun s us _ hl => by
 rw [List.append_nil] at hl ⊢
 exact .of_eq (h us hl)
def Passes (CX : CXT) (X : Cx) (E : XK) : Prop := ∀ (pins : List (Addr × Obj)) (σ : St) (H : Hp) (s : Shared) (e : Value) (s' : Shared), Inv X pins σ H s → CX X.stack H s E e s' → X.xe e s'
section
variable {X : Cx} {CX : CXT} {k : Nat} {f C : Addr} {fd : FuncData} {ps : List Str} {sp : Sp} {dvs : List V} {ds : List Value} {E : XK} {x m : Str} {p pos apos : Pos} {e o : Expr} {es : List Expr} {ta : TE} {t : TA}
theorem run_fn {pins : List (Addr × Obj)} {σ : St} {H : Hp} {s : Shared} {Q : VK} {us : List Value} {vs : List V} (F : FnOk X.prog X.w X.K X.mg X.base CX k f fd ps sp) (hr : Room k X.A) (hb : Binds X.K fd ps ds) (hd : Vals dvs ds) (hx : Passes CX X E)
  (I : Inv X pins σ H s) (r : Vals vs us) (h : sp (vs ++ dvs) H Q E) : wpAny (model X.prog X.w) X.A (call (.ref f) us) (EP X pins σ Q) X.xe s := by
 have r2 : Vals (vs ++ dvs) (us ++ ds) := r.append hd
 have hl : (us ++ ds).length = ps.length := by rw [← r2.length]; exact F.len _ _ _ _ h
 refine wpAny_call (codeAny_mono (F.run X.A X.stack s H ⟨us, []⟩ (us ++ ds) (vs ++ dvs) Q E hr I.env0 (hb s us I.kIn hl) r2 h) fun r s' hq => ?_)
 cases r with
 | error e => exact hx pins σ H s e s' I hq
 | ok fl =>
  cases fl with
  | ret u => exact I.after hq
  | next => exact False.elim hq
  | brk => exact False.elim hq
  | cont => exact False.elim hq
theorem pe_call (F : FnOk X.prog X.w X.K X.mg X.base CX k f fd ps sp) (hr : Room k X.A) (hg : Gl X x) (hm : X.mg x = some (.ref f)) (hk : PySem.W.keepIn X.K (.ref f) = true) (hb : Binds X.K fd ps ds) (hd : Vals dvs ds) (hx : Passes CX X E)
  (ha : PA X (e :: es) t) (hdb : (x == ("__debug__" : Str)) = false := by decide) (he : starEach (e :: es) X.env = (false, eval e X.env) :: starEach es X.env := by rfl) (hpl : (backTo pos (starEach es X.env)).any (·.1) = false := by rfl) :
  PE X (.Call (.Name x p) (e :: es) [] pos) (tCall sp dvs E t) := by
 intro pins s σ H Q I h
 refine wpAny_Call_Name_kw (ld_glob I hg hm ?_ hdb)
 refine PySem.W.callWith_K (h₀ := X.base) I.ok.mod.kin hk (thn (ha pos pins s σ H _ I h) fun us s1 ⟨vs, H1, I1, r, q⟩ => ⟨I1.kIn, ?_⟩) he hpl
 exact run_fn F hr hb hd hx I1 r q
structure Mk (K : PySem.W.Frag) (C f : Addr) : Prop where
 makes : PySem.W.makesIn K C = true
 init : PySem.W.findIn K (.ref C) "__init__" = some (some (.ref f))
 fn : PySem.W.isFn K (.ref f) = true
 kp : PySem.W.keepIn K (.ref C) = true
end
section
variable {X : Cx} {CX : CXT} {k : Nat} {f C : Addr} {fd : FuncData} {ps ks : List Str} {sp : Sp} {E : XK} {x m : Str} {p pos apos kpos : Pos} {e o : Expr} {es : List Expr} {kws : List Keyword} {te ta : TE} {t tk : TA} {nm : Option Str}
structure KBinds (K : PySem.W.Frag) (fd : FuncData) (ps ks : List Str) (g : List Value → List Value → List Value) (gV : List V → List V → List V) : Prop where
 to : ∀ (s : Shared) (us ws : List Value), K.In s.heap → (g us ws).length = ps.length → BindsTo s fd ⟨us, ks.zip ws⟩ (ps.zip (g us ws))
 rel : ∀ {vs : List V} {us : List Value} {zs : List V} {ws : List Value}, Vals vs us → Vals zs ws → Vals (gV vs zs) (g us ws)
variable {g : List Value → List Value → List Value} {gV : List V → List V → List V}
end
structure FnScope (N P : List Str) (sc : Scope) : Prop where
 kind : sc.kind = .function
 co : sc.isCoroutine = false
 gen : sc.isGenerator = false
 nd : N.Nodup
 pre : N.take P.length = P
 par : ∀ x ∈ P, sc.names.lookup x = some .local ∨ sc.names.lookup x = some .cell
 nofree : ∀ y ∈ sc.names, y.2 ≠ .free
theorem bindL_out {kindOf : Str → Option NameKind} {x : Str} : ∀ {binds : List (Str × Value)} {m : Str → Option Value}, (∀ v, (x, v) ∉ binds) → bindL kindOf binds m x = m x
 | [], _, _ => rfl
 | (n, v) :: r, m, h => by
  unfold bindL
  rw [bindL_out fun w hw => h w (List.mem_cons_of_mem _ hw)]
  split
  ·have : x ≠ n := by rintro rfl; exact h v List.mem_cons_self
   simp [this]
  ·rfl
theorem bindC_out {kindOf : Str → Option NameKind} {x : Str} : ∀ {binds : List (Str × Value)} {m : Str → Option Value}, (∀ v, (x, v) ∉ binds) → bindC kindOf binds m x = m x
 | [], _, _ => rfl
 | (n, v) :: r, m, h => by
  unfold bindC
  rw [bindC_out fun w hw => h w (List.mem_cons_of_mem _ hw)]
  split
  ·rfl
  ·have : x ≠ n := by rintro rfl; exact h v List.mem_cons_self
   simp [this]
theorem bindL_get {kindOf : Str → Option NameKind} {x : Str} {v : Value} : ∀ {P : List Str} {vs : List Value} {i : Nat} {m : Str → Option Value}, P.Nodup → P[i]? = some x → vs[i]? = some v → kindOf x = some .local →
  bindL kindOf (P.zip vs) m x = some v
 | [], _, _, _, _, h, _, _ => by simp at h
 | _ :: _, [], _, _, _, _, h, _ => by simp at h
 | p :: P, w :: vs, 0, m, nd, h1, h2, hk => by
  simp at h1 h2; subst h1; subst h2
  show bindL kindOf ((p, w) :: P.zip vs) m p = _
  unfold bindL
  rw [bindL_out fun v hv => (List.nodup_cons.mp nd).1 (List.of_mem_zip hv).1, if_pos hk]
  simp
 | p :: P, w :: vs, i + 1, m, nd, h1, h2, hk => by
  show bindL kindOf ((p, w) :: P.zip vs) m x = _
  unfold bindL
  exact bindL_get (i := i) (List.nodup_cons.mp nd).2 (by simpa using h1) (by simpa using h2) hk
theorem bindC_get {kindOf : Str → Option NameKind} {x : Str} {v : Value} : ∀ {P : List Str} {vs : List Value} {i : Nat} {m : Str → Option Value}, P.Nodup → P[i]? = some x → vs[i]? = some v → kindOf x ≠ some .local →
  bindC kindOf (P.zip vs) m x = some v
 | [], _, _, _, _, h, _, _ => by simp at h
 | _ :: _, [], _, _, _, _, h, _ => by simp at h
 | p :: P, w :: vs, 0, m, nd, h1, h2, hk => by
  simp at h1 h2; subst h1; subst h2
  show bindC kindOf ((p, w) :: P.zip vs) m p = _
  unfold bindC
  rw [bindC_out fun v hv => (List.nodup_cons.mp nd).1 (List.of_mem_zip hv).1, if_neg hk]
  simp
 | p :: P, w :: vs, i + 1, m, nd, h1, h2, hk => by
  show bindC kindOf ((p, w) :: P.zip vs) m x = _
  unfold bindC
  exact bindC_get (i := i) (List.nodup_cons.mp nd).2 (by simpa using h1) (by simpa using h2) hk
def start (N : List Str) (vs : List V) : St := vs.map some ++ List.replicate (N.length - vs.length) none
def cxOf (CX : CXT) (P : Program) (w : World) (K : PySem.W.Frag) (mg : Str → Option Value) (base : Heap) (N : List Str) (qual : Str) (scope : Scope) (f : Addr) (cd : Value) (A : Around) (outer : List Env) (s : Shared) (H : Hp) (E : XK) : Cx where
 prog := P
 w := w
 K := K
 mg := mg
 base := base
 A := A.deeper (envOfC qual scope s.heap.objs.size f cd)
 N := N
 s₀ := s
 H₀ := H
 env := envOfC qual scope s.heap.objs.size f cd
 outer := outer
 stack := envOfC qual scope s.heap.objs.size f cd :: outer
 ex := []
 calm := true
 fn := fun _ => true
 pn := []
 xe := fun e s' => wpAny (model P w) (A.deeper (envOfC qual scope s.heap.objs.size f cd)) (leaving (envOfC qual scope s.heap.objs.size f cd) e) (fun _ s'' => CX outer H s E e s'') (fun e' s'' => CX outer H s E e' s'') s'
theorem cell_has {sc : Scope} {n : Nat} {x : Str} (h : sc.names.lookup x = some .cell) : ∃ c, (cellsFrom n sc.names []).lookup x = some c := by
 have q := PySem.W.cellsFrom_some sc.names n [] (.inl h)
 exact Option.isSome_iff_exists.mp q
theorem inv_start {CX : CXT} {P : Program} {w : World} {K : PySem.W.Frag} {mg : Str → Option Value} {base : Heap} {N ps : List Str} {qual : Str} {scope : Scope} {f : Addr} {cd : Value} {A : Around} {outer : List Env} {s s1 : Shared} {H : Hp} {E : XK} {us : List Value} {vs : List V}
  (S : FnScope N ps scope) (hd : A.handled = none) (e0 : Env0 P w K mg base A outer s H) (hl : vs.length = ps.length) (r : Vals vs us)
  (x : InCallC s s.heap.objs.size (bindL (envOfC qual scope s.heap.objs.size f cd).kindOf (ps.zip us) fun _ => none) (cellsFrom (s.heap.objs.size + 1) scope.names []) (bindC (envOfC qual scope s.heap.objs.size f cd).kindOf (ps.zip us) fun _ => none) s1) :
  Inv (cxOf CX P w K mg base N qual scope f cd A outer s H E) [] (start N vs) H s1 := by
 have hpl : ps.length ≤ N.length := by have := congrArg List.length S.pre; rw [List.length_take] at this; omega
 obtain ⟨h1, tk, rfl, hk⟩ := x.done
 have noA : ∀ b : Addr, b ∉ (cxOf CX P w K mg base N qual scope f cd A outer s H E).ex := fun b z => absurd (show b ∈ ([] : List Addr) from z) (by simp)
 refine ⟨⟨e0.mod, S.kind, rfl, rfl, Nat.le_refl _, fun y z c h1 h2 => ?_, fun y hy => ?_, fun y c _ h => ?_, fun _ => hd, Around.frames_deeper e0.frames, .inr ⟨rfl, rfl⟩, fun b z => absurd z (noA b), e0.bs, e0.bsz, fun b _ _ => noA b, fun b z => absurd z (noA b), e0.funs, e0.frf⟩,
  rfl, e0.bare, Un.kept hk, ⟨_, x.toInCall.ns, fun i y v h1 h2 h3 => ?_⟩, fun y c h => ⟨_, x.cell y c h⟩, e0.hok.fresh (Nat.le_refl _), fun y c h => ?_, fun p hp => absurd (show p ∈ ([] : List (Addr × Obj)) from hp) (by simp), e0.hok.kept hk, ?_⟩
 ·exact name_of_addr x.apart (PySem.mem_of_lookup h1) (PySem.mem_of_lookup h2)
 ·have hy : scope.names.lookup y = some .cell ∨ scope.names.lookup y = some .free := hy
  rcases hy with hy | hy
  ·exact cell_has hy
  ·exact absurd rfl (S.nofree _ (PySem.mem_of_lookup hy))
 ·exact Nat.le_of_lt (x.above y c (PySem.mem_of_lookup h))
 ·have hi : i < vs.length := by
   unfold start at h2
   by_cases hi : i < vs.length
   ·exact hi
   ·rw [List.getElem?_append_right (by simpa using hi)] at h2
    rw [List.getElem?_replicate] at h2
    split at h2 <;> cases h2
  have ha : vs[i]? = some v := by
   unfold start at h2
   rw [List.getElem?_append_left (by simpa using hi), List.getElem?_map] at h2
   cases e : vs[i]? with
   | none => rw [e] at h2; cases h2
   | some a => rw [e] at h2; cases h2; rfl
  obtain ⟨u, hu, rv⟩ := r.get ha
  have hp : ps[i]? = some y := by
   rw [← S.pre, List.getElem?_take_of_lt (by omega)]; exact h1
  have ndP : ps.Nodup := by rw [← S.pre]; exact S.nd.sublist (List.take_sublist _ _)
  refine ⟨u, rv, ?_⟩
  rcases S.par y (List.mem_of_getElem? hp) with k | k
  ·exact .inl ⟨k, bindL_get ndP hp hu k⟩
  ·obtain ⟨c, e⟩ := cell_has (n := s.heap.objs.size + 1) k
   refine .inr ⟨.inl k, c, e, ?_⟩
   have q := x.cell y c e
   rw [bindC_get ndP hp hu (by show scope.names.lookup y ≠ _; rw [k]; decide)] at q
   exact q
 ·exact e0.hok.fresh (Nat.le_of_lt (x.above y c (PySem.mem_of_lookup h)))
 ·unfold start
  show _ = N.length
  rw [List.length_append, List.length_map, List.length_replicate]
  omega
theorem fn_of {CX : CXT} {P : Program} {w : World} {K : PySem.W.Frag} {mg : Str → Option Value} {base : Heap} {k : Nat} {f : Addr} {name qual : Str} {params : Arguments} {body : List Stmt} {scope : Scope} {dV kV doc pm cdv ct oc : Value} {an od : Option Addr}
  {osl : Array (Option Value)} {N ps : List Str} {sp : Sp} (lk : K.lookup f = some ⟨oc, od, .func (PySem.W.fnOf name qual params body scope dV kV doc pm an cdv ct), osl⟩) (hcd : PySem.W.codeIn K cdv qual = true) (S : FnScope N ps scope)
  (len : ∀ vs H Q E, sp vs H Q E → vs.length = ps.length)
  (hbody : ∀ (A : Around) (outer : List Env) (s : Shared) (H : Hp) (vs : List V) (Q : VK) (E : XK), Room k (A.deeper (envOfC qual scope s.heap.objs.size f cdv)) → sp vs H Q E →
   ∃ t, PSs (cxOf CX P w K mg base N qual scope f cdv A outer s H E) body t ∧ t { nx := fun _ H' => Q .non H', rt := Q } (start N vs) H) :
  FnOk P w K mg base CX (k + 1) f (PySem.W.fnOf name qual params body scope dV kV doc pm an cdv ct) ps sp := by
 refine ⟨len, fun A outer s H args us vs Q E hr e0 hb r hsp => ?_⟩
 have hl := len _ _ _ _ hsp
 have KX : K.In s.heap := e0.mod.kin.keeps fun b o e => (e0.bs b o e).1
 have lim : s.heap.NoLimit := e0.mod.nolimit.keeps fun b o e => (e0.bs b o e).1
 have hkind : ∀ y ∈ ps.zip us, scope.names.lookup y.1 = some .local ∨ (scope.names.lookup y.1 = some .cell ∧ ((cellsFrom (s.heap.objs.size + 1) scope.names []).lookup y.1).isSome = true) := fun ⟨n, v⟩ hy => by
  rcases S.par n (List.of_mem_zip hy).1 with q | q
  ·exact .inl q
  ·exact .inr ⟨q, PySem.W.cellsFrom_some _ _ _ (.inl q)⟩
 refine codeAny_call_function hr.depth (KX _ _ lk) rfl S.co S.gen rfl (PySem.W.codeRec_of KX hcd) (hb _ _ _ _ ?_)
 refine wpAny_newFunctionEnv_cells S.kind hkind fun env he s1 x => ?_
 subst he
 refine ⟨lim.keeps x.toInCall.keep, codeAny_func ?_⟩
 obtain ⟨t, ht, hq⟩ := hbody A outer s H vs Q E (hr.deeper _) hsp
 have I : Inv (cxOf CX P w K mg base N qual scope f cdv A outer s H E) [] (start N vs) H s1 := inv_start S hr.hd e0 hl r x
 refine wpAny_mono (ht [] s1 (start N vs) H _ I hq) (fun fl s' hs => ?_) fun e s' hs => hs
 have fin : ∀ {σ' : St} {H' : Hp} {v : V} {u : Value}, Inv (cxOf CX P w K mg base N qual scope f cdv A outer s H E) [] σ' H' s' → RelV v u → Q v H' → CE outer P w H s Q u s' :=
  fun {σ' H' v u} J rv q => ⟨v, H', J.os, J.bare, J.base, J.hok, rv, q⟩
 cases fl with
 | ret u =>
  obtain ⟨v, σ', H', J, rv, q⟩ := hs
  exact fin J rv q
 | next =>
  obtain ⟨σ', H', J, q⟩ := hs
  exact fin (v := V.non) (u := Value.none) J rfl q
 | brk =>
  obtain ⟨_, _, _, q⟩ := hs
  exact False.elim q
 | cont =>
  obtain ⟨_, _, _, q⟩ := hs
  exact False.elim q
end L2
namespace L2
open PySem PySem.Spec PyProof.Rows
section
variable {X : Cx} {x : Str} {p pos : Pos} {e : Expr} {es : List Expr} {t : TA} {id T : String} {r : List V → Hp → VK → Prop}
def tCB (r : List V → Hp → VK → Prop) (t : TA) : TE := fun σ H Q => t σ H fun vs H1 => r vs H1 Q
theorem pe_callB (hc : CallR X (.builtin id) r) (hg : Gl X x) (hm : X.mg x = none) (hv : bootBuiltins x = some (.builtin id)) (ha : PA X (e :: es) t) (hn : x ≠ "__name__" := by decide) (hdb : (x == ("__debug__" : Str)) = false := by decide)
  (he : starEach (e :: es) X.env = (false, eval e X.env) :: starEach es X.env := by rfl) (hpl : (backTo pos (starEach es X.env)).any (·.1) = false := by rfl) : PE X (.Call (.Name x p) (e :: es) [] pos) (tCB r t) := by
 intro pins s σ H Q I h
 refine wpAny_Call_Name_kw (ld_blt I hg hm hv ?_ hn hdb)
 exact PyProof.Rows.callWith_builtin1 (thn (ha pos pins s σ H _ I h) fun us s1 ⟨vs, H1, I1, r1, q1⟩ => hc pins s1 σ H1 vs us Q I1 r1 q1) he hpl
theorem pe_callTy (hc : CallR X (.type T) r) (hg : Gl X x) (hm : X.mg x = none) (hv : bootBuiltins x = some (.type T)) (ha : PA X (e :: es) t) (hn : x ≠ "__name__" := by decide) (hdb : (x == ("__debug__" : Str)) = false := by decide)
  (he : starEach (e :: es) X.env = (false, eval e X.env) :: starEach es X.env := by rfl) (hpl : (backTo pos (starEach es X.env)).any (·.1) = false := by rfl) : PE X (.Call (.Name x p) (e :: es) [] pos) (tCB r t) := by
 intro pins s σ H Q I h
 refine wpAny_Call_Name_kw (ld_blt I hg hm hv ?_ hn hdb)
 exact PyProof.Rows.callWith_type1 (thn (ha pos pins s σ H _ I h) fun us s1 ⟨vs, H1, I1, r1, q1⟩ => hc pins s1 σ H1 vs us Q I1 r1 q1) he hpl
end
end L2
namespace HT
open PySem PyProof.Rows
section
open PySem.SeqAt
open PySem.AutoSeq1 (wpAny_loadPart')
open PySem.MeetsSeq PySem.MeetsSeq2 PySem.MeetsSeq3
end
section
variable {prog : Program} {w : World} {A : Around} {E : Value → Shared → Prop} {s : Shared}
def sIx (n d : Nat) : Option Int → Nat
 | none => d
 | some v => if v < 0 then (v + (n : Int)).toNat else min v.toNat n
theorem sIx_none (n d : Nat) : sIx n d none = d := rfl
theorem sIx_nat (n d k : Nat) : sIx n d (some (k : Int)) = min k n := by
 show (if (k : Int) < 0 then ((k : Int) + (n : Int)).toNat else min (k : Int).toNat n) = min k n
 rw [if_neg (by omega), Int.toNat_natCast]
end
end HT
namespace L2
open PySem PySem.Spec PyProof.Rows
abbrev TO := St → Hp → (Option Int → Hp → Prop) → Prop
def PO (X : Cx) (e : Option Expr) (t : TO) : Prop :=
 ∀ (pins : List (Addr × Obj)) (s : Shared) (σ : St) (H : Hp) (Q : Option Int → Hp → Prop), Inv X pins σ H s → t σ H Q →
  wpAny (model X.prog X.w) X.A (evalPart e X.env) (fun u s' => ∃ o H', Inv X pins σ H' s' ∧ IsPart u o ∧ Q o H') X.xe s
def tNoPart : TO := fun _ H Q => Q none H
def tPart (t : TE) : TO := fun σ H Q => t σ H fun x H1 => ∃ i, x = .int i ∧ Q (some i) H1
section
variable {X : Cx} {e : Expr} {te : TE} {lo hi : Option Expr} {tl th : TO} {pos p2 : Pos}
theorem po_none : PO X none tNoPart := by
 intro pins s σ H Q I h
 rw [evalPart_none]
 exact wpAny_pure ⟨none, H, I, .none, h⟩
theorem po_some (h : PE X e te) : PO X (some e) (tPart te) := by
 intro pins s σ H Q I hw
 rw [evalPart_some]
 refine thn (h pins s σ H _ I hw) fun u s1 ⟨x, H1, I1, r1, q1⟩ => ?_
 obtain ⟨i, rfl, q⟩ := q1
 obtain ⟨t, rfl⟩ := r1
 exact ⟨some i, H1, I1, .int i t, q⟩
def SlR (X : Cx) (r : V → Option Int → Option Int → Hp → VK → Prop) : Prop :=
 ∀ (pins : List (Addr × Obj)) (s : Shared) (σ : St) (H : Hp) (x : V) (v vl vu : Value) (lo hi : Option Int) (sl : Addr) (Q : VK), Inv X pins σ H s → RelV x v → s.heap.IsSliceOf sl vl vu .none → IsPart vl lo → IsPart vu hi → r x lo hi H Q →
  ∃ T id, typeLookup (.type T) "__getitem__" = pure (some (.builtin id)) ∧ s.TypeIs v T ∧ wpAny (model X.prog X.w) X.A (getItem v (.ref sl)) (EP X pins σ Q) X.xe s
def tSl (r : V → Option Int → Option Int → Hp → VK → Prop) (te : TE) (tl th : TO) : TE := fun σ H Q => te σ H fun x H1 => tl σ H1 fun l H2 => th σ H2 fun u H3 => r x l u H3 Q
theorem pe_slice {r : V → Option Int → Option Int → Hp → VK → Prop} (hr : SlR X r) (he : PE X e te) (hl : PO X lo tl) (hu : PO X hi th) : PE X (.Subscript e (.Slice lo hi none p2) pos) (tSl r te tl th) := by
 intro pins s σ H Q I h
 refine Subscript_ (thn (he pins s σ H _ I h) fun v s1 ⟨x, H1, I1, r1, q1⟩ => ?_)
 refine wpAny_Slice (thn (hl pins s1 σ H1 _ I1 q1) fun vl s2 ⟨l, H2, I2, pl, q2⟩ => thn (hu pins s2 σ H2 _ I2 q2) fun vu s3 ⟨u, H3, I3, pu, q3⟩ => ?_)
 rw [evalPart_none]
 refine wpAny_pure ?_
 have I4 : Inv X pins σ H3 { s3 with heap := s3.heap.push { cls := .type "slice", data := .fields #[vl, vu, .none] } } := I3.kept (t' := s3.toks) fun b ob q => Heap.get?_push_of_some _ q
 obtain ⟨T, id, hT, ht, hg⟩ := hr pins { s3 with heap := s3.heap.push { cls := .type "slice", data := .fields #[vl, vu, .none] } } σ H3 x v vl vu l u s3.heap.objs.size Q I4 r1 (Heap.IsSliceOf.new ..) pl pu q3
 show wpAny (model X.prog X.w) X.A (subscriptTail e (.Slice lo hi none p2) v (.ref s3.heap.objs.size)) (EP X pins σ Q) X.xe { s3 with heap := s3.heap.push { cls := .type "slice", data := .fields #[vl, vu, .none] } }
 exact tail_any (ops := [.ref s3.heap.objs.size, v]) ht hT hg (by with_unfolding_all rfl)
def cutV (xs : List V) (lo hi : Option Int) : List V := (xs.drop (HT.sIx xs.length 0 lo)).take (HT.sIx xs.length xs.length hi - HT.sIx xs.length 0 lo)
theorem cutV_length (xs : List V) (lo hi : Option Int) : (cutV xs lo hi).length ≤ xs.length := by
 unfold cutV
 rw [List.length_take, List.length_drop]
 omega
end
end L2
namespace L2
open PySem PySem.Spec PyProof.Rows
def ixN (n : Nat) (i : Int) : Option Nat := if 0 ≤ i then (if i < n then some i.toNat else none) else if -(n : Int) ≤ i then some (i + n).toNat else none
def atI {α : Type} (xs : List α) (i : Int) : Option α := (ixN xs.length i).bind fun j => xs[j]?
theorem ixN_seq {n : Nat} {i : Int} {j : Nat} (h : ixN n i = some j) : seqIndex? i n = some j ∧ j < n ∧ -(n : Int) ≤ i ∧ i < n := by
 unfold ixN at h
 by_cases h0 : 0 ≤ i
 ·rw [if_pos h0] at h
  by_cases h1 : i < n
  ·rw [if_pos h1] at h
   have e : i.toNat = j := Option.some.inj h
   exact ⟨by rw [seqIndex_of h0 h1, e], by omega, by omega, h1⟩
  ·rw [if_neg h1] at h; cases h
 ·rw [if_neg h0] at h
  by_cases h1 : -(n : Int) ≤ i
  ·rw [if_pos h1] at h
   have e : (i + n).toNat = j := Option.some.inj h
   exact ⟨by rw [seqIndex_neg (by omega) h1, e], by omega, h1, by omega⟩
  ·rw [if_neg h1] at h; cases h
theorem atI_get {α : Type} {xs : List α} {i : Int} {v : α} (h : atI xs i = some v) : ∃ j, seqIndex? i xs.length = some j ∧ xs[j]? = some v ∧ j < xs.length ∧ -(xs.length : Int) ≤ i ∧ i < xs.length := by
 unfold atI at h
 cases e : ixN xs.length i with
 | none => rw [e] at h; cases h
 | some j =>
  rw [e] at h
  obtain ⟨h1, h2, h3, h4⟩ := ixN_seq e
  exact ⟨j, h1, h, h2, h3, h4⟩
theorem atI_nat {α : Type} {xs : List α} {j : Nat} {v : α} (h : xs[j]? = some v) : atI xs (j : Int) = some v := by
 have hj : j < xs.length := (List.getElem?_eq_some_iff.mp h).1
 have e : ixN xs.length (j : Int) = some j := by
  unfold ixN
  rw [if_pos (by omega), if_pos (by omega)]; simp
 unfold atI; rw [e]; exact h
theorem atI_last {α : Type} (xs : List α) (v : α) : atI (xs ++ [v]) (-1) = some v := by
 have hl : (xs ++ [v]).length = xs.length + 1 := by simp
 have e : ixN (xs ++ [v]).length (-1) = some xs.length := by
  unfold ixN
  rw [hl, if_neg (by decide), if_pos (by omega)]
  congr 1
  omega
 unfold atI
 rw [e]
 show (xs ++ [v])[xs.length]? = some v
 simp
def PlainIx (b : Expr) : Prop := ∀ o i, subscripted b false o i = operate [o, i] (getItem o i)
def IxR (X : Cx) (r : R2) : Prop :=
 ∀ (value slice : Expr) (pins : List (Addr × Obj)) (s : Shared) (σ : St) (H : Hp) (x y : V) (v u : Value) (Q : VK), Inv X pins σ H s → RelV x v → RelV y u → r x y H Q →
  subscripted slice false v u = operate [v, u] (getItem v u) → wpAny (model X.prog X.w) X.A (subscriptTail value slice v u) (EP X pins σ Q) X.xe s
def MtR (X : Cx) (id : String) (r : V → List V → Hp → VK → Prop) : Prop :=
 ∀ (pins : List (Addr × Obj)) (s : Shared) (σ : St) (H : Hp) (x : V) (xs : List V) (v : Value) (us : List Value) (Q : VK), Inv X pins σ H s → RelV x v → Vals xs us → r x xs H Q →
  wpAny (model X.prog X.w) X.A (call (.builtin id) (v :: us)) (EP X pins σ Q) X.xe s
section
variable {X : Cx} {a b : Expr} {ta tb : TE} {pos : Pos}
theorem pe_ix {r : R2} (hr : IxR X r) (ha : PE X a ta) (hb : PE X b tb) (hs : PlainIx b) : PE X (.Subscript a b pos) (tOp r ta tb) := by
 intro pins s σ H Q I h
 exact Subscript_ (binT ha hb I h fun v u s2 x y H2 I2 rx ry q => hr a b pins s2 σ H2 x y v u Q I2 rx ry q (hs _ _))
def rIxL (K : PySem.W.Frag) : R2 := fun x y H Q => ∃ p xs i v, x = .ref p ∧ y = .int i ∧ SqL K H p xs ∧ atI xs i = some v ∧ Q v H
def rIxT (K : PySem.W.Frag) : R2 := fun x y H Q => ∃ p xs i v, x = .ref p ∧ y = .int i ∧ SqT K H p xs ∧ atI xs i = some v ∧ Q v H
theorem ix_list : IxR X (rIxL X.K) := by
 intro value slice pins s σ H x y v u Q I rx ry h hs
 obtain ⟨p, xs, i, z, rfl, rfl, hq, he, q⟩ := h
 cases rx
 obtain ⟨t, rfl⟩ := ry
 obtain ⟨its, r, pl, hz⟩ := I.list hq
 obtain ⟨j, h1, h2, h3, h4, h5⟩ := atI_get he
 obtain ⟨w, ew, rw'⟩ := r.get h2
 have hl := r.length
 have hn := line63
 have fin : EP X pins σ Q w s := ⟨z, H, I, rw', q⟩
 by_cases h0 : 0 ≤ i
 ·have hj : i.toNat = j := by
   rw [seqIndex_of h0 h5] at h1
   exact Option.some.inj h1
  exact item_listR pl.isList h0 (by omega) (by rw [hj]; simpa using ew) fin hs
 ·have hj : (i + (its.toArray.size : Int)).toNat = j := by
   rw [seqIndex_neg (by omega) h4] at h1
   rw [List.size_toArray, ← hl]
   exact Option.some.inj h1
  exact subscriptTail_builtinR (x := w) pl.isList.typeIs slot_list_getitem.lookup
   (wpAny_getItem_list_neg (Q := fun r s' => r = w ∧ EP X pins σ Q r s') pl.isList (by omega) (by rw [List.size_toArray] <;> omega) (by omega) (by rw [hj]; simpa using ew) ⟨rfl, fin⟩) hs
theorem ix_tup : IxR X (rIxT X.K) := by
 intro value slice pins s σ H x y v u Q I rx ry h hs
 obtain ⟨p, xs, i, z, rfl, rfl, hq, he, q⟩ := h
 cases rx
 obtain ⟨t, rfl⟩ := ry
 obtain ⟨its, r, pl, hz⟩ := I.tuple hq
 obtain ⟨j, h1, h2, h3, h4, h5⟩ := atI_get he
 obtain ⟨w, ew, rw'⟩ := r.get h2
 have hl := r.length
 have hn := line63
 have fin : EP X pins σ Q w s := ⟨z, H, I, rw', q⟩
 exact subscriptTail_builtinR (x := w) pl.typeIs slot_tuple_getitem.lookup
  (getItem_tuple (j := j) (Q := fun r s' => r = w ∧ EP X pins σ Q r s') pl (by omega) (by omega) (by rw [List.size_toArray, ← hl]; exact h1) (by simpa using ew) ⟨rfl, fin⟩) hs
theorem mapSeq_set (its : List Value) (n j : Nat) (u : Value) : Obj.mapSeq (·.setIfInBounds j u) { cls := .type "list", data := .seq its.toArray n } = { cls := .type "list", data := .seq (its.set j u).toArray n } := by
 simp [Obj.mapSeq]
theorem Inv.lst {pins : List (Addr × Obj)} {σ : St} {H : Hp} {s : Shared} {p : Addr} {xs : List V} (I : Inv X pins σ H s) (h : H p = some (.lst xs)) :
  ∃ (its : List Value) (n : Nat), Vals xs its ∧ s.heap.get? p = some { cls := .type "list", data := .seq its.toArray n } ∧ xs.length ≤ sizeLine := by
 obtain ⟨z, its, n, r, e⟩ := I.hok p _ h
 exact ⟨its, n, r, e, z⟩
theorem Inv.lstUpd {pins : List (Addr × Obj)} {σ : St} {H : Hp} {s : Shared} {p : Addr} {xs ys : List V} {its its' : List Value} {n n' : Nat} {f : Obj → Obj} (I : Inv X pins σ H s) (h : H p = some (.lst xs))
  (ho : s.heap.get? p = some { cls := .type "list", data := .seq its.toArray n }) (hf : f { cls := .type "list", data := .seq its.toArray n } = { cls := .type "list", data := .seq its'.toArray n' }) (r : Vals ys its') (hz : ys.length ≤ sizeLine) (t : Nat) :
  Inv X pins σ (upd H p (.lst ys)) { s with heap := s.heap.update p f, toks := t } := by
 have e : (s.heap.update p f).get? p = some { cls := .type "list", data := .seq its'.toArray n' } := by
  rw [Heap.get?_update_self f ho (by rw [hf] <;> rfl), hf]
 refine I.write (x := p) (e := p) (by rw [h]; trivial) (.inl rfl) (fun b u hb q => (Heap.get?_update_other _ _ (Ne.symm hb)).trans q) ⟨_, e⟩ ?_
 exact ⟨hz, its', n', r, e⟩
def rSetL : V → V → V → Hp → (Hp → Prop) → Prop := fun o i v H Q => ∃ p xs k j, o = .ref p ∧ i = .int k ∧ H p = some (.lst xs) ∧ ixN xs.length k = some j ∧ Q (upd H p (.lst (xs.set j v)))
theorem set_list : PSet X rSetL := by
 intro pins s σ H o i v ov iv u Q I ro ri rv h
 obtain ⟨p, xs, k, j, rfl, rfl, hp, hj, q⟩ := h
 cases ro
 obtain ⟨t, rfl⟩ := ri
 obtain ⟨its, n, r, ho, hz⟩ := I.lst hp
 obtain ⟨h1, h2, h3, h4⟩ := ixN_seq hj
 have hl := r.length
 have hn := line63
 have I' : Inv X pins σ (upd H p (.lst (xs.set j v))) { s with heap := s.heap.update p (Obj.mapSeq (·.setIfInBounds j u)) } :=
  I.lstUpd hp ho (mapSeq_set its n j u) (r.set rv j) (by rw [List.length_set]; exact hz) s.toks
 by_cases h0 : 0 ≤ k
 ·have hk : k.toNat = j := by
   rw [seqIndex_of h0 h4] at h1
   exact Option.some.inj h1
  exact PySem.W.ki_setAt ho h0 (by omega) (by rw [List.size_toArray, ← hl]; exact h4) (by rw [hk]; exact ⟨_, I', q⟩)
 ·have hk : (k + (its.toArray.size : Int)).toNat = j := by
   rw [seqIndex_neg (by omega) h3] at h1
   rw [List.size_toArray, ← hl]
   exact Option.some.inj h1
  exact PySem.W.ki_setBack ho (by omega) (by rw [List.size_toArray, ← hl]; exact h3) (by omega) (by rw [hk]; exact ⟨_, I', q⟩)
theorem slice_bounds (lo hi : Option Int) (n : Nat) : (sliceBounds lo hi none n).1 = ((HT.sIx n 0 lo : Nat) : Int) ∧ (sliceBounds lo hi none n).2.1 = ((HT.sIx n n hi : Nat) : Int) ∧ (sliceBounds lo hi none n).2.2 = 1 := by
 refine ⟨?_, ?_, rfl⟩
 ·cases lo with
  | none => simp [sliceBounds, HT.sIx]
  | some i =>
   simp only [sliceBounds, HT.sIx, Option.getD_none, show (1 : Int) > 0 by decide, if_true]
   by_cases h : i < 0
   ·simp only [h, if_true] <;> omega
   ·simp only [h, if_false] <;> omega
 ·cases hi with
  | none => simp [sliceBounds, HT.sIx]
  | some i =>
   simp only [sliceBounds, HT.sIx, Option.getD_none, show (1 : Int) > 0 by decide, if_true]
   by_cases h : i < 0
   ·simp only [h, if_true] <;> omega
   ·simp only [h, if_false] <;> omega
theorem slicePick_cut (its : List Value) (lo hi : Option Int) : slicePick its.toArray lo hi none = ((its.drop (HT.sIx its.length 0 lo)).take (HT.sIx its.length its.length hi - HT.sIx its.length 0 lo)).toArray := by
 obtain ⟨h1, h2, h3⟩ := slice_bounds lo hi its.toArray.size
 unfold slicePick
 rw [h1, h2, h3]
 simp only [sliceRange_one, pick_run, List.size_toArray] <;> rfl
def rSlL (K : PySem.W.Frag) : V → Option Int → Option Int → Hp → VK → Prop := fun x lo hi H Q => ∃ a xs, x = .ref a ∧ SqL K H a xs ∧ ∀ p, H p = none → Q (.ref p) (upd H p (.lst (cutV xs lo hi)))
theorem sl_list : SlR X (rSlL X.K) := by
 intro pins s σ H x v vl vu lo hi sl Q I rx hs pl pu h
 obtain ⟨a, xs, rfl, hx, q⟩ := h
 cases rx
 obtain ⟨its, r, ht, hz⟩ := I.list hx
 have hlen := r.length
 refine ⟨"list", _, slot_list_getitem.lookup, ht.isList.typeIs, ?_⟩
 refine wpAny_getItem_list_slice ht.isList hs pl pu .none (by simp) ?_ (by rw [List.size_toArray] <;> omega)
 rw [slicePick_cut, ← hlen]
 refine ⟨.ref s.heap.objs.size, _, I.laid (t' := s.toks) (o := .lst (cutV xs lo hi)) (fun b ob q => Heap.get?_push_of_some _ q) (Nat.le_refl _) ?_, rfl, q _ (I.hok.fresh (Nat.le_refl _))⟩
 exact ⟨Nat.le_trans (cutV_length xs lo hi) hz, _, 0, (r.drop (HT.sIx xs.length 0 lo)).take (HT.sIx xs.length xs.length hi - HT.sIx xs.length 0 lo), Heap.get?_push_size _ rfl⟩
def flatV : V → Bool
 | .non => true
 | .bl _ => true
 | .int _ => true
 | .str _ => true
 | _ => false
def eqV : V → V → Bool
 | .non, .non => true
 | .bl a, .bl b => a == b
 | .bl a, .int b => (if a then 1 else 0) == b
 | .int a, .bl b => a == (if b then 1 else 0)
 | .int a, .int b => a == b
 | .str a, .str b => a == b
 | _, _ => false
theorem eqAt_V {A : Around} {s : Shared} {y x : V} {u v : Value} (ry : RelV y u) (rx : RelV x v) (fy : flatV y = true) (fx : flatV x = true) : SeqAt.EqAt A s u v (eqV y x) := by
 cases y with
 | non =>
  cases ry
  cases x with
  | non => cases rx; exact SeqAt.EqAt.same _
  | bl b => cases rx; exact SeqAt.EqAt.none_bool b
  | int b => obtain ⟨t, rfl⟩ := rx; exact SeqAt.EqAt.none_int b t
  | str b => obtain ⟨t, rfl⟩ := rx; exact SeqAt.EqAt.none_str b t
  | _ => exact absurd (show false = true from fx) Bool.false_ne_true
 | bl a =>
  cases ry
  cases x with
  | non => cases rx; exact SeqAt.EqAt.bool_none a
  | bl b => cases rx; exact SeqAt.EqAt.bool_bool a b
  | int b => obtain ⟨t, rfl⟩ := rx; exact SeqAt.EqAt.bool_int a b t
  | str b => obtain ⟨t, rfl⟩ := rx; exact SeqAt.EqAt.bool_str a b t
  | _ => exact absurd (show false = true from fx) Bool.false_ne_true
 | int a =>
  obtain ⟨t', rfl⟩ := ry
  cases x with
  | non => cases rx; exact SeqAt.EqAt.int_none a t'
  | bl b => cases rx; exact SeqAt.EqAt.int_bool a t' b
  | int b => obtain ⟨t, rfl⟩ := rx; exact SeqAt.EqAt.int_int a t' b t
  | str b => obtain ⟨t, rfl⟩ := rx; exact SeqAt.EqAt.int_str a t' b t
  | _ => exact absurd (show false = true from fx) Bool.false_ne_true
 | str a =>
  obtain ⟨t', rfl⟩ := ry
  cases x with
  | non => cases rx; exact SeqAt.EqAt.str_none a t'
  | bl b => cases rx; exact SeqAt.EqAt.str_bool a t' b
  | int b => obtain ⟨t, rfl⟩ := rx; exact SeqAt.EqAt.str_int a t' b t
  | str b => obtain ⟨t, rfl⟩ := rx; exact SeqAt.EqAt.str_str a t' b t
  | _ => exact absurd (show false = true from fx) Bool.false_ne_true
 | _ => exact absurd (show false = true from fy) Bool.false_ne_true
def eqU (x : V) (u : Value) : Bool := match u with
 | .none => eqV .non x
 | .bool b => eqV (.bl b) x
 | .int i _ => eqV (.int i) x
 | .str z _ => eqV (.str z) x
 | _ => false
theorem eqU_of {x y : V} {u : Value} (r : RelV y u) (f : flatV y = true) : eqU x u = eqV y x := by
 cases y with
 | non => cases r; rfl
 | bl b => cases r; rfl
 | int i => obtain ⟨t, rfl⟩ := r; rfl
 | str z => obtain ⟨t, rfl⟩ := r; rfl
 | _ => exact absurd (show false = true from f) Bool.false_ne_true
theorem any_eqU {x : V} : ∀ {xs : List V} {us : List Value}, Vals xs us → xs.all flatV = true → us.any (eqU x) = xs.any fun y => eqV y x
 | _, _, .nil, _ => rfl
 | y :: xs, u :: us, .cons r t, f => by
  rw [List.all_cons, Bool.and_eq_true] at f
  rw [List.any_cons, List.any_cons, eqU_of r f.1, any_eqU t f.2]
theorem mem_eqAt {A : Around} {s : Shared} {x : V} {v : Value} (rx : RelV x v) (fx : flatV x = true) : ∀ {xs : List V} {us : List Value}, Vals xs us → xs.all flatV = true → ∀ u ∈ us, SeqAt.EqAt A s u v (eqU x u)
 | _, _, .nil, _ => fun u hu => by cases hu
 | y :: xs, u :: us, .cons r t, f => fun u' hu => by
  rw [List.all_cons, Bool.and_eq_true] at f
  rcases List.mem_cons.mp hu with rfl | hu
  ·rw [eqU_of r f.1]; exact eqAt_V r rx f.1 fx
  ·exact mem_eqAt rx fx t f.2 u' hu
def inV (x : V) (xs : List V) : Bool := xs.any fun y => eqV y x
def rIn (K : PySem.W.Frag) (neg : Bool) : R2 := fun x y H Q => ∃ p xs, y = .ref p ∧ (SqL K H p xs ∨ SqT K H p xs) ∧ flatV x = true ∧ xs.all flatV = true ∧ Q (.bl (if neg then !inV x xs else inV x xs)) H
theorem op_in_seq : OpR X (compareOp .In) (rIn X.K false) := by
 intro pins s σ H x y v u Q I rx ry h
 obtain ⟨p, xs, rfl, hq, fx, fs, q⟩ := h
 cases ry
 rcases hq with hq | hq
 ·obtain ⟨its, r, pl, hz⟩ := I.list hq
  refine SeqAt.in_listAt (eqU x) pl.isList (fun w hw => mem_eqAt rx fx r fs w (by simpa using hw)) ⟨.bl _, H, I, rfl, ?_⟩
  rw [show its.toArray.any (eqU x) = its.any (eqU x) by simp, any_eqU r fs]
  exact q
 ·obtain ⟨its, r, pl, hz⟩ := I.tuple hq
  refine SeqAt.in_tupleAt (eqU x) pl (fun w hw => mem_eqAt rx fx r fs w (by simpa using hw)) ⟨.bl _, H, I, rfl, ?_⟩
  rw [show its.toArray.any (eqU x) = its.any (eqU x) by simp, any_eqU r fs]
  exact q
theorem op_notIn_seq : OpR X (compareOp .NotIn) (rIn X.K true) := by
 intro pins s σ H x y v u Q I rx ry h
 obtain ⟨p, xs, rfl, hq, fx, fs, q⟩ := h
 cases ry
 rcases hq with hq | hq
 ·obtain ⟨its, r, pl, hz⟩ := I.list hq
  refine SeqAt.notIn_listAt (eqU x) pl.isList (fun w hw => mem_eqAt rx fx r fs w (by simpa using hw)) ⟨.bl _, H, I, rfl, ?_⟩
  rw [show its.toArray.any (eqU x) = its.any (eqU x) by simp, any_eqU r fs]
  exact q
 ·obtain ⟨its, r, pl, hz⟩ := I.tuple hq
  refine SeqAt.notIn_tupleAt (eqU x) pl (fun w hw => mem_eqAt rx fx r fs w (by simpa using hw)) ⟨.bl _, H, I, rfl, ?_⟩
  rw [show its.toArray.any (eqU x) = its.any (eqU x) by simp, any_eqU r fs]
  exact q
theorem call_len_seq : CallR X (.builtin "len") (fun xs H Q => ∃ p ys, xs = [.ref p] ∧ (SqL X.K H p ys ∨ SqT X.K H p ys) ∧ Q (.int ys.length) H) := by
 intro pins s σ H xs us Q I r h
 obtain ⟨p, ys, rfl, hq, q⟩ := h
 obtain ⟨u, rfl, rx⟩ := vals1 r
 cases rx
 have hn := line63
 rcases hq with hq | hq
 ·obtain ⟨its, r', pl, hz⟩ := I.list hq
  have hlen := r'.length
  exact Calls.call_len_list pl.isList (by simp only [List.size_toArray] <;> omega) ⟨.int ys.length, H, I.tok _, ⟨s.toks + 1, by rw [List.size_toArray, hlen]⟩, q⟩
 ·obtain ⟨its, r', pl, hz⟩ := I.tuple hq
  have hlen := r'.length
  exact len_tuple pl (by simp only [List.size_toArray] <;> omega) ⟨.int ys.length, H, I.tok _, ⟨s.toks + 1, by rw [List.size_toArray, hlen]⟩, q⟩
theorem call_list_of : CallR X (.type "list") (fun xs H Q => ∃ p ys, xs = [.ref p] ∧ (SqL X.K H p ys ∨ SqT X.K H p ys) ∧ ∀ l, H l = none → Q (.ref l) (upd H l (.lst ys))) := by
 intro pins s σ H xs us Q I r h
 obtain ⟨p, ys, rfl, hq, q⟩ := h
 obtain ⟨u, rfl, rx⟩ := vals1 r
 cases rx
 have fin : ∀ (its : List Value), Vals ys its → ys.length ≤ sizeLine → ∀ (h' : Heap) (c' : Nat), (∀ b o', s.heap.get? b = some o' → h'.get? b = some o') →
   h'.get? s.heap.objs.size = some { cls := .type "list", dict := none, data := .seq its.toArray c', slots := #[] } → EP X pins σ Q (.ref s.heap.objs.size) { s with heap := h' } := fun its r' hz h' c' kp e =>
  ⟨.ref s.heap.objs.size, _, I.laid (t' := s.toks) kp (Nat.le_refl _) (show ObjOk X.prog X.w _ h' _ (.lst ys) from ⟨hz, its, c', r', e⟩), rfl, q _ (I.hok.fresh (Nat.le_refl _))⟩
 rcases hq with hq | hq
 ·obtain ⟨its, r', pl, hz⟩ := I.list hq
  have hlen := r'.length
  obtain ⟨o, ho, hc, n, hd⟩ := pl.isList
  exact call_list_seq p (.inl rfl) ho hc hd (fun h' c' kp e => fin its r' hz h' c' kp e) (by simp only [List.size_toArray] <;> omega)
 ·obtain ⟨its, r', pl, hz⟩ := I.tuple hq
  have hlen := r'.length
  obtain ⟨o, ho, hc, n, hd⟩ := pl
  exact call_list_seq p (.inr rfl) ho hc hd (fun h' c' kp e => fin its r' hz h' c' kp e) (by simp only [List.size_toArray] <;> omega)
theorem call_tuple_of : CallR X (.type "tuple") (fun xs H Q => ∃ p ys, xs = [.ref p] ∧ ((SqL X.K H p ys ∧ ∀ l, H l = none → Q (.ref l) (upd H l (.tup ys))) ∨ (SqT X.K H p ys ∧ Q (.ref p) H))) := by
 intro pins s σ H xs us Q I r h
 obtain ⟨p, ys, rfl, h⟩ := h
 obtain ⟨u, rfl, rx⟩ := vals1 r
 cases rx
 rcases h with ⟨hq, q⟩ | ⟨hq, q⟩
 ·obtain ⟨its, r', pl, hz⟩ := I.list hq
  have hlen := r'.length
  refine call_tuple_list pl.isList (fun h' kp => ?_) (by simp only [List.size_toArray] <;> omega)
  have I1 : Inv X pins σ H { s with heap := h' } := I.kept (t' := s.toks) kp
  have I2 : Inv X pins σ (upd H h'.objs.size (.tup ys)) { s with heap := h'.push { cls := .type "tuple", data := .seq its.toArray } } :=
   I1.laid (t' := s.toks) (fun b o e => Heap.get?_push_of_some _ e) (Nat.le_refl _) (show ObjOk X.prog X.w _ _ _ (.tup ys) from ⟨hz, its, r', IsTup.new _ _⟩)
  exact ⟨.ref h'.objs.size, _, I2, rfl, q _ (I1.hok.fresh (Nat.le_refl _))⟩
 ·obtain ⟨its, r', pl, hz⟩ := I.tuple hq
  exact call_tuple_same pl ⟨.ref p, H, I, rfl, q⟩
def tyV (K : PySem.W.Frag) (T : String) (x : V) (H : Hp) : Prop := match x with
 | .str _ => T = "str"
 | .int _ => T = "int"
 | .ref p => (T = "list" ∧ ∃ xs, SqL K H p xs) ∨ (T = "tuple" ∧ ∃ o, K.lookup p = some o ∧ o.cls = .type "tuple" ∧ o.dict = none) ∨
   (T = "dict" ∧ ((∃ kvs, H p = some (.dK kvs)) ∨ ∃ kvs, H p = some (.dT kvs))) ∨ (T = "set" ∧ ∃ S n, H p = some (.set S n))
 | _ => False
theorem tyV_is {pins : List (Addr × Obj)} {σ : St} {H : Hp} {s : Shared} {T : String} {x : V} {v : Value} (I : Inv X pins σ H s) (r : RelV x v) (ty : tyV X.K T x H) :
  s.TypeIs v T ∧ ∀ a, v = .ref a → ∃ ob, s.heap.get? a = some ob ∧ ob.dict = none := by
 cases x with
 | str z =>
  obtain ⟨t, rfl⟩ := r
  cases (show T = "str" from ty)
  exact ⟨typeIs_str s z t, fun _ e => nomatch e⟩
 | int i =>
  obtain ⟨t, rfl⟩ := r
  cases (show T = "int" from ty)
  exact ⟨typeIs_int s i t, fun _ e => nomatch e⟩
 | ref p =>
  cases r
  rcases ty with ⟨rfl, xs, hq⟩ | ⟨rfl, o, hk, hc, hd⟩ | ⟨rfl, hk⟩ | ⟨rfl, S, n, hk⟩
  ·obtain ⟨its, _, pl, _⟩ := I.list hq
   refine ⟨pl.isList.typeIs, fun a e => ?_⟩
   cases e
   obtain ⟨o, n, e, c, hd, _⟩ := pl
   exact ⟨o, e, hd⟩
  ·refine ⟨⟨o, I.kIn p o hk, hc⟩, fun a e => ?_⟩
   cases e
   exact ⟨o, I.kIn _ o hk, hd⟩
  ·have z : ∃ o, s.heap.get? p = some o ∧ o.ExactDict := by
    rcases hk with ⟨kvs, hk⟩ | ⟨kvs, hk⟩
    ·obtain ⟨_, _, _, _, o, _, _, e, ex, _⟩ := I.hok p _ hk
     exact ⟨o, e, ex⟩
    ·obtain ⟨_, _, _, _, o, _, _, e, ex, _⟩ := I.hok p _ hk
     exact ⟨o, e, ex⟩
   obtain ⟨o, e, ex⟩ := z
   refine ⟨⟨o, e, ex.1⟩, fun a e2 => ?_⟩
   cases e2
   exact ⟨o, e, ex.2.1⟩
  ·obtain ⟨o, _, _, _, e, ex, _⟩ := I.hok p _ hk
   refine ⟨⟨o, e, ex.1⟩, fun a e2 => ?_⟩
   cases e2
   exact ⟨o, e, ex.2.1⟩
 | _ => exact False.elim ty
def tBM0 (K : PySem.W.Frag) (T : String) (r : V → List V → Hp → VK → Prop) (to : TE) : TE := fun σ H Q => to σ H fun x H1 => tyV K T x H1 ∧ r x [] H1 Q
def tBM (K : PySem.W.Frag) (T : String) (r : V → List V → Hp → VK → Prop) (to : TE) (t : TA) : TE := fun σ H Q => to σ H fun x H1 => tyV K T x H1 ∧ t σ H1 fun xs H2 => r x xs H2 Q
variable {o e : Expr} {es : List Expr} {to : TE} {t : TA} {name : Str} {apos cpos : Pos} {T id : String} {r : V → List V → Hp → VK → Prop}
theorem pe_bm0 (pa : PlainAttrs T) (slot : Slot T name id) (hty : typeOf (.builtin id) = pure (.type "method_descriptor")) (hm : MtR X id r) (ho : PE X o to)
  (hbase : attributeBase o name X.env (eval o X.env) = eval o X.env := by rfl) (hline : (apos.endLine == cpos.line) = true := by rfl) : PE X (.Call (.Attribute o name apos) [] [] cpos) (tBM0 X.K T r to) := by
 intro pins s σ H Q I h
 refine wpAny_Call_method0_late hbase hline (thn (ho pins s σ H _ I h) fun v s1 ⟨x, H1, I1, r1, ty, q1⟩ => ?_)
 obtain ⟨h1, h2⟩ := tyV_is I1 r1 ty
 exact ⟨T, id, pa, slot, hty, h1, h2, Calls.callWith_builtin rfl (PySem.evalArgs_none (hm pins s1 σ H1 x [] v [] Q I1 r1 .nil q1))⟩
theorem pe_bm (pa : PlainAttrs T) (slot : Slot T name id) (hty : typeOf (.builtin id) = pure (.type "method_descriptor")) (hm : MtR X id r) (ho : PE X o to) (ha : PA X (e :: es) t)
  (hbase : attributeBase o name X.env (eval o X.env) = eval o X.env := by rfl)
  (hfew : ((backTo cpos (starEach (e :: es) X.env)).all (fun x => !x.1) && (backToKw cpos (keywordEach [] X.env)).all (fun x => x.1.isSome)
   && decide ((e :: es).length + ([] : List Keyword).length + (if ([] : List Keyword).isEmpty then 0 else 1) < 30)) = true := by rfl)
  (hline : (apos.endLine == cpos.line) = true := by rfl) (hs : starEach (e :: es) X.env = (false, eval e X.env) :: starEach es X.env := by rfl) (hplain : (backTo cpos (starEach es X.env)).any (·.1) = false := by rfl) :
  PE X (.Call (.Attribute o name apos) (e :: es) [] cpos) (tBM X.K T r to t) := by
 intro pins s σ H Q I h
 refine wpAny_Call_method_late hbase hfew hline rfl (thn (ho pins s σ H _ I h) fun v s1 ⟨x, H1, I1, r1, ty, q1⟩ => ?_)
 obtain ⟨h1, h2⟩ := tyV_is I1 r1 ty
 refine ⟨T, id, pa, slot, hty, h1, h2, ?_⟩
 have hA := ha cpos pins s1 σ H1 _ I1 q1
 rw [hs] at hA ⊢
 refine Calls.callWith_builtin (by show (false || (backTo cpos (starEach es X.env)).any (·.1)) = false; rw [hplain] <;> rfl) (Calls.evalArgs_plain ?_)
 exact thn hA fun us s2 ⟨vs, H2, I2, r2, q2⟩ => hm pins s2 σ H2 x vs v us Q I2 r1 r2 q2
end
end L2
namespace L2
open PySem PySem.Spec PyProof.Rows
def MtM (X : Cx) (id : String) (r : V → List V → Hp → VK → Prop) : Prop :=
 ∀ (pins : List (Addr × Obj)) (s : Shared) (σ : St) (H : Hp) (x : V) (xs : List V) (v : Value) (us : List Value) (Q : VK), Inv X pins σ H s → RelV x v → Vals xs us → r x xs H Q →
  wpAny (model X.prog X.w) X.A (call (.builtin id) (v :: us)) (EP X pins σ Q) X.xe s
theorem Vals.one : ∀ {x : V} {us : List Value}, Vals [x] us → ∃ u, us = [u] ∧ RelV x u
 | _, _, .cons r .nil => ⟨_, rfl, r⟩
theorem Vals.two : ∀ {x y : V} {us : List Value}, Vals [x, y] us → ∃ u v, us = [u, v] ∧ RelV x u ∧ RelV y v
 | _, _, _, .cons r (.cons q .nil) => ⟨_, _, rfl, r, q⟩
theorem Vals.zero : ∀ {us : List Value}, Vals [] us → us = []
 | _, .nil => rfl
theorem Vals.eraseIdx : ∀ {xs : List V} {us : List Value} (i : Nat), Vals xs us → Vals (xs.eraseIdx i) (us.eraseIdx i)
 | _, _, _, .nil => .nil
 | _, _, 0, .cons _ t => t
 | _, _, i + 1, .cons r t => .cons r (Vals.eraseIdx i t)
theorem Vals.reverse {xs : List V} {us : List Value} (h : Vals xs us) : Vals xs.reverse us.reverse := by
 induction h with
 | nil => exact .nil
 | cons r t ih => rw [List.reverse_cons, List.reverse_cons]; exact Vals.append ih (.cons r .nil)
theorem len_erase {α : Type} : ∀ (l : List α) (i : Nat), (l.eraseIdx i).length ≤ l.length
 | [], _ => Nat.le_refl _
 | _ :: _, 0 => Nat.le_succ _
 | _ :: r, i + 1 => Nat.succ_le_succ (len_erase r i)
section
variable {X : Cx} {pins : List (Addr × Obj)} {σ : St} {H : Hp} {s : Shared} {l b : Addr} {xs ys zs : List V}
theorem Inv.lset {its its' : List Value} {n : Nat} {f : Array Value → Array Value} {t' : Nat} (I : Inv X pins σ H s) (hH : H l = some (.lst xs))
  (e : s.heap.get? l = some { cls := .type "list", data := .seq its.toArray n }) (hf : f its.toArray = its'.toArray) (hv : Vals ys its') (hz : ys.length ≤ sizeLine) :
  Inv X pins σ (upd H l (.lst ys)) { s with heap := s.heap.update l (Obj.mapSeq f), toks := t' } := by
 have q := PySem.IsL.update e f
 rw [hf] at q
 refine I.write (x := l) (e := l) (by rw [hH]; exact trivial) (.inl rfl) (fun b' u hb hu => (Heap.get?_update_other s.heap (Obj.mapSeq f) (Ne.symm hb)).trans hu) ⟨_, q⟩ ?_
 exact ⟨hz, its', _, hv, q⟩
theorem Inv.lnew {its : List Value} {t' : Nat} (I : Inv X pins σ H s) (hv : Vals ys its) (hz : ys.length ≤ sizeLine) :
  Inv X pins σ (upd H s.heap.objs.size (.lst ys)) { s with heap := s.heap.push { cls := .type "list", data := .seq its.toArray }, toks := t' } :=
 I.laid (fun _ _ q => Heap.get?_push_of_some _ q) (Nat.le_refl _) ⟨hz, its, 0, hv, Heap.get?_push_size _ rfl⟩
theorem Inv.fresh (I : Inv X pins σ H s) : H s.heap.objs.size = none := I.hok.fresh (Nat.le_refl _)
theorem Inv.lstM (I : Inv X pins σ H s) (hH : H l = some (.lst xs)) : xs.length ≤ sizeLine ∧ ∃ (its : List Value) (n : Nat), Vals xs its ∧ xs.length = its.length ∧ s.heap.get? l = some { cls := .type "list", data := .seq its.toArray n } := by
 obtain ⟨z, its, n, r, e⟩ := I.hok l _ hH
 exact ⟨z, its, n, r, r.length, e⟩
theorem notLongL {n : Nat} (h : n ≤ sizeLine) : Builtin.List.listTooLong n = false := by
 unfold Builtin.List.listTooLong
 exact decide_eq_false (by omega)
end
section
variable {X : Cx}
def rAppend : V → List V → Hp → VK → Prop := fun x vs H Q => ∃ l xs y, x = .ref l ∧ vs = [y] ∧ H l = some (.lst xs) ∧ xs.length < sizeLine ∧ Q .non (upd H l (.lst (xs ++ [y])))
theorem mt_append : MtM X "list.append" rAppend := by
 intro pins s σ H x vs v us Q I rx rv h
 obtain ⟨l, xs, y, rfl, rfl, hH, hz, q⟩ := h
 cases rx
 obtain ⟨u, rfl, ru⟩ := rv.one
 obtain ⟨z, its, n, r, hl, e⟩ := I.lstM hH
 refine call_meets F.slot_list_append ⟨_, e, rfl⟩ F.entry_list_append (F.args_list_append_2 _ _) (PySem.list_append l its.toArray n u (by rw [List.size_toArray]; omega)) ⟨e, ?_⟩
 refine ⟨.non, _, I.lset (its' := its ++ [u]) hH e (by simp) (r.append (.cons ru .nil)) ?_, rfl, q⟩
 rw [List.length_append, List.length_singleton]
 omega
def rExtend : V → List V → Hp → VK → Prop := fun x vs H Q => ∃ l b xs zs, x = .ref l ∧ vs = [.ref b] ∧ H l = some (.lst xs) ∧ H b = some (.lst zs) ∧ xs.length + zs.length ≤ sizeLine ∧ Q .non (upd H l (.lst (xs ++ zs)))
theorem mt_extend : MtM X "list.extend" rExtend := by
 intro pins s σ H x vs v us Q I rx rv h
 obtain ⟨l, b, xs, zs, rfl, rfl, hH, hB, hz, q⟩ := h
 cases rx
 obtain ⟨u, rfl, ru⟩ := rv.one
 cases ru
 obtain ⟨z, its, n, r, hl, e⟩ := I.lstM hH
 obtain ⟨z2, its2, n2, r2, hl2, e2⟩ := I.lstM hB
 have hsz : its.toArray.size + its2.toArray.size ≤ sizeLine := by rw [List.size_toArray, List.size_toArray]; omega
 have hlong : ¬ (!its.toArray.isEmpty && Builtin.List.listTooLong (its.toArray.size + its2.toArray.size)) = true := by
  rw [notLongL hsz, Bool.and_false]
  exact Bool.false_ne_true
 refine call_meets F.slot_list_extend ⟨_, e, rfl⟩ F.entry_list_extend (F.args_list_extend_2 _ _)
  (AutoSeq1.list_extend_list_list_0 l its.toArray n b its2.toArray n2 hlong (by rw [List.size_toArray]; omega) (by omega)) ⟨e, e2, ?_⟩
 refine ⟨.non, _, I.lset (its' := its ++ its2) hH e (by simp) (r.append r2) ?_, rfl, q⟩
 rw [List.length_append]
 omega
def rPopAt : V → List V → Hp → VK → Prop := fun x vs H Q => ∃ l xs i k y, x = .ref l ∧ vs = [.int i] ∧ H l = some (.lst xs) ∧ -(2 ^ 63) ≤ i ∧ i < 2 ^ 63 ∧ seqIndex? i xs.length = some k ∧ xs[k]? = some y ∧ Q y (upd H l (.lst (xs.eraseIdx k)))
theorem mt_popAt : MtM X "list.pop" rPopAt := by
 intro pins s σ H x vs v us Q I rx rv h
 obtain ⟨l, xs, i, k, y, rfl, rfl, hH, h1, h2, hk, hy, q⟩ := h
 cases rx
 obtain ⟨u, rfl, ru⟩ := rv.one
 obtain ⟨t, rfl⟩ := ru
 obtain ⟨z, its, n, r, hl, e⟩ := I.lstM hH
 obtain ⟨w, hw, rw'⟩ := r.get hy
 refine call_meets F.slot_list_pop ⟨_, e, rfl⟩ F.entry_list_pop (F.args_list_pop_2 _ _)
  (MeetsSeq.list_pop_at l its.toArray n i t k w (fitsIndex_both h1 h2) (by rw [List.size_toArray, ← hl]; exact hk) (by rw [← Array.getElem?_toList]; exact hw) (by rw [List.size_toArray]; omega)) ⟨e, ?_⟩
 refine ⟨y, _, I.lset (its' := its.eraseIdx k) hH e ?_ (r.eraseIdx k) ?_, rw', q⟩
 ·show its.toArray.eraseIdxIfInBounds k = (its.eraseIdx k).toArray
  rw [List.eraseIdxIfInBounds_toArray]
 ·have := len_erase xs k
  omega
def rCat : R2 := fun x y H Q => ∃ l b xs zs, x = .ref l ∧ y = .ref b ∧ H l = some (.lst xs) ∧ H b = some (.lst zs) ∧ xs.length + zs.length ≤ sizeLine ∧ ∀ p, H p = none → Q (.ref p) (upd H p (.lst (xs ++ zs)))
theorem op_cat : OpR X (binaryOp .Add) rCat := by
 intro pins s σ H x y v u Q I rx ry h
 obtain ⟨l, b, xs, zs, rfl, rfl, hH, hB, hz, q⟩ := h
 cases rx
 cases ry
 obtain ⟨z, its, n, r, hl, e⟩ := I.lstM hH
 obtain ⟨z2, its2, n2, r2, hl2, e2⟩ := I.lstM hB
 refine PySem.P.add_list e e2 ?_ (by rw [List.size_toArray, List.size_toArray]; omega)
 have ea : its.toArray ++ its2.toArray = (its ++ its2).toArray := by simp
 rw [ea]
 exact ⟨.ref _, _, I.lnew (t' := s.toks) (r.append r2) (by rw [List.length_append]; omega), rfl, q _ I.fresh⟩
end
section
variable {prog : Program} {w : World} {A : Around} {E : Value → Shared → Prop} {s : Shared}
set_option maxRecDepth 100000 in
end
section
variable {X : Cx}
end
end L2
namespace L2
open PySem PySem.Spec PyProof.Rows
section
variable {κ : Type} [DecidableEq κ]
def valV (kvs : List (κ × V)) (k : κ) : Option V := (kvs.find? fun kv => decide (kv.1 = k)).map (·.2)
def putK (kvs : List (κ × V)) (k : κ) (v : V) : List (κ × V) :=
 if (kvs.any fun kv => decide (kv.1 = k)) = true then kvs.map (fun kv => if kv.1 = k then (kv.1, v) else kv) else kvs ++ [(k, v)]
theorem valV_pos {p : κ × V} {r : List (κ × V)} {k : κ} (e : p.1 = k) : valV (p :: r) k = some p.2 := by simp [valV, List.find?_cons, e]
theorem valV_neg {p : κ × V} {r : List (κ × V)} {k : κ} (e : ¬ p.1 = k) : valV (p :: r) k = valV r k := by simp [valV, List.find?_cons, e]
theorem valV_any (k : κ) : ∀ kvs : List (κ × V), (kvs.any fun kv => decide (kv.1 = k)) = (valV kvs k).isSome
 | [] => rfl
 | p :: r => by
  rw [List.any_cons]
  by_cases e : p.1 = k
  ·simp only [valV_pos e, decide_eq_true e, Bool.true_or, Option.isSome_some]
  ·rw [valV_neg e, decide_eq_false e, Bool.false_or]; exact valV_any k r
theorem length_putK (kvs : List (κ × V)) (k : κ) (v : V) : (putK kvs k v).length ≤ kvs.length + 1 := by
 unfold putK
 split
 ·rw [List.length_map]; omega
 ·rw [List.length_append, List.length_cons, List.length_nil]; omega
theorem putK_new {kvs : List (κ × V)} {k : κ} (v : V) (h : valV kvs k = none) : putK kvs k v = kvs ++ [(k, v)] := by
 unfold putK
 rw [valV_any, h]
 exact if_neg (by decide)
theorem RelO.isSome_eq {o : Option V} {u : Option Value} (r : RelO o u) : o.isSome = u.isSome := by
 cases o with
 | none => cases u with
  | none => rfl
  | some _ => exact (show False from r).elim
 | some _ => cases u with
  | none => exact (show False from r).elim
  | some _ => rfl
theorem KV.val {kvs : List (κ × V)} {vs : List (κ × Value)} (r : KV kvs vs) (k : κ) : RelO (valV kvs k) (valueAt vs k) := by
 unfold KV at r
 induction r with
 | nil => exact True.intro
 | @cons p q ps qs h t ih =>
  obtain ⟨h1, h2⟩ := h
  by_cases e : p.1 = k
  ·have e' : q.1 = k := h1.symm.trans e
   have b : valueAt (q :: qs) k = some q.2 := by simp [valueAt, List.find?_cons, e']
   rw [valV_pos e, b]; exact h2
  ·have e' : ¬ q.1 = k := fun z => e (h1.trans z)
   have b : valueAt (q :: qs) k = valueAt qs k := by simp [valueAt, List.find?_cons, e']
   rw [valV_neg e, b]; exact ih
theorem KV.any {kvs : List (κ × V)} {vs : List (κ × Value)} (r : KV kvs vs) (k : κ) : (kvs.any fun kv => decide (kv.1 = k)) = vs.any fun kv => decide (kv.1 = k) := by
 unfold KV at r
 induction r with
 | nil => rfl
 | cons h t ih => rw [List.any_cons, List.any_cons, ih, h.1]
theorem KV.repl {kvs : List (κ × V)} {vs : List (κ × Value)} (r : KV kvs vs) (k : κ) {y : V} {u : Value} (ry : RelV y u) :
  KV (kvs.map fun kv => if kv.1 = k then (kv.1, y) else kv) (vs.map fun kv => if kv.1 = k then (kv.1, u) else kv) := by
 unfold KV at r ⊢
 induction r with
 | nil => exact .nil
 | @cons p q ps qs h t ih =>
  rw [List.map_cons, List.map_cons]
  refine .cons ?_ ih
  obtain ⟨h1, h2⟩ := h
  by_cases e : p.1 = k
  ·rw [if_pos e, if_pos (h1.symm.trans e)]; exact ⟨h1, ry⟩
  ·rw [if_neg e, if_neg (fun z => e (h1.trans z))]; exact ⟨h1, h2⟩
theorem KV.put {kvs : List (κ × V)} {vs : List (κ × Value)} (r : KV kvs vs) (k : κ) {y : V} {u : Value} (ry : RelV y u) : KV (putK kvs k y) (stored vs k u) := by
 unfold putK stored
 rw [r.any k]
 by_cases e : (vs.any fun kv => decide (kv.1 = k)) = true
 ·rw [if_pos e, if_pos e]; exact r.repl k ry
 ·rw [if_neg e, if_neg e]; exact Paired.snoc r ⟨rfl, ry⟩
theorem KV.length {kvs : List (κ × V)} {vs : List (κ × Value)} (r : KV kvs vs) : kvs.length = vs.length := Paired.length r
end
theorem kV_is {P : Program} {w : World} {k : Key} {u : Value} (r : RelV (kV k) u) : (mixKind P w).is k u = true := by
 cases k with
 | inl i => obtain ⟨t, e⟩ := (show ∃ t, u = Value.int i t from r); subst e; exact mixKind_int P w i t
 | inr x => obtain ⟨t, e⟩ := (show ∃ t, u = Value.str x t from r); subst e; exact mixKind_str P w x t
theorem items_are {P : Program} {w : World} : ∀ {ks : List Key} {us : List Value}, Vals (ks.map kV) us → ItemsAre (mixKind P w) ks us
 | [], _, r => by rw [List.map_nil] at r; cases r; exact .nil
 | k :: ks, _, r => by
  rw [List.map_cons] at r
  cases r with
  | cons h t => exact .cons (kV_is h) (items_are t)
abbrev KT (H : Hp) : List (List Key × V) → List (List Key × Addr × Value) → Prop := Paired fun p q => p.1 = q.1 ∧ H q.2.1 = some (.tup (p.1.map kV)) ∧ RelV p.2 q.2.2
theorem KT.val {H : Hp} {kvs : List (List Key × V)} {xs : List (List Key × Addr × Value)} (r : KT H kvs xs) (k : List Key) : RelO (valV kvs k) ((atKey xs k).map (·.2)) := by
 induction r with
 | nil => exact True.intro
 | @cons p q ps qs h t ih =>
  obtain ⟨h1, _, h2⟩ := h
  by_cases e : p.1 = k
  ·have e' : q.1 = k := h1.symm.trans e
   have b : atKey (q :: qs) k = some q.2 := by simp [atKey, List.find?_cons, e']
   rw [valV_pos e, b]; exact h2
  ·have e' : ¬ q.1 = k := fun z => e (h1.trans z)
   have b : atKey (q :: qs) k = atKey qs k := by simp [atKey, List.find?_cons, e']
   rw [valV_neg e, b]; exact ih
theorem KT.repl {H : Hp} {kvs : List (List Key × V)} {xs : List (List Key × Addr × Value)} (r : KT H kvs xs) (k : List Key) {y : V} {u : Value} (ry : RelV y u) :
  KT H (kvs.map fun kv => if kv.1 = k then (kv.1, y) else kv) (xs.map (putAt k u)) := by
 induction r with
 | nil => exact .nil
 | @cons p q ps qs h t ih =>
  rw [List.map_cons, List.map_cons]
  refine .cons ?_ ih
  obtain ⟨h1, h2, h3⟩ := h
  unfold putAt
  by_cases e : p.1 = k
  ·rw [if_pos e, if_pos (h1.symm.trans e)]; exact ⟨h1, h2, ry⟩
  ·rw [if_neg e, if_neg (fun z => e (h1.trans z))]; exact ⟨h1, h2, h3⟩
theorem KT.put {H : Hp} {kvs : List (List Key × V)} {xs : List (List Key × Addr × Value)} (r : KT H kvs xs) (k : List Key) {b : Addr} {y : V} {u : Value} (hb : H b = some (.tup (k.map kV))) (ry : RelV y u) :
  KT H (putK kvs k y) (storedH xs k b u) := by
 have e : (kvs.any fun kv => decide (kv.1 = k)) = (atKey xs k).isSome := by
  rw [valV_any, (r.val k).isSome_eq, Option.isSome_map]
 unfold putK storedH
 rw [e]
 by_cases q : (atKey xs k).isSome = true
 ·rw [if_pos q, if_pos q]; exact r.repl k ry
 ·rw [if_neg q, if_neg q]; exact Paired.snoc r ⟨rfl, hb, ry⟩
theorem KT.keeps {H H' : Hp} {kvs : List (List Key × V)} {xs : List (List Key × Addr × Value)} (r : KT H kvs xs) (ht : ∀ b ys, H b = some (.tup ys) → H' b = some (.tup ys)) : KT H' kvs xs :=
 Paired.mapP r fun _ _ z => ⟨z.1, ht _ _ z.2.1, z.2.2⟩
section
variable {P : Program} {w : World} {H : Hp} {h : Heap} {a : Addr}
theorem rd_of {u : HO} (ok : HOk P w H h) (e : Rd H a u) : ObjOk P w H h a u := e.ok ok
theorem dk_rd {kvs : List (Key × V)} (ok : HOk P w H h) (e : Rd H a (.dK kvs)) : kvs.length ≤ sizeLine ∧ (a == sysModules) = false ∧ ∃ vs, KV kvs vs ∧ h.DictOf (mixKind P w) a vs :=
 show ObjOk P w H h a (.dK kvs) from rd_of ok e
theorem dk_of {kvs : List (Key × V)} (ok : HOk P w H h) (e : H a = some (.dK kvs)) : kvs.length ≤ sizeLine ∧ (a == sysModules) = false ∧ ∃ vs, KV kvs vs ∧ h.DictOf (mixKind P w) a vs := dk_rd ok (.inl e)
theorem key_of {ks : List Key} (ok : HOk P w H h) (e : H a = some (.tup (ks.map kV))) : (tupleKind (mixKind P w)).is h ks a := by
 obtain ⟨_, its, r, o, h1, h2, n, h3⟩ := (show ObjOk P w H h a (.tup (ks.map kV)) from ok a _ e)
 exact ⟨o, its.toArray, n, h1, h2, h3, by simpa using items_are r⟩
theorem dt_rd {kvs : List (List Key × V)} (ok : HOk P w H h) (e : Rd H a (.dT kvs)) : kvs.length ≤ sizeLine ∧ (a == sysModules) = false ∧
  ∃ xs, KT H kvs xs ∧ h.DictOfH (tupleKind (mixKind P w)) a xs := by
 obtain ⟨z, y, xs, r, o, es, ep, h1, h2, h3, h4, h5⟩ := (show ObjOk P w H h a (.dT kvs) from rd_of ok e)
 refine ⟨z, y, xs, r, o, es, ep, h1, h2, h3, h4, fun x hx => ?_, h5⟩
 have all : ∀ {l : List (List Key × V)} {m : List (List Key × Addr × Value)}, KT H l m → ∀ x ∈ m, (tupleKind (mixKind P w)).is h x.1 x.2.1 := by
  intro l m q
  induction q with
  | nil => intro x hx; exact nomatch hx
  | @cons p q ps qs hq t ih =>
   intro x hx
   rcases List.mem_cons.mp hx with e | hx
   ·subst e
    exact key_of ok (by rw [← hq.1]; exact hq.2.1)
   ·exact ih x hx
 exact all r x hx
theorem dt_of {kvs : List (List Key × V)} (ok : HOk P w H h) (e : H a = some (.dT kvs)) : kvs.length ≤ sizeLine ∧ (a == sysModules) = false ∧
  ∃ xs, KT H kvs xs ∧ h.DictOfH (tupleKind (mixKind P w)) a xs := dt_rd ok (.inl e)
end
def DGet (H : Hp) (a : Addr) (y : V) (r : Option V) : Prop :=
 (∃ kvs k, Rd H a (.dK kvs) ∧ y = kV k ∧ r = valV kvs k) ∨ ∃ kvs k b, Rd H a (.dT kvs) ∧ y = .ref b ∧ H b = some (.tup (k.map kV)) ∧ r = valV kvs k
def DPut (H : Hp) (a : Addr) (y v : V) (H' : Hp) : Prop :=
 (∃ kvs k, H a = some (.dK kvs) ∧ y = kV k ∧ kvs.length < sizeLine ∧ H' = upd H a (.dK (putK kvs k v))) ∨
 ∃ kvs k b, H a = some (.dT kvs) ∧ y = .ref b ∧ H b = some (.tup (k.map kV)) ∧ kvs.length < sizeLine ∧ H' = upd H a (.dT (putK kvs k v))
theorem DGet.t {H : Hp} {a b : Addr} {kvs : List (List Key × V)} {k : List Key} (e : H a = some (.dT kvs)) (eb : H b = some (.tup (k.map kV))) : DGet H a (.ref b) (valV kvs k) := .inr ⟨kvs, k, b, .inl e, rfl, eb, rfl⟩
theorem DPut.t {H : Hp} {a b : Addr} {kvs : List (List Key × V)} {k : List Key} {v : V} (e : H a = some (.dT kvs)) (eb : H b = some (.tup (k.map kV))) (hl : kvs.length < sizeLine) :
  DPut H a (.ref b) v (upd H a (.dT (putK kvs k v))) := .inr ⟨kvs, k, b, e, rfl, eb, hl, rfl⟩
section
variable {X : Cx} {pins : List (Addr × Obj)} {σ : St} {H : Hp} {s : Shared} {a : Addr} {y v : V} {u r : Value} {o : Option V} {A : Around} {E : Value → Shared → Prop}
theorem Inv.big (I : Inv X pins σ H s) : sysModules < s.heap.objs.size := by
 have h : mainGlobals < s.heap.objs.size := (I.mod.glob.keeps I.bk).lt
 exact Nat.lt_trans (by decide) h
theorem d_notIn {Q : Value → Shared → Prop} (hu : A.units + 1 < cLine) (I : Inv X pins σ H s) (g : DGet H a y o) (ry : RelV y u) (h : ∀ s', Inv X pins σ H s' → Q (.bool (!o.isSome)) s') :
  wpAny (model X.prog X.w) A (compareOp .NotIn u (.ref a)) Q E s := by
 rcases g with ⟨kvs, k, e, ey, l⟩ | ⟨kvs, k, b, e, ey, eb, l⟩
 ·subst ey
  obtain ⟨z, hd, vs, rel, dd⟩ := dk_rd I.hok e
  refine wpAny_notIn_of (kV_is ry) hd dd.mapOf ?_
  rw [← (rel.val k).isSome_eq, ← l]
  exact h _ (I.tok _)
 ·subst ey
  cases (show u = Value.ref b from ry)
  obtain ⟨z, hd, xs, rel, dd⟩ := dt_rd I.hok e
  refine wpAny_notIn_heap (tupleKind_room_in1 hu) (key_of I.hok eb) hd dd ?_
  have q := (rel.val k).isSome_eq
  rw [Option.isSome_map] at q
  rw [← q, ← l]
  exact h _ (I.tok _)
theorem d_write {h' : Heap} {t' : Nat} {ob : HO} (I : Inv X pins σ H s) (mu : Mut (H a)) (hs : Heap.SameBut a s.heap h') (he : ∃ q, h'.get? a = some q) (new : ObjOk X.prog X.w (upd H a ob) h' a ob) :
  Inv X pins σ (upd H a ob) { s with heap := h', toks := t' } :=
 I.write (x := a) (e := a) mu (.inl rfl) (fun b q hb z => (hs.2 b hb).trans z) he new
theorem dk_new {P : Program} {w : World} {H' : Hp} {h' : Heap} {kvs : List (Key × V)} {vs : List (Key × Value)} (z : kvs.length ≤ sizeLine) (hd : (a == sysModules) = false) (rel : KV kvs vs) (dd : h'.DictOf (mixKind P w) a vs) :
  ObjOk P w H' h' a (.dK kvs) := ⟨z, hd, vs, rel, dd⟩
theorem d_setItem {H' : Hp} {Q : Unit → Shared → Prop} (hu : A.units + 1 < cLine) (I : Inv X pins σ H s) (g : DPut H a y v H') (ry : RelV y u) (rv : RelV v r) (h : ∀ s', Inv X pins σ H' s' → Q () s') :
  wpAny (model X.prog X.w) A (setItem (.ref a) u r) Q E s := by
 rcases g with ⟨kvs, k, e, ey, l, eH⟩ | ⟨kvs, k, b, e, ey, eb, l, eH⟩
 ·subst ey eH
  obtain ⟨z, hd, vs, rel, dd⟩ := dk_of I.hok e
  have hz : vs.length ≤ sizeLine := by rw [← rel.length]; exact z
  have hl : (putK kvs k v).length ≤ sizeLine := by have := length_putK kvs k v; omega
  refine wpAny_setItem_pairs (hsz := hz) (kV_is ry) dd fun h' dd' hs => h _ ?_
  have he : ∃ q, h'.get? a = some q := let ⟨q, _, _, hq, _⟩ := dd'; ⟨q, hq⟩
  exact d_write I (by rw [e]; exact True.intro) hs he (dk_new hl hd (rel.put k rv) dd')
 ·subst ey eH
  cases (show u = Value.ref b from ry)
  obtain ⟨z, hd, xs, rel, dd⟩ := dt_of I.hok e
  have hz : xs.length ≤ sizeLine := by rw [← Paired.length rel]; exact z
  have hl : (putK kvs k v).length ≤ sizeLine := by have := length_putK kvs k v; omega
  refine wpAny_setItem_heap (hsz := hz) (tupleKind_room_in1 hu) (key_of I.hok eb) dd fun h' dd' hs => h _ ?_
  obtain ⟨q, es, ep, hq, h2, h3, h4, _, h5⟩ := dd'
  refine d_write I (by rw [e]; exact True.intro) hs ⟨q, hq⟩ ⟨hl, hd, _, (rel.put k eb rv).keeps fun c ys ec => ?_, q, es, ep, hq, h2, h3, h4, h5⟩
  rw [upd_ne (ne_of ec e (fun z => nomatch z))]
  exact ec
end
section
variable {X : Cx} {pins : List (Addr × Obj)} {σ : St} {H : Hp} {s : Shared} {a : Addr} {kvs : List (Key × V)} {k : Key} {u : Value} {A : Around} {E : Value → Shared → Prop}
end
def tDNotIn (ty td : TE) : TE := fun σ H Q => ty σ H fun y H1 => td σ H1 fun x H2 => ∃ a o, x = .ref a ∧ DGet H2 a y o ∧ Q (.bl (!o.isSome)) H2
def sDPut (td ty tv : TE) : TS := fun D σ H => tv σ H fun v H1 => td σ H1 fun x H2 => ty σ H2 fun y H3 => ∃ a H4, x = .ref a ∧ DPut H3 a y v H4 ∧ D.nx σ H4
section
variable {X : Cx} {o i e value : Expr} {pos pos' tpos : Pos} {td ty tv : TE}
theorem pc_dnotin (hu : X.A.units + 1 < cLine) (hi : PE X i ty) (ho : PE X o td) : PC X .NotIn i o (tDNotIn ty td) := by
 intro pins s σ H Q I h
 refine thn (hi pins s σ H _ I h) fun iv s1 ⟨y, H1, I1, ry, q1⟩ => thn (ho pins s1 σ H1 _ I1 q1) fun u s2 ⟨x, H2, I2, rx, a, ov, ex, g, q2⟩ => ?_
 subst ex
 obtain rfl : u = Value.ref a := rx
 exact d_notIn hu I2 g ry fun s3 I3 => ⟨.bl (!ov.isSome), H2, I3, rfl, q2⟩
theorem ps_dput (hu : X.A.units + 1 < cLine) (ho : PE X o td) (hi : PE X i ty) (hv : PE X value tv) (hs : swapsWith value (some (.Subscript o i pos')) pos.line X.env = pure false) :
  PS X (.Assign [.Subscript o i pos'] value pos) (sDPut td ty tv) := by
 intro pins s σ H D I h
 refine wpAny_Assign_Subscript (thn (hv pins s σ H _ I h) fun r s1 ⟨v, H1, I1, rv, q1⟩ => thn (ho pins s1 σ H1 _ I1 q1) fun u s2 ⟨x, H2, I2, rx, q2⟩ => thn (hi pins s2 σ H2 _ I2 q2) fun iv s3 ⟨y, H3, I3, ry, a, H4, ex, g, q3⟩ => ?_) hs
 subst ex
 obtain rfl : u = Value.ref a := rx
 exact d_setItem hu I3 g ry rv fun s4 I4 => ⟨σ, H4, I4, q3⟩
end
theorem dk_empty {P : Program} {w : World} {H : Hp} (h : Heap) (hb : sysModules < h.objs.size) : ObjOk P w H (h.push { cls := .type "dict", data := .dict #[] }) h.objs.size (.dK []) :=
 ⟨Nat.zero_le _, beq_eq_false_iff_ne.mpr (Ne.symm (Nat.ne_of_lt hb)), [], .nil, Heap.DictOf.new h⟩
theorem dt_empty {P : Program} {w : World} {H : Hp} (h : Heap) (hb : sysModules < h.objs.size) : ObjOk P w H (h.push { cls := .type "dict", data := .dict #[] }) h.objs.size (.dT []) :=
 ⟨Nat.zero_le _, beq_eq_false_iff_ne.mpr (Ne.symm (Nat.ne_of_lt hb)), [], .nil, _, #[], 0, Heap.get?_push_size _ rfl, ⟨rfl, rfl, rfl⟩, rfl, rfl, List.nodup_nil⟩
def tDNewK : TE := fun _ H Q => ∀ p, H p = none → Q (.ref p) (upd H p (.dK []))
section
variable {X : Cx} {pos : Pos}
theorem pe_dnewK : PE X (.Dict [] [] pos) tDNewK := fun pins s σ H Q I h =>
 wpAny_Dict_empty ⟨.ref s.heap.objs.size, _, I.laid (a := s.heap.objs.size) (o := .dK []) (t' := s.toks) (fun _ _ q => Heap.get?_push_of_some _ q) (Nat.le_refl _) (dk_empty s.heap I.big), rfl, h _ (I.hok.fresh (Nat.le_refl _))⟩
end
structure M1 (X : Cx) (o : Expr) (m : Str) (apos : Pos) (e : Expr) (cpos : Pos) : Prop where
 base : attributeBase o m X.env (eval o X.env) = eval o X.env
 few : ((backTo cpos (starEach [e] X.env)).all (fun x => !x.1) && (backToKw cpos (keywordEach [] X.env)).all (fun x => x.1.isSome)
  && decide (([e] : List Expr).length + ([] : List Keyword).length + (if ([] : List Keyword).isEmpty then 0 else 1) < 30)) = true
 line : (apos.endLine == cpos.line) = true
 trees : backTo cpos (starEach [e] X.env) = [(false, eval e X.env)]
structure M2 (X : Cx) (o : Expr) (m : Str) (apos : Pos) (e f : Expr) (cpos : Pos) : Prop where
 base : attributeBase o m X.env (eval o X.env) = eval o X.env
 few : ((backTo cpos (starEach [e, f] X.env)).all (fun x => !x.1) && (backToKw cpos (keywordEach [] X.env)).all (fun x => x.1.isSome)
  && decide (([e, f] : List Expr).length + ([] : List Keyword).length + (if ([] : List Keyword).isEmpty then 0 else 1) < 30)) = true
 line : (apos.endLine == cpos.line) = true
 trees : backTo cpos (starEach [e, f] X.env) = [(false, eval e X.env), (false, eval f X.env)]
section
variable {X : Cx} {pins : List (Addr × Obj)} {σ : St} {H : Hp} {s : Shared} {a : Addr} {y d : V} {u r : Value} {o : Option V} {A : Around} {E : Value → Shared → Prop}
end
section
variable {X : Cx} {o e f : Expr} {apos cpos : Pos} {td ty tx : TE}
end
section
variable {X : Cx} {pins : List (Addr × Obj)} {σ : St} {H : Hp} {s : Shared} {a : Addr} {kvs : List (Key × V)} {A : Around} {E : Value → Shared → Prop}
end
section
variable {X : Cx} {pins : List (Addr × Obj)} {σ : St} {H : Hp} {s : Shared} {a : Addr} {y : V} {u : Value} {A : Around} {E : Value → Shared → Prop}
end
end L2
namespace Att
open PySem PySem.W PySem.Calls PyProof.Rows
theorem ints_of_wellAll {P : Params} {h : Heap} : ∀ (ns : List Int) (vs : List Value), WellAll P h vs (ns.map WData.int) → IntsAre vs ns := by
 intro ns
 induction ns with
 | nil =>
  intro vs w
  rw [List.map_nil] at w
  cases w
  exact .nil
 | cons n ns ih =>
  intro vs w
  rw [List.map_cons] at w
  cases w with
  | cons a b =>
   cases a
   exact .cons _ _ (ih _ b)
theorem script_of {l : OpenLaw} {n : Nat} (hn : l.most = some n) {P : Params} {h : Heap} {args : List WData} {vals : List Value}
  (hpre : l.row.toRowW.claim.pre args = true) (hwl : WellAll P h vals args) :
  ∃ a vs ns, vals = [Value.ref a] ∧ args = [WData.list (ns.map WData.int)] ∧ h.get? a = some { cls := .type "list", data := .seq vs.toArray } ∧ IntsAre vs ns ∧ ns.length ≤ n := by
 have hsh : WShape.hasAll [] args [.list .int] = true := (pre_splitW hpre).1
 have hc : l.pre.holds [] { args := args } = true := (pre_splitW hpre).2
 obtain ⟨d, r, rfl, h1, h2⟩ := hasAllW_cons hsh
 obtain rfl := hasAllW_nil h2
 obtain ⟨xs, rfl, h3⟩ := hasW_list h1
 obtain ⟨ns, rfl⟩ := items_int h3
 have hlen : ns.length ≤ n := by
  unfold OpenLaw.pre at hc
  have h4 : (WTm.not (.lt (.lit (.int (n : Int))) (.len (.arg 0)))).holds [] { args := [.list (ns.map .int)] } = true := by
   have h4 := (holds_andW hc).1
   rw [hn] at h4
   exact h4
  have h5 := condW_of h4 (w_not (w_lt w_lit (w_len_list (w_arg rfl))))
  rw [List.length_map] at h5
  refine Nat.le_of_not_lt fun q => ?_
  have q' : (n : Int) < ((ns.length : Nat) : Int) := by omega
  first
   | (rw [decide_eq_true q'] at h5; exact absurd h5 (by decide))
   | (simp at h5; omega)
 cases hwl with
 | cons w1 w2 =>
  cases w2
  cases w1 with
  | list ho hall => exact ⟨_, _, ns, rfl, rfl, ho, ints_of_wellAll ns _ hall, hlen⟩
theorem post_true (l : OpenLaw) (args : List WData) : l.row.toRowW.claim.post args (.bool true) args = true :=
 postW_of (r := l.row.toRowW) (X := (true == true))
  (show WShape.has [] (.bool true) .bool = true by first | rfl | decide | simp [WShape.has, WShape.arms, WShape.armsAll])
  (show (WTm.eq .res (.lit (.bool true))).value [] { args := args, res := some (.bool true), after := args } = some (.bool (true == true)) from w_eq_bool (w_res rfl) w_lit) rfl
theorem attach_call {l : OpenLaw} {n : Nat} {q : Program} {loose : List Str} {XP : (Str → Option Value) → Heap → Prop} {YP : World → Heap → Prop} {d : DefRec}
  (hn : l.most = some n) (hdf : d.params.defaults = [])
  (call : ∀ (w : World) (s₀ s₁ : Shared) (mg mb : Str → Option Value) (fa : Addr) (o : Obj) (pm cd doc : Value) (a : Addr) (vs : List Value) (ns : List Int),
   Ground q loose [] XP w s₀ mg mb s₁.heap → YP w s₁.heap →
   s₁.heap.get? fa = some o → o.data = .func (docDef d.name d.params d.body d.scope pm cd doc) → s₁.heap.CodeRec cd d.name → mg d.name = some (.ref fa) →
   s₁.heap.get? a = some { cls := .type "list", data := .seq vs.toArray } → IntsAre vs ns → ns.length ≤ n → s₁.gens = #[] →
   codeAny (model l.prog w) callerA (.call (.ref fa) ⟨[.ref a], []⟩) (fun r s' => r = .ok (.ret (.bool true)) ∧ OldK s₁.heap s'.heap ∧ s'.os = s₁.os ∧ AllBare s'.gens) s₁) :
  WalkO q loose XP YP l.row.toRowW d [] (fun f vs => PySem.call f vs) := by
 intro w s₀ s₁ mg mb G Y fa o pm cd doc dV kV ho hd hcd hD hmg hg args vals as hpre hlay hrd hwl hlo
 obtain rfl : dV = .none := Dflts.none hD hdf
 obtain rfl : kV = .none := Dflts.noKw hD
 obtain ⟨a, vs, ns, rfl, rfl, hobj, hints, hlen⟩ := script_of hn hpre hwl
 refine enter_call (codeAny_mono (call w s₀ s₁ mg mb fa o pm cd doc a vs ns G Y ho (fd_plain hd) hcd hmg hobj hints hlen hg) fun r s' hq => ?_)
 obtain ⟨rfl, h2, h3, h4⟩ := hq
 exact ⟨.inl ⟨.bool true, .bool true, [], rfl, fun _ => rfl, .bool true, post_true l _, fun _ => ⟨List.Pairwise.nil, fun _ hm => (nomatch hm)⟩⟩, h2, h3, h4⟩
section
variable {prog : Program} {w : World} {A : Around} {E : Value → Shared → Prop} {s : Shared} {K : Frag}
end
end Att
namespace L2
open PySem PySem.Spec PyProof.Rows
theorem vals_ints : ∀ {vs : List Value} {ns : List Int}, IntsAre vs ns → Vals (ns.map V.int) vs
 | _, _, .nil => .nil
 | _, _, .cons n t h => .cons ⟨t, rfl⟩ (vals_ints h)
def Only (H : Hp) : Prop := ∀ b, H b = none ∨ ∃ o xs, H b = some (.frz o (.lst xs))
theorem law_call {P : Program} {w : World} {K : PySem.W.Frag} {mg mb : Str → Option Value} {CX : CXT} {k : Nat} {fa a : Addr} {fd : FuncData} {x : Str} {sp : Sp} {s₁ : Shared} {vs : List Value} {ns : List Int}
  (KX : K.In s₁.heap) (hns : s₁.heap.Ns mainGlobals mg) (hb : s₁.heap.Ns builtinsNs mb) (hbb : ∀ x : Str, x ≠ "__name__" → mb x = bootBuiltins x) (hlim : s₁.heap.NoLimit) (hg : s₁.gens = #[])
  (ha : s₁.heap.get? a = some { cls := .type "list", data := .seq vs.toArray }) (hi : IntsAre vs ns) (hl : ns.length ≤ sizeLine) (hr : Room k callerA)
  (F : ∀ base : Heap, K.In base → base.Ns mainGlobals mg → FnOk P w K mg base CX k fa fd [x] sp) (hbind : ∀ (s : Shared) (u : Value), BindsTo s fd ⟨[u], []⟩ [(x, u)])
  (hsp : ∀ H : Hp, Only H → SqL K H a (ns.map V.int) → sp [.ref a] H (fun v _ => v = .bl true) fun _ _ _ => False)
  (hCX : ∀ H e s', CX [] H s₁ (fun _ _ _ => False) e s' → False) :
  codeAny (model P w) callerA (.call (.ref fa) ⟨[.ref a], []⟩) (fun r s' => r = .ok (.ret (.bool true)) ∧ OldK s₁.heap s'.heap ∧ s'.os = s₁.os ∧ AllBare s'.gens) s₁ := by
 have rv := vals_ints hi
 have lenV := hi.length
 have core : ∀ H : Hp, Only H → SqL K H a (ns.map V.int) → HOk P w H s₁.heap → (∀ b, H b ≠ none → b = a) → (H a ≠ none → K.lookup a = none) →
   codeAny (model P w) callerA (.call (.ref fa) ⟨[.ref a], []⟩) (fun r s' => r = .ok (.ret (.bool true)) ∧ OldK s₁.heap s'.heap ∧ s'.os = s₁.os ∧ AllBare s'.gens) s₁ := by
  intro H hO hS hok hA hK
  have base_of : ∀ {b : Addr} {o : Obj}, s₁.heap.get? b = some o → H b = none → (hidT s₁.heap H).get? b = some o := fun e n => hidT_get e n
  have noA : ∀ {b : Addr} {o : Obj} {es : Array DictEntry} {ep : Nat}, s₁.heap.get? b = some o → o.data = .dict es ep → H b = none := fun {b o es ep} e d => by
   cases q : H b with
   | none => rfl
   | some u =>
    have e' : b = a := hA b (by rw [q]; simp)
    subst e'
    rw [ha] at e; cases e
    have d' : Data.seq vs.toArray _ = Data.dict es ep := d
    cases d'
  have nsK : ∀ {b : Addr} {m : Str → Option Value}, s₁.heap.Ns b m → (hidT s₁.heap H).Ns b m := fun {b m} ⟨o, es, ep, e, d, r⟩ => ⟨o, es, ep, base_of e (noA e d), d, r⟩
  have hKb : K.In (hidT s₁.heap H) := fun b o e => base_of (KX b o e) (by
   cases q : H b with
   | none => rfl
   | some u =>
    have e' : b = a := hA b (by rw [q]; simp)
    subst e'
    rw [hK (by rw [q]; simp)] at e; cases e)
  have hM : Mod K mg (hidT s₁.heap H) := ⟨hKb, nsK hns, ⟨mb, nsK hb, hbb⟩, let ⟨mc, h1, h2⟩ := hlim; ⟨mc, nsK h1, h2⟩⟩
  have e0 : Env0 P w K mg (hidT s₁.heap H) callerA [] s₁ H := ⟨rfl, hM, fun b o e => of_hidT e, Nat.le_of_eq (hidT_size _ _), trivial, fun b hb => absurd (show b ∈ ([] : List Addr) from hb) (by simp), hok, .of_eq hg⟩
  refine codeAny_mono ((F _ hKb (nsK hns)).run callerA [] s₁ H ⟨[.ref a], []⟩ [.ref a] [.ref a] _ _ hr e0 (hbind s₁ (.ref a)) (.cons rfl .nil) (hsp H hO hS)) fun r s' h => ?_
  cases r with
  | error e => exact (hCX H e s' h).elim
  | ok fl =>
   cases fl with
   | next => exact False.elim h
   | brk => exact False.elim h
   | cont => exact False.elim h
   | ret u =>
    obtain ⟨v, H', os, bare, un, hok', r', q⟩ := h
    have q' : v = .bl true := q
    subst q'
    obtain rfl : u = Value.bool true := r'
    refine ⟨rfl, OldK.of_keep fun b o e => ?_, os, bare⟩
    cases q : H b with
    | none => exact un.keep b o e q (by intro z; exact absurd (show b ∈ ([] : List Addr) from z) (by simp)) (by simp)
    | some u =>
     rcases hO b with z | ⟨ob, xs, z⟩
     ·rw [q] at z; cases z
     ·have z2 := un.frzs b ob _ z
      obtain ⟨e1, _⟩ := hok b _ z
      obtain ⟨e2, _⟩ := hok' b _ z2
      rw [e] at e1; cases e1
      exact e2
 cases hk : K.lookup a with
 | some o =>
  have e := KX a o hk
  rw [ha] at e
  cases e
  refine core (fun _ => none) (fun _ => .inl rfl) (.inr ⟨_, vs.toArray, _, hk, rfl, rfl, rfl, by rw [List.size_toArray, lenV]; exact hl, by simpa using rv⟩) (fun b u z => by have z' : (none : Option HO) = some u := z; cases z') (fun b z => absurd rfl z) fun z => absurd rfl z
 | none =>
  refine core (fun b => if b = a then some (.frz { cls := .type "list", data := .seq vs.toArray } (.lst (ns.map V.int))) else none) (fun b => ?_) (.inl (.inr ⟨{ cls := .type "list", data := .seq vs.toArray }, if_pos rfl⟩)) (fun b u z => ?_) (fun b z => ?_) fun _ => hk
  ·by_cases hb : b = a
   ·exact .inr ⟨_, _, if_pos hb⟩
   ·exact .inl (if_neg hb)
  ·by_cases hb : b = a
   ·have z' := (if_pos hb).symm.trans z
    cases z'
    subst hb
    exact ⟨ha, by rw [List.length_map]; exact hl, vs, _, rv, ha⟩
   ·have z' := (if_neg hb).symm.trans z
    cases z'
  ·by_cases hb : b = a
   ·exact hb
   ·exact absurd (if_neg hb) z
end L2
namespace L2
open PySem PySem.Spec PyProof.Rows
theorem walk_of {l : PySem.W.OpenLaw} {n k : Nat} {q : Program} {loose : List Str} {XP : (Str → Option Value) → Heap → Prop} {YP : World → Heap → Prop} {d : DefRec} {K : Params → PySem.W.Frag} {CX : World → CXT} {sp : World → Sp} {x : Str}
  (hn : l.most = some n) (hn2 : n ≤ sizeLine) (hdf : d.params.defaults = []) (hr : Room k callerA)
  (hY : ∀ (w : World) (h : Heap), YP w h → (K w.params).In h)
  (F : ∀ (w : World) (mg : Str → Option Value) (fa : Addr) (h : Heap), (K w.params).In h → h.Ns mainGlobals mg → mg d.name = some (.ref fa) →
   ∃ fd : FuncData, (∀ (s : Shared) (u : Value), BindsTo s fd ⟨[u], []⟩ [(x, u)]) ∧
    ∀ base : Heap, (K w.params).In base → base.Ns mainGlobals mg → FnOk l.prog w (K w.params) mg base (CX w) k fa fd [x] (sp w))
  (hsp : ∀ (w : World) (H : Hp) (a : Addr) (ns : List Int), ns.length ≤ n → Only H → SqL (K w.params) H a (ns.map V.int) → sp w [.ref a] H (fun v _ => v = .bl true) fun _ _ _ => False)
  (hCX : ∀ (w : World) (H : Hp) (s : Shared) (e : Value) (s' : Shared), CX w [] H s (fun _ _ _ => False) e s' → False) :
  PySem.W.WalkO q loose XP YP l.row.toRowW d [] (fun f vs => PySem.call f vs) := by
 refine Att.attach_call hn hdf fun w s₀ s₁ mg mb fa o pm cd doc a vs ns G Y ho hd hcd hmg hobj hints hlen hg => ?_
 have KX := hY w _ Y
 obtain ⟨fd, hb, hF⟩ := F w mg fa _ KX G.T.g hmg
 exact law_call KX G.T.g G.T.b G.T.builtins G.T.nolimit hg hobj hints (Nat.le_trans hlen hn2) hr hF hb (fun H hO hS => hsp w H a ns hlen hO hS) fun H e s' => hCX w H s₁ e s'
end L2
namespace L2
open PySem PySem.Spec PyProof.Rows
def inClass (s : Stmt) (j : Nat) : Stmt := match s with
 | .ClassDef _ _ _ body _ _ _ _ _ _ _ => body.getD j (.Pass ⟨0, 0, 0, 0⟩)
 | _ => .Pass ⟨0, 0, 0, 0⟩
def defArgs (s : Stmt) : Arguments := match s with
 | .FunctionDef _ a _ _ _ _ _ _ _ _ => a
 | _ => { posonlyargs := [], args := [], vararg := none, kwonlyargs := [], kw_defaults := [], kwarg := none, defaults := [] }
def defBody (s : Stmt) : List Stmt := match s with
 | .FunctionDef _ _ b _ _ _ _ _ _ _ => b
 | _ => []
def defScope (s : Stmt) : Scope := match s with
 | .FunctionDef _ _ _ _ _ _ sc _ _ _ => sc
 | _ => { kind := .function, names := [], isGenerator := false, isCoroutine := false }
abbrev CX0 : CXT := fun _ _ _ _ _ _ => False
abbrev E0 : XK := fun _ _ _ => False
theorem pass0 {X : Cx} : Passes CX0 X E0 := fun _ _ _ _ _ _ _ h => h.elim
structure Fun (K : PySem.W.Frag) (x qual : Str) (st : Stmt) (f : Addr) (fd : FuncData) : Prop where
 ex : ∃ (oc : Value) (od : Option Addr) (kV doc pm : Value) (an : Option Addr) (cdv ct : Value) (osl : Array (Option Value)),
  fd = PySem.W.fnOf x qual (defArgs st) (defBody st) (defScope st) .none kV doc pm an cdv ct ∧ K.lookup f = some ⟨oc, od, .func fd, osl⟩ ∧ PySem.W.codeIn K cdv qual = true
 kp : PySem.W.keepIn K (.ref f) = true
section
variable {P : Program} {w : World} {K : PySem.W.Frag} {mg : Str → Option Value} {base : Heap}
theorem Fun.ok {x qual : Str} {st : Stmt} {f : Addr} {fd : FuncData} {N ps : List Str} {k : Nat} {sp : Sp} (F : Fun K x qual st f fd) (S : FnScope N ps (defScope st)) (len : ∀ vs H Q E, sp vs H Q E → vs.length = ps.length)
  (hbody : ∀ (cdv : Value) (A : Around) (outer : List Env) (s : Shared) (H : Hp) (vs : List V) (Q : VK) (E : XK), Room k (A.deeper (envOfC qual (defScope st) s.heap.objs.size f cdv)) → sp vs H Q E →
   ∃ t, PSs (cxOf CX0 P w K mg base N qual (defScope st) f cdv A outer s H E).nox (defBody st) t ∧ t { nx := fun _ H' => Q .non H', rt := Q } (start N vs) H) : FnOk P w K mg base CX0 (k + 1) f fd ps sp := by
 obtain ⟨oc, od, kV, doc, pm, an, cdv, ct, osl, rfl, lk, hcd⟩ := F.ex
 refine fn_of lk hcd S len fun A outer s H vs Q E hr hsp => ?_
 obtain ⟨t, h, q⟩ := hbody cdv A outer s H vs Q E hr hsp
 exact ⟨t, h.nox, q⟩
theorem Fun.binds {x qual : Str} {st : Stmt} {f : Addr} {fd : FuncData} {ps : List Str} (F : Fun K x qual st f fd)
  (h : ∀ (kV doc pm : Value) (an : Option Addr) (cdv ct : Value) (us : List Value), us.length = ps.length → bindArgs (PySem.W.fnOf x qual (defArgs st) (defBody st) (defScope st) .none kV doc pm an cdv ct) ⟨us, []⟩ = pure (ps.zip us)) : Binds K fd ps [] := by
 obtain ⟨oc, od, kV, doc, pm, an, cdv, ct, osl, rfl, lk, hcd⟩ := F.ex
 exact .all (h kV doc pm an cdv ct)
theorem fun_mk {x qual : Str} {st : Stmt} {f : Addr} {oc : Value} {od an : Option Addr} {osl : Array (Option Value)} {kV doc pm cdv ct : Value} (l : K.lookup f = some ⟨oc, od, .func (PySem.W.fnOf x qual (defArgs st) (defBody st) (defScope st) .none kV doc pm an cdv ct), osl⟩)
  (c : PySem.W.codeIn K cdv qual = true) (k : PySem.W.keepIn K (.ref f) = true) : Fun K x qual st f (PySem.W.fnOf x qual (defArgs st) (defBody st) (defScope st) .none kV doc pm an cdv ct) := ⟨⟨oc, od, kV, doc, pm, an, cdv, ct, osl, rfl, l, c⟩, k⟩
end
theorem hu_of {A : Around} {k : Nat} (hr : Room k A) : A.units + 1 < cLine := Nat.lt_of_le_of_lt (Nat.add_le_add_left (by decide : 1 ≤ 64) _) hr.units
theorem small1000 {n : Nat} (h : n ≤ 1000) : n < sizeLine := Nat.lt_of_le_of_lt h (by decide)
section
variable {X : Cx}
theorem pv (i : Nat) {x : Str} {pos : Pos} (hN : X.N[i]? = some x := by rfl) (hv : Vis X.env.scope x := by first | exact Or.inl rfl | exact Or.inr (Or.inl rfl) | exact Or.inr (Or.inr rfl)) (hd : (x == ("__debug__" : Str)) = false := by decide)
  (hcd : (x == ("__classdict__" : Str)) = false := by decide) : PE X (.Name x pos) (tVar i) := pe_var hN hv hd hcd
end
theorem iteF {A B : Prop} (h : B) : if false = true then A else B := by
 rw [if_neg Bool.false_ne_true]
 exact h
theorem iteT {A B : Prop} (h : A) : if true = true then A else B := by
 rw [if_pos rfl]
 exact h
theorem ite2 {c A B : Prop} [Decidable c] (h1 : c → A) (h2 : ¬ c → B) : if c then A else B := by
 by_cases h : c
 ·rw [if_pos h]
  exact h1 h
 ·rw [if_neg h]
  exact h2 h
def Same (H H' : Hp) : Prop := ∀ b o, H b = some o → H' b = some o
theorem Same.trans {H H1 H2 : Hp} (a : Same H H1) (b : Same H1 H2) : Same H H2 := fun c o h => b c o (a c o h)
theorem Same.seq {K : PySem.W.Frag} {H H' : Hp} {a : Addr} {xs : List V} (e : Same H H') (h : SqL K H a xs) : SqL K H' a xs := by
 rcases h with (h | ⟨o, h⟩) | h
 ·exact .inl (.inl (e _ _ h))
 ·exact .inl (.inr ⟨o, e _ _ h⟩)
 ·exact .inr h
section
variable {κ : Type} [DecidableEq κ]
end
end L2
set_option maxHeartbeats 4000000
namespace L2
open PySem PySem.Spec PyProof.Rows
def closL (cells : List (Str × Addr)) : List (Str × NameKind) → List (Str × Addr) → List (Str × Addr)
 | [], cs => cs
 | (n, k) :: r, cs => if (k == NameKind.free) = true then closL cells r ((n, (cells.lookup n).getD 0) :: cs) else closL cells r cs
theorem closL_mem {cells : List (Str × Addr)} : ∀ {names : List (Str × NameKind)} {cs : List (Str × Addr)}, (∀ x ∈ names, x.2 = .free → ∃ c, cells.lookup x.1 = some c) → (∀ p ∈ cs, cells.lookup p.1 = some p.2) →
  ∀ p ∈ closL cells names cs, cells.lookup p.1 = some p.2
 | [], _, _, h, p, hp => h p hp
 | (n, k) :: r, cs, hn, h, p, hp => by
  unfold closL at hp
  have hr : ∀ x ∈ r, x.2 = .free → ∃ c, cells.lookup x.1 = some c := fun x hx => hn x (List.mem_cons_of_mem _ hx)
  by_cases hk : (k == NameKind.free) = true
  ·rw [if_pos hk] at hp
   refine closL_mem hr (fun q hq => ?_) p hp
   rcases List.mem_cons.mp hq with e | hq
   ·obtain ⟨c, hc⟩ := hn (n, k) List.mem_cons_self (by simpa using hk)
    have hc' : cells.lookup n = some c := hc
    subst e
    show cells.lookup n = some ((cells.lookup n).getD 0)
    rw [hc']; rfl
   ·exact h q hq
  ·rw [if_neg hk] at hp
   exact closL_mem hr h p hp
theorem closL_keeps {cells : List (Str × Addr)} {p : Str × Addr} : ∀ {names : List (Str × NameKind)} {cs : List (Str × Addr)}, p ∈ cs → p ∈ closL cells names cs
 | [], _, h => h
 | (n, k) :: r, cs, h => by
  unfold closL
  split
  ·exact closL_keeps (List.mem_cons_of_mem _ h)
  ·exact closL_keeps h
theorem closL_has {cells : List (Str × Addr)} {x : Str} : ∀ {names : List (Str × NameKind)} {cs : List (Str × Addr)}, (x, NameKind.free) ∈ names → ∃ c, (x, c) ∈ closL cells names cs
 | [], _, h => nomatch h
 | (n, k) :: r, cs, h => by
  unfold closL
  rcases List.mem_cons.mp h with e | h
  ·cases e
   rw [if_pos (show (NameKind.free == NameKind.free) = true from rfl)]
   exact ⟨_, closL_keeps List.mem_cons_self⟩
  ·split
   ·exact closL_has h
   ·exact closL_has h
theorem lookup_of_mem {α β : Type} [BEq α] [LawfulBEq α] {x : α} {c : β} : ∀ {l : List (α × β)}, (x, c) ∈ l → ∃ d, l.lookup x = some d
 | [], h => nomatch h
 | (y, d) :: r, h => by
  rw [List.lookup_cons]
  cases e : x == y with
  | true => exact ⟨d, rfl⟩
  | false =>
   rcases List.mem_cons.mp h with z | h
   ·cases z; rw [beq_self_eq_true] at e; cases e
   ·exact lookup_of_mem h
theorem closureFor_closL {scope : Scope} {env : Env} (h : ∀ x ∈ scope.names, x.2 = .free → ∃ c, env.cells.lookup x.1 = some c) : closureFor scope env = pure (closL env.cells scope.names []) := by
 have key : ∀ (names : List (Str × NameKind)) (cs : List (Str × Addr)), (∀ x ∈ names, x.2 = .free → ∃ c, env.cells.lookup x.1 = some c) →
   (forIn names cs fun x r => if (x.2 == NameKind.free) = true then (do let c ← cellOf env x.1; pure (ForInStep.yield ((x.1, c) :: r))) else pure (ForInStep.yield r) : Sem (List (Str × Addr))) = pure (closL env.cells names cs) := by
  intro names
  induction names with
  | nil => intro cs _; rfl
  | cons x r ih =>
   intro cs hn
   obtain ⟨n, k⟩ := x
   rw [List.forIn_cons]
   unfold closL
   have hr : ∀ x ∈ r, x.2 = .free → ∃ c, env.cells.lookup x.1 = some c := fun x hx => hn x (List.mem_cons_of_mem _ hx)
   by_cases hk : (k == NameKind.free) = true
   ·obtain ⟨c, hc⟩ := hn (n, k) List.mem_cons_self (by simpa using hk)
    have hc' : env.cells.lookup n = some c := hc
    have e : cellOf env n = pure c := by unfold cellOf; rw [hc']
    dsimp only
    rw [if_pos hk, if_pos hk, e, pure_bind, pure_bind, hc']
    exact ih _ hr
   ·dsimp only
    rw [if_neg hk, if_neg hk, pure_bind]
    exact ih _ hr
 have e := key scope.names [] h
 simp only [closureFor, bind_pure]
 exact e
theorem lookup_relabel {env : Env} {x : Str} : ∀ (names : List (Str × NameKind)),
  (names.map fun (n, k) => if (k == NameKind.free && env.scope.kind == .function && env.kindOf n == some .cell) then (n, NameKind.cell) else (n, k)).lookup x =
   (names.lookup x).map fun k => if (k == NameKind.free && env.scope.kind == .function && env.kindOf x == some .cell) then NameKind.cell else k
 | [] => rfl
 | (n, k) :: r => by
  have ih := lookup_relabel (env := env) (x := x) r
  show List.lookup x ((if (k == NameKind.free && env.scope.kind == .function && env.kindOf n == some .cell) = true then (n, NameKind.cell) else (n, k)) :: _) = _
  cases hx : x == n with
  | true =>
   have e : x = n := eq_of_beq hx
   subst e
   by_cases hc : (k == NameKind.free && env.scope.kind == .function && env.kindOf x == some .cell) = true
   ·rw [if_pos hc]; simp only [List.lookup_cons, hx, Option.map_some, hc, if_true]
   ·rw [if_neg hc]; simp only [List.lookup_cons, hx, Option.map_some, hc]; rfl
  | false =>
   by_cases hc : (k == NameKind.free && env.scope.kind == .function && env.kindOf n == some .cell) = true
   ·rw [if_pos hc]; simp only [List.lookup_cons, hx]; exact ih
   ·rw [if_neg hc]; simp only [List.lookup_cons, hx]; exact ih
def hid (xs : List Str) (y : Str) : Str := if xs.contains y then y ++ ("#" : Str) else y
def blkN (xs N : List Str) : List Str := xs ++ N.map (hid xs)
structure BlkScope (X : Cx) (xs : List Str) (sc : Scope) : Prop where
 kind : sc.kind = .function
 nocell : ∀ y ∈ sc.names, y.2 ≠ .cell
 locs : ∀ y ∈ sc.names, y.2 = .local → sc.names.lookup y.1 = some .local
 own : ∀ y ∈ sc.names, y.2 = .local → y.1 ∈ xs ∨ y.1 = (".0" : Str)
 free : ∀ y ∈ sc.names, y.2 = .free → X.env.kindOf y.1 = some .cell ∨ X.env.kindOf y.1 = some .free
 nohid : ∀ y ∈ X.N, sc.names.lookup (y ++ ("#" : Str)) = none
 nodot : (".0" : Str) ∉ X.N
def blk (X : Cx) (pins : List (Addr × Obj)) (xs : List Str) (sc : Scope) (C : Addr) (fp : List Addr) (s3 : Shared) (H3 : Hp) : Cx where
 prog := X.prog
 w := X.w
 K := X.K
 mg := X.mg
 base := X.base
 A := X.A
 N := blkN xs X.N
 s₀ := s3
 H₀ := H3
 env := compEnvC sc (closL X.env.cells sc.names []) C X.env
 outer := X.stack
 stack := X.stack
 ex := fp
 fn := fun _ => false
 calm := true
 pn := X.pn ++ pins
 xe := fun _ _ => False
def blkσ (xs : List Str) (σ : St) : St := List.replicate xs.length none ++ σ
theorem mem_of_lookup' {α β : Type} [BEq α] [LawfulBEq α] {x : α} {c : β} : ∀ {l : List (α × β)}, l.lookup x = some c → (x, c) ∈ l
 | [], h => nomatch h
 | (y, d) :: r, h => by
  rw [List.lookup_cons] at h
  cases e : x == y with
  | true => rw [e] at h; cases h; rw [eq_of_beq e]; exact List.mem_cons_self
  | false => rw [e] at h; exact List.mem_cons_of_mem _ (mem_of_lookup' h)
section
variable {X : Cx} {pins : List (Addr × Obj)} {xs : List Str} {sc : Scope} {σ : St} {H : Hp} {s : Shared}
theorem BlkScope.cells (B : BlkScope X xs sc) (ok : X.Ok) : ∀ y ∈ sc.names, y.2 = .free → ∃ c, X.env.cells.lookup y.1 = some c := fun y hy e => ok.has y.1 (B.free y hy e)
theorem BlkScope.sub (B : BlkScope X xs sc) (ok : X.Ok) {y : Str} {c : Addr} (h : (closL X.env.cells sc.names []).lookup y = some c) : X.env.cells.lookup y = some c :=
 closL_mem (cells := X.env.cells) (names := sc.names) (cs := []) (B.cells ok) (fun p hp => nomatch hp) (y, c) (mem_of_lookup' h)
theorem BlkScope.kindF (B : BlkScope X xs sc) {y : Str} (h : Vis (relabel sc X.env) y) : sc.names.lookup y = some .local ∨ sc.names.lookup y = some .free := by
 have e : (relabel sc X.env).names.lookup y = (sc.names.lookup y).map _ := lookup_relabel (env := X.env) (x := y) sc.names
 cases q : sc.names.lookup y with
 | none =>
  rw [q] at e
  rcases h with h | h | h <;> rw [e] at h <;> cases h
 | some k =>
  cases k with
  | «local» => exact .inl rfl
  | free => exact .inr rfl
  | cell => exact absurd rfl (B.nocell _ (mem_of_lookup' q))
  | globalImplicit => rw [q] at e; rcases h with h | h | h <;> rw [e] at h <;> cases h
  | globalExplicit => rw [q] at e; rcases h with h | h | h <;> rw [e] at h <;> cases h
theorem BlkScope.kindC (B : BlkScope X xs sc) {y : Str} (h : sc.names.lookup y = some .free) : (relabel sc X.env).names.lookup y = some .cell ∨ (relabel sc X.env).names.lookup y = some .free := by
 have e : (relabel sc X.env).names.lookup y = (sc.names.lookup y).map _ := lookup_relabel (env := X.env) (x := y) sc.names
 rw [h] at e
 by_cases hc : ((NameKind.free == NameKind.free) && X.env.scope.kind == .function && X.env.kindOf y == some .cell) = true
 ·left; rw [e]; show some (if _ then _ else _) = _; rw [if_pos hc]
 ·right; rw [e]; show some (if _ then _ else _) = _; rw [if_neg hc]
theorem BlkScope.ofC (B : BlkScope X xs sc) {y : Str} (h : (relabel sc X.env).names.lookup y = some .cell ∨ (relabel sc X.env).names.lookup y = some .free) : sc.names.lookup y = some .free := by
 have v : Vis (relabel sc X.env) y := .inr h
 rcases B.kindF v with q | q
 ·have e : (relabel sc X.env).names.lookup y = (sc.names.lookup y).map _ := lookup_relabel (env := X.env) (x := y) sc.names
  rw [q] at e
  rcases h with h | h <;> rw [e] at h <;> cases h
 ·exact q
theorem blk_start {fp : List Addr} {h1 : Heap} {tk : Nat} {m : Str → Option Value} (hcalm : X.calm = true) (B : BlkScope X xs sc) (I : Inv X pins σ H s) (hf : ∀ b ∈ fp, FpOk X pins H b) (hfl : ∀ b ∈ fp, b < s.heap.objs.size)
  (hn : h1.Ns (s.heap.objs.size + 1) m) (hk : ∀ b o, (s.heap.push { cls := .type "list", data := .seq ([] : List Value).toArray }).get? b = some o → h1.get? b = some o) :
  Inv (blk X pins xs sc (s.heap.objs.size + 1) fp { s with heap := s.heap.push { cls := .type "list", data := .seq ([] : List Value).toArray } } (upd H s.heap.objs.size (.lst []))) [] (blkσ xs σ)
   (upd H s.heap.objs.size (.lst [])) { s with heap := h1, toks := tk } := by
 have hsz : (s.heap.push { cls := .type "list", data := .seq ([] : List Value).toArray }).objs.size = s.heap.objs.size + 1 := Heap.size_push ..
 have lt : ∀ b o, s.heap.get? b = some o → b < s.heap.objs.size := fun b o e => Heap.lt_size e
 have updF : ∀ b, b < s.heap.objs.size → upd H s.heap.objs.size (.lst []) b = H b := fun b hb => upd_ne (Nat.ne_of_lt hb)
 have cl : ∀ x c, X.env.cells.lookup x = some c → c < s.heap.objs.size := fun x c e => by obtain ⟨v, q⟩ := I.cell x c e; exact q.lt
 have frlt : ∀ b ∈ frs X.stack, b < s.heap.objs.size := fun b hb => by
  rcases List.mem_cons.mp (I.stkSub b hb) with e | z
  ·rw [e]; exact I.lt
  ·exact Nat.lt_of_not_le fun z' => I.nofs z' z
 have pushK : ∀ b o, s.heap.get? b = some o → (s.heap.push { cls := .type "list", data := .seq ([] : List Value).toArray }).get? b = some o := fun b o e => Heap.get?_push_of_some _ e
 have hk0 : ∀ b o, s.heap.get? b = some o → h1.get? b = some o := fun b o e => hk b o (pushK b o e)
 have fresh : ∀ b, s.heap.objs.size ≤ b → H b = none := fun b hb => I.hok.fresh hb
 refine ⟨⟨I.ok.mod, B.kind, I.ok.glob, I.ok.blt, ?_, fun x y c h1 h2 => ?_, fun x hx => ?_, fun x c hx => ?_, fun _ => I.ok.hd hcalm, I.ok.frames, .inl rfl, fun b hb => ⟨?_, fun x c e => ?_⟩, fun b o e => ⟨?_, ?_⟩, ?_, fun b o e hb => ?_, fun b hb hfr => ?_, ?_, fun b hb => ?_⟩,
  rfl, I.bare, Un.kept hk, ⟨m, hn, fun i x v e1 e2 e3 => ?_⟩, fun x c e => ?_, ?_, fun x c e => ?_, fun p hp => ?_, ?_, ?_⟩
 ·show (s.heap.push { cls := .type "list", data := .seq ([] : List Value).toArray }).objs.size ≤ s.heap.objs.size + 1
  rw [hsz]; exact Nat.le_refl _
 ·exact I.ok.inj x y c (B.sub I.ok h1) (B.sub I.ok h2)
 ·have q := B.ofC (y := x) hx
  obtain ⟨c, hc⟩ := closL_has (cells := X.env.cells) (cs := []) (mem_of_lookup' q)
  exact lookup_of_mem hc
 ·exact absurd hx (by show ¬ (false = true); decide)
 ·exact Nat.ne_of_lt (Nat.lt_succ_of_lt (hfl b hb))
 ·exact (hf b hb).2.2.2.2.1 x c (B.sub I.ok e)
 ·exact pushK b o (I.bk b o e)
 ·show upd H s.heap.objs.size (.lst []) b = none
  rw [updF b (lt b o (I.bk b o e))]; exact (I.bs b o e).2
 ·show X.base.objs.size ≤ (s.heap.push { cls := .type "list", data := .seq ([] : List Value).toArray }).objs.size
  rw [hsz]; exact Nat.le_succ_of_le (Nat.le_trans I.ok.bsz I.sz)
 ·rcases (hf b hb).2.2.2.1 with z | z
  ·exact I.ok.noex b o e z
  ·have := Heap.lt_size e
   exact absurd (Nat.lt_of_lt_of_le this (Nat.le_trans I.ok.bsz z)) (Nat.lt_irrefl _)
 ·rcases List.mem_cons.mp (I.stkSub b hfr) with e | z
  ·exact (hf b hb).2.1 e
  ·exact (hf b hb).2.2.1 z
 ·exact Heap.FunFrames.of_keeps (fun b o e _ => ⟨o, pushK b o e, rfl⟩) I.stack
 ·show upd H s.heap.objs.size (.lst []) b = none
  rw [updF b (frlt b hb)]; exact I.stkFree b hb
 ·have hi : xs.length ≤ i := by
   rcases Nat.lt_or_ge i xs.length with z | z
   ·unfold blkσ at e2
    rw [List.getElem?_append_left (by simpa using z), List.getElem?_replicate, if_pos z] at e2
    cases e2
   ·exact z
  have e2' : σ[i - xs.length]? = some (some v) := by
   unfold blkσ at e2
   rw [List.getElem?_append_right (by simpa using hi), List.length_replicate] at e2
   exact e2
  have e1' : (X.N.map (hid xs))[i - xs.length]? = some x := by
   have q : (blkN xs X.N)[i]? = some x := e1
   unfold blkN at q
   rw [List.getElem?_append_right hi] at q
   exact q
  rw [List.getElem?_map] at e1'
  cases eN : X.N[i - xs.length]? with
  | none => rw [eN] at e1'; cases e1'
  | some y =>
   rw [eN] at e1'
   have ey : hid xs y = x := Option.some.inj e1'
   have hy : y ∈ X.N := List.mem_of_getElem? eN
   have kf := B.kindF (y := x) e3
   unfold hid at ey
   by_cases hc : xs.contains y = true
   ·rw [if_pos hc] at ey
    rw [← ey, B.nohid y hy] at kf
    rcases kf with z | z <;> cases z
   ·rw [if_neg hc] at ey
    subst ey
    rcases kf with z | z
    ·rcases B.own (y, .local) (mem_of_lookup' z) rfl with q | q
     ·exact absurd (List.contains_iff_mem.mpr q) hc
     ·exact absurd (show (".0" : Str) ∈ X.N from q ▸ hy) B.nodot
    ·have kk := B.free (y, .free) (mem_of_lookup' z) rfl
     obtain ⟨m0, hn0, hl0⟩ := I.loc
     obtain ⟨u, ru, lk⟩ := hl0 _ y v eN e2' (.inr kk)
     refine ⟨u, ru, ?_⟩
     rcases lk with ⟨kl, _⟩ | ⟨_, c, ec, zc⟩
     ·rcases kk with kk | kk
      ·rw [show X.env.kindOf y = some .local from kl] at kk; cases kk
      ·rw [show X.env.kindOf y = some .local from kl] at kk; cases kk
     ·obtain ⟨c1, hc1⟩ := closL_has (cells := X.env.cells) (cs := []) (mem_of_lookup' z)
      obtain ⟨c2, hc2⟩ := lookup_of_mem hc1
      have hc3 := B.sub I.ok hc2
      rw [ec] at hc3
      cases hc3
      obtain ⟨oc, hoc, hdc⟩ := zc
      exact .inr ⟨B.kindC z, c, hc2, oc, hk0 c oc hoc, hdc⟩
 ·obtain ⟨v, oc, hoc, hdc⟩ := I.cell x c (B.sub I.ok e)
  exact ⟨v, oc, hk0 c oc hoc, hdc⟩
 ·show upd H s.heap.objs.size (.lst []) (s.heap.objs.size + 1) = none
  rw [upd_ne (Nat.succ_ne_self _)]; exact fresh _ (Nat.le_succ _)
 ·have e' := B.sub I.ok e
  rw [updF c (cl x c e')]; exact I.freeC x c e'
 ·have hp' : p ∈ X.pn ++ pins := by
   rcases List.mem_append.mp hp with z | z
   ·exact z
   ·exact nomatch z
  obtain ⟨q1, q2, q3, q4, q5⟩ := I.pin p hp'
  refine ⟨hk0 _ _ q1, by rw [updF _ (lt _ _ q1)]; exact q2, ?_, fun z => ?_, q5⟩
  ·exact Nat.ne_of_lt (Nat.lt_succ_of_lt (lt _ _ q1))
  ·rcases List.mem_cons.mp (I.stkSub _ z) with e | z
   ·exact q3 e
   ·exact q4 z
 ·refine I.hok.laid hk0 (Nat.le_refl _) ?_
  exact ⟨Nat.zero_le _, [], 0, .nil, hk _ _ (Heap.get?_push_size _ rfl)⟩
 ·show (blkσ xs σ).length = (blkN xs X.N).length
  unfold blkσ blkN
  rw [List.length_append, List.length_append, List.length_replicate, List.length_map, I.len]
theorem blk_end {fp : List Addr} {s' : Shared} {σ' : St} {H' : Hp} (I : Inv X pins σ H s) (hf : ∀ b ∈ fp, FpOk X pins H b)
  (J : Inv (blk X pins xs sc (s.heap.objs.size + 1) fp { s with heap := s.heap.push { cls := .type "list", data := .seq ([] : List Value).toArray } } (upd H s.heap.objs.size (.lst []))) [] σ' H' s') :
  Inv X pins σ H' s' := by
 have u1 : Un (frs X.stack) fp H (upd H s.heap.objs.size (.lst [])) s.heap (s.heap.push { cls := .type "list", data := .seq ([] : List Value).toArray }) :=
  Un.laid (fun b o e => Heap.get?_push_of_some _ e) (Nat.le_refl _) (I.hok.fresh (Nat.le_refl _))
 have u2 : Un (frs X.stack) fp (upd H s.heap.objs.size (.lst [])) H' (s.heap.push { cls := .type "list", data := .seq ([] : List Value).toArray }) s'.heap := J.base
 exact I.call' (s' := s') (ch := fp) J.os (u1.trans u2) J.hok J.bare fun b hb => ⟨(hf b hb).2.2.2.1, (hf b hb).2.1, (hf b hb).2.2.2.2.1, (hf b hb).2.2.2.2.2⟩
theorem blk_gone {fp : List Addr} {s' s'' : Shared} {σ' σ2 : St} {H' H2 : Hp} {h' : Heap} (I : Inv X pins σ H s)
  (hC : H2 (s.heap.objs.size + 1) = none) (I2 : Inv X pins σ2 H2 s'') (hs : Heap.SameBut (s.heap.objs.size + 1) s''.heap h') : Inv X pins σ2 H2 { s'' with heap := h' } := by
 have hL : s.heap.objs.size + 1 ≠ X.env.locals := Nat.ne_of_gt (Nat.lt_succ_of_lt I.lt)
 refine I2.turned (t' := s''.toks) (it := s.heap.objs.size + 1) (fun b o hb e => (hs.2 b hb).trans e) hC hL (.inr (Nat.le_succ_of_le I.sz)) (fun x c e => ?_) fun p hp => ?_
 ·obtain ⟨v, q⟩ := I.cell x c e
  exact Nat.ne_of_lt (Nat.lt_succ_of_lt q.lt)
 ·exact Nat.ne_of_lt (Nat.lt_succ_of_lt (Heap.lt_size (I.pin p hp).1))
end
def PIf (X : Cx) (ifs : List Expr) (t : TT) : Prop :=
 ∀ (pins : List (Addr × Obj)) (s : Shared) (σ : St) (H : Hp) (Q : Bool → Hp → Prop), Inv X pins σ H s → t σ H Q →
  wpAny (model X.prog X.w) X.A (forIn ifs true fun c r => if r = true then do let ok ← isTrue c X.env (eval c X.env); pure (ForInStep.yield ok) else pure (ForInStep.yield r)) (TP X pins σ Q) X.xe s
def tTrue : TT := fun _ H Q => Q true H
theorem pif_nil {X : Cx} : PIf X [] tTrue := fun _ _ _ H _ I h => wpAny_tests_nil ⟨H, I, h⟩
theorem pif_one {X : Cx} {c : Expr} {t : TT} (h : PT X c t) : PIf X [c] t := fun pins s σ H Q I q => wpAny_tests_one (h pins s σ H Q I q)
def tTurns (J : It) (g : TG) (tc : TT) (te : TE) (D : Addr) (Q : Hp → Prop) (σ : St) (H : Hp) : Prop :=
 ∃ W : Nat → Nat → St → Hp → Prop, (∃ m, W 0 m σ H) ∧ ∀ i m σ H, W i m σ H →
  (J.stop i H ∧ Q H) ∨ (J.go i H ∧ ∃ N : St → Hp → Prop, (∀ σ' H', N σ' H' → ∃ m', m' < m ∧ W (i + 1) m' σ' H') ∧ ∀ x H', J.yld i H x H' → g x σ H' fun σ2 H2 => tc σ2 H2 fun b H3 =>
   if b = true then te σ2 H3 fun v H4 => ∃ ys, H4 D = some (.lst ys) ∧ ys.length < sizeLine ∧ N σ2 (upd H4 D (.lst (ys ++ [v]))) else N σ2 H3)
theorem comp_loop {P : Program} {w : World} {K : PySem.W.Frag} {Y : Cx} (hP : Y.prog = P) (hw : Y.w = w) (hK : Y.K = K) {tg iter elt : Expr} {ifs : List Expr} {scope : Scope} {pos : Pos} {J : It} {fp : List Addr} {it D : Addr} {tn : Nat → Heap → Prop} {g : TG} {tc : TT} {te : TE}
  {Q : Hp → Prop} {R : Result → Shared → Prop} {s : Shared} {σ : St} {H : Hp}
  (hcalm : Y.calm = true) (hx : Y.xe = fun _ _ => False) (T : Turn P w K tg J fp it tn) (hg : PG Y tg g) (hc : PIf Y ifs tc) (he : PE Y elt te) (I : Inv Y [] σ H s) (st : tn 0 s.heap) (hf : ∀ b ∈ fp, FpOk Y [] H b) (h : tTurns J g tc te D Q σ H)
  (hR : ∀ σ' H' s', Inv Y [] σ' H' s' → Q H' → R (.ok .next) s') :
  codeAny (model P w) Y.A (.compLoop (.ListComp elt [⟨tg, iter, ifs, 0⟩] scope pos) 0 (.ref it) (.ref D) Y.env) R s := by
 subst hP hw hK
 obtain ⟨W, ⟨m0, w0⟩, turn⟩ := h
 have stat : ∀ {H' : Hp}, (∀ b ∈ fp, H' b = none) → ∀ b ∈ fp, FpOk Y [] H' b := fun hn b hb => ⟨hn b hb, (hf b hb).2⟩
 have no : ∀ {α : Type} {t : Sem α} {Qa : α → Shared → Prop} {E : Value → Shared → Prop} {s : Shared}, wpAny (model Y.prog Y.w) Y.A t Qa Y.xe s → wpAny (model Y.prog Y.w) Y.A t Qa E s := fun z => wpAny_mono z (fun _ _ q => q) fun _ _ q => by rw [hx] at q; exact q.elim
 refine codeAny_loop rfl (fun n s' => ∃ i σ' H', Inv Y [] σ' H' s' ∧ tn i s'.heap ∧ (∀ b ∈ fp, H' b = none) ∧ W i n σ' H') ?_ m0 ⟨0, σ, H, I, st, fun b hb => (hf b hb).1, w0⟩
 rintro n s3 ⟨i, σ3, H3, I3, st3, fr3, w3⟩
 show wpAny _ Y.A ((compTurn (.ListComp elt [⟨tg, iter, ifs, 0⟩] scope pos) 0 (.ref it) (.ref D) Y.env).onRaise (fun x => do noteFrame x Y.env; theTreesLotGoes x)) _ _ s3
 refine wpAny_noted ?_
 rw [compTurn_list]
 refine wpAny_bind (wpAny_standAt (wpAny_bind ?_))
 rcases turn i n σ3 H3 w3 with ⟨stop, qn⟩ | ⟨go, N, hN, step⟩
 ·refine wpAny_mono (T.done Y rfl rfl rfl hcalm i [] s3 σ3 H3 _ I3 (stat fr3) st3 stop) (fun r s4 ⟨hr, I4⟩ => ?_) fun _ _ q => q
  subst hr
  exact wpAny_pure (hR σ3 H3 s4 I4 qn)
 ·refine wpAny_mono (T.item Y rfl rfl rfl hcalm i [] s3 σ3 H3 _ I3 (stat fr3) st3 go) (fun r s4 ⟨u, hr, h4⟩ => ?_) fun _ _ q => q
  subst hr
  refine wpAny_bind (wpAny_mono h4 (fun _ s5 ⟨x, H5, I5, r5, y5, st5, fr5⟩ => ?_) fun _ _ q => q)
  have I5' := I5.pinned (stat fr5) (T.obj _ _ st5)
  have again : ∀ {s7 : Shared} {σ7 : St} {H7 : Hp}, Inv Y ([] ++ pinsAt fp s5.heap) σ7 H7 s7 → N σ7 H7 → ∃ m, m < n ∧ ∃ i σ' H', Inv Y [] σ' H' s7 ∧ tn i s7.heap ∧ (∀ b ∈ fp, H' b = none) ∧ W i m σ' H' := fun {s7 σ7 H7} I7 n7 => by
   obtain ⟨m', hm, w7⟩ := hN σ7 H7 n7
   refine ⟨m', hm, i + 1, σ7, H7, I7.unpinned, T.keep _ _ _ st5 fun b hb o e => (I7.pin (b, o) (List.mem_append_right _ (List.mem_append_right _ (mem_pinsAt hb e)))).1, fun b hb => ?_, w7⟩
   obtain ⟨o, e, d⟩ := T.obj _ _ st5 b hb
   exact (I7.pin (b, o) (List.mem_append_right _ (List.mem_append_right _ (mem_pinsAt hb e)))).2.1
  refine wpAny_bind (no (thn (hg _ s5 σ3 H5 x u _ I5' r5 (step x H5 y5)) fun _ s6 ⟨σ6, H6, I6, q6⟩ => ?_))
  refine wpAny_bind (no (thn (hc _ s6 σ6 H6 _ I6 q6) fun ok s7 ⟨H7, I7, q7⟩ => ?_))
  cases ok with
  | false => exact wpAny_pure ⟨rfl, again I7 q7⟩
  | true =>
   refine wpAny_bind (wpAny_bind (no (thn (he _ s7 σ6 H7 _ I7 q7) fun v s8 ⟨y, H8, I8, r8, ys, eD, hz, n8⟩ => ?_)))
   refine wpAny_bind (no (thn (mt_append _ s8 σ6 H8 (.ref D) [y] (.ref D) [v] (fun _ H9 => N σ6 H9) I8 rfl (.cons r8 .nil) ⟨D, ys, y, rfl, rfl, eD, hz, n8⟩) fun _ s9 ⟨_, H9, I9, _, n9⟩ => ?_))
   exact wpAny_pure (wpAny_pure ⟨rfl, again I9 n9⟩)
section
variable {X : Cx}
def tComp (xs : List Str) (wi : TI) (g : TG) (tc : TT) (te : TE) : TE := fun σ H Q => wi σ H fun J H1 => ∀ D, H1 D = none → tTurns J g tc te D (fun H' => Q (.ref D) H') (blkσ xs σ) (upd H1 D (.lst []))
theorem comp_core {tg iter elt : Expr} {ifs : List Expr} {sc : Scope} {pos pos' : Pos} {xs : List Str} {wi : TI} {g : TG} {tc : TT} {te : TE} {use : Option (Value → Sem Unit)} (hcalm : X.calm = true) (B : BlkScope X xs sc) (hi : PI X tg iter wi)
  (hb : ∀ pins C fp s3 H3, PG (blk X pins xs sc C fp s3 H3) tg g ∧ PIf (blk X pins xs sc C fp s3 H3) ifs tc ∧ PE (blk X pins xs sc C fp s3 H3) elt te)
  {pins : List (Addr × Obj)} {s : Shared} {σ : St} {H : Hp} {Q : Value → Shared → Prop} {QA : Addr → Hp → Prop} (I : Inv X pins σ H s) (h : wi σ H fun J H1 => ∀ D, H1 D = none → tTurns J g tc te D (QA D) (blkσ xs σ) (upd H1 D (.lst [])))
  (fin : ∀ C D H' s' m, s'.heap.Ns C m → H' C = none → Inv X pins σ H' s' → QA D H' → (∀ σ2 H2 s2 h2, Inv X pins σ2 H2 s2 → H2 C = none → Heap.SameBut C s2.heap h2 → Inv X pins σ2 H2 { s2 with heap := h2 }) → C ≠ X.env.locals → (∀ x c, X.env.cells.lookup x = some c → c ≠ C) →
   match use with
   | none => ∀ h', Heap.SameBut C s'.heap h' → Q (.ref D) { s' with heap := h' }
   | some u => wpAny (model X.prog X.w) X.A (u (.ref D)) (fun _ s'' => ∃ m, s''.heap.Ns C m ∧ ∀ h', Heap.SameBut C s''.heap h' → Q .none { s'' with heap := h' }) X.xe s')
  (hs : ∀ x, foldedSetIterable iter X.env x = pure x := by intro _; rfl) :
  wpAny (model X.prog X.w) X.A (comprehension (.ListComp elt [⟨tg, iter, ifs, 0⟩] sc pos) sc X.env pos' (newList []) false (eval iter X.env) use) Q X.xe s := by
 refine wpAny_comprehension_free (cl := closL X.env.cells sc.names []) (use := use) rfl hs (closureFor_closL (B.cells I.ok)) B.kind B.locs
  (thn (hi pins s σ H _ I h) fun v s1 h1 => thn h1 fun itv s2 h2 => ?_)
 obtain ⟨it, fp, tn, J, H2, e, I2, T, st2, f2, tr⟩ := h2
 subst e
 have hfl : ∀ b ∈ fp, b < s2.heap.objs.size := fun b hb => by obtain ⟨o, e, _⟩ := T.obj _ _ st2 b hb; exact Heap.lt_size e
 have hD : H2 s2.heap.objs.size = none := I2.hok.fresh (Nat.le_refl _)
 refine wpAny_newObj_type (wpAny_newFunctionEnv B.nocell (by intro y hy; simp at hy) (fun h1 hns hsb => ?_) B.kind)
 have hsz : (s2.heap.push { cls := .type "list", data := .seq ([] : List Value).toArray }).objs.size = s2.heap.objs.size + 1 := Heap.size_push ..
 dsimp only at hns hsb ⊢
 rw [hsz] at hns hsb ⊢
 have hk : ∀ b o, (s2.heap.push { cls := .type "list", data := .seq ([] : List Value).toArray }).get? b = some o → h1.get? b = some o := fun b o e =>
  (hsb.2 b (Nat.ne_of_lt (by have := Heap.lt_size e; rw [hsz] at this; exact this))).trans (Heap.get?_push_of_some _ e)
 have J0 := blk_start (tk := s2.toks + ([] : List (Str × Value)).length) hcalm B I2 f2 hfl hns hk
 have st3 : tn 0 h1 := T.keep _ _ _ st2 fun b _ o e => hk b o (Heap.get?_push_of_some _ e)
 have fY : ∀ b ∈ fp, FpOk (blk X pins xs sc (s2.heap.objs.size + 1) fp { s2 with heap := s2.heap.push { cls := .type "list", data := .seq ([] : List Value).toArray } } (upd H2 s2.heap.objs.size (.lst []))) [] (upd H2 s2.heap.objs.size (.lst [])) b := fun b hb => by
  obtain ⟨q1, q2, q3, q4, q5, q6⟩ := f2 b hb
  refine ⟨by rw [upd_ne (Nat.ne_of_lt (hfl b hb))]; exact q1, Nat.ne_of_lt (Nat.lt_succ_of_lt (hfl b hb)), fun z => ?_, .inl hb, fun x c e => q5 x c (B.sub I2.ok e), fun p hp => ?_⟩
  ·rcases List.mem_cons.mp (I2.stkSub _ z) with e | z
   ·exact q2 e
   ·exact q3 z
  ·rcases List.mem_append.mp hp with z | z
   ·exact q6 p z
   ·exact nomatch z
 have loop : ∀ (RR : Result → Shared → Prop), (∀ σ' H' s', Inv (blk X pins xs sc (s2.heap.objs.size + 1) fp { s2 with heap := s2.heap.push { cls := .type "list", data := .seq ([] : List Value).toArray } } (upd H2 s2.heap.objs.size (.lst []))) [] σ' H' s' → QA s2.heap.objs.size H' → RR (.ok .next) s') →
   codeAny (model X.prog X.w) X.A (.compLoop (.ListComp elt [⟨tg, iter, ifs, 0⟩] sc pos) 0 (.ref it) (.ref s2.heap.objs.size) (compEnvC sc (closL X.env.cells sc.names []) (s2.heap.objs.size + 1) X.env)) RR
    { s2 with heap := h1, toks := s2.toks + ([] : List (Str × Value)).length } := fun RR hR =>
  comp_loop (Y := blk X pins xs sc (s2.heap.objs.size + 1) fp { s2 with heap := s2.heap.push { cls := .type "list", data := .seq ([] : List Value).toArray } } (upd H2 s2.heap.objs.size (.lst []))) rfl rfl rfl rfl rfl T (hb _ _ _ _ _).1 (hb _ _ _ _ _).2.1 (hb _ _ _ _ _).2.2 J0 st3 fY (tr _ hD) hR
 refine codeAny_compStart_list (loop _ ?_) (T.self _ 0 _ _ _ st3 (loop _ ?_))
 all_goals
  intro σ' H' s' J' q'
  have I' := blk_end (sc := sc) I2 f2 J'
  obtain ⟨m, hm, _⟩ := J'.loc
  have hC : H' (s2.heap.objs.size + 1) = none := J'.free
  have z := fin (s2.heap.objs.size + 1) s2.heap.objs.size H' s' m hm hC I' q' (fun σ3 H3 s3 h3 I3 c3 sb => blk_gone (fp := fp) (s' := s') (σ' := σ') (H' := H') I2 c3 I3 sb) (Nat.ne_of_gt (Nat.lt_succ_of_lt I2.lt))
   (fun x c e => by obtain ⟨v, q⟩ := I2.cell x c e; exact Nat.ne_of_lt (Nat.lt_succ_of_lt q.lt))
  cases use with
  | none => exact ⟨m, hm, fun h' sb => z h' sb⟩
  | some u => exact z
theorem pe_comp {tg iter elt : Expr} {ifs : List Expr} {sc : Scope} {pos : Pos} (xs : List Str) {wi : TI} {g : TG} {tc : TT} {te : TE} (hcalm : X.calm = true) (B : BlkScope X xs sc) (hi : PI X tg iter wi)
  (hb : ∀ pins C fp s3 H3, PG (blk X pins xs sc C fp s3 H3) tg g ∧ PIf (blk X pins xs sc C fp s3 H3) ifs tc ∧ PE (blk X pins xs sc C fp s3 H3) elt te) (hs : ∀ x, foldedSetIterable iter X.env x = pure x := by intro _; rfl) :
  PE X (.ListComp elt [⟨tg, iter, ifs, 0⟩] sc pos) (tComp xs wi g tc te) := by
 intro pins s σ H Q I h
 rw [eval_ListComp]
 exact comp_core (use := none) (Q := EP X pins σ Q) (QA := fun D H' => Q (.ref D) H') hcalm B hi hb I h (fun C D H' s' m _ hC I' q back _ _ h' sb => ⟨.ref D, H', back σ H' s' h' I' hC sb, rfl, q⟩) hs
theorem ps_comp {tg iter elt : Expr} {ifs : List Expr} {sc : Scope} {pos spos py : Pos} (xs : List Str) {j : Nat} {y : Str} {wi : TI} {g : TG} {tc : TT} {te : TE} (hcalm : X.calm = true) (B : BlkScope X xs sc) (hi : PI X tg iter wi)
  (hb : ∀ pins C fp s3 H3, PG (blk X pins xs sc C fp s3 H3) tg g ∧ PIf (blk X pins xs sc C fp s3 H3) ifs tc ∧ PE (blk X pins xs sc C fp s3 H3) elt te)
  (hN : X.N.Nodup) (hj : X.N[j]? = some y) (hy : Loc X.env.scope y) (hsw : swapsWith (.ListComp elt [⟨tg, iter, ifs, 0⟩] sc pos) (some (.Name y py)) spos.line X.env = pure true)
  (hfn : X.fn y = true ∨ X.env.scope.names.lookup y = some .local := by first | exact .inl rfl | exact .inr rfl | assumption) (hs : ∀ x, foldedSetIterable iter X.env x = pure x := by intro _; rfl) :
  PS X (.Assign [.Name y py] (.ListComp elt [⟨tg, iter, ifs, 0⟩] sc pos) spos) (tAsg (tComp xs wi g tc te) (gName j)) := by
 intro pins s σ H D I h
 rw [exec_Assign_Name_used _ _ _ _ hsw]
 refine wpAny_bind (wpAny_standAt (wpAny_bind ?_))
 show wpAny _ X.A (do let _ ← comprehension (.ListComp elt [⟨tg, iter, ifs, 0⟩] sc pos) sc X.env _ (newList []) false (eval iter X.env) (some (assign (.Name y py) X.env))) _ _ s
 refine wpAny_bind (wpAny_mono (comp_core (use := some (assign (.Name y py) X.env)) (Q := fun _ s' => SP X pins D .next s') (QA := fun Da H' => D.nx (σ.set j (some (.ref Da))) H') hcalm B hi hb I h (fun C Da H' s' m hm hC I' q back hCL hCc => ?_) hs) (fun _ s' hq => wpAny_pure (wpAny_pure hq)) fun _ _ e => e)
 refine wpAny_assign_Name (store_ok2 I' hN hj hy (v := .ref Da) rfl (fun s2 I2 ⟨a, sb, ha⟩ => ?_) hfn)
 have hne : C ≠ a := by
  rcases ha with z | z
  ·rw [z]; exact hCL
  ·exact fun e => hCc _ _ z e.symm
 exact ⟨m, hm.sameBut sb hne, fun h' sb' => ⟨_, H', back _ H' s2 h' I2 hC sb', q⟩⟩
end
end L2
namespace L2
open PySem PySem.Spec PyProof.Rows PySem.SeqAt
inductive EqV (K : PySem.W.Frag) (H : Hp) : Nat → V → V → Bool → Prop where
 | int {n : Nat} (i j : Int) : EqV K H n (.int i) (.int j) (i == j)
 | bl {n : Nat} (i j : Bool) : EqV K H n (.bl i) (.bl j) (i == j)
 | str {n : Nat} (i j : Str) : EqV K H n (.str i) (.str j) (i == j)
 | same {n : Nat} (a : Addr) : EqV K H n (.ref a) (.ref a) true
 | non {n : Nat} : EqV K H n .non .non true
 | lst {n : Nat} {a b : Addr} {xs ys : List V} {e : Nat → Bool} (ne : a ≠ b) (h1 : SqL K H a xs) (h2 : SqL K H b ys) (hl : xs.length = ys.length)
   (he : ∀ (j : Nat) (x y : V), xs[j]? = some x → ys[j]? = some y → EqV K H n x y (e j)) : EqV K H (n + 1) (.ref a) (.ref b) ((List.range xs.length).all e)
 | lstN {n : Nat} {a b : Addr} {xs ys : List V} (ne : a ≠ b) (h1 : SqL K H a xs) (h2 : SqL K H b ys) (hl : xs.length ≠ ys.length) : EqV K H (n + 1) (.ref a) (.ref b) false
 | tup {n : Nat} {a b : Addr} {xs ys : List V} {e : Nat → Bool} (ne : a ≠ b) (h1 : SqT K H a xs) (h2 : SqT K H b ys) (hl : xs.length = ys.length)
   (he : ∀ (j : Nat) (x y : V), xs[j]? = some x → ys[j]? = some y → EqV K H n x y (e j)) : EqV K H (n + 1) (.ref a) (.ref b) ((List.range xs.length).all e)
section
variable {X : Cx} {pins : List (Addr × Obj)} {σ : St} {H : Hp} {s : Shared}
theorem vals_at {xs : List V} {us : List Value} (r : Vals xs us) {j : Nat} (h : j < us.toArray.size) : ∃ x, xs[j]? = some x ∧ RelV x us.toArray[j] := by
 have hl := r.length
 have hj : j < xs.length := by rw [hl]; simpa using h
 obtain ⟨u, hu, ru⟩ := r.get (List.getElem?_eq_getElem hj)
 have e : us.toArray[j] = u := by
  have : us[j]? = some us.toArray[j] := by simp
  rw [this] at hu; exact Option.some.inj hu
 exact ⟨xs[j], List.getElem?_eq_getElem hj, by rw [e]; exact ru⟩
theorem EqV.at (I : Inv X pins σ H s) : ∀ {n : Nat} {x y : V} {b : Bool}, EqV X.K H n x y b → ∀ {A : Around} {u v : Value}, A.units + n < cLine → RelV x u → RelV y v → EqAt A s u v b := by
 intro n x y b h
 induction h with
 | int i j => intro A u v _ ru rv; obtain ⟨t, rfl⟩ := ru; obtain ⟨t', rfl⟩ := rv; exact EqAt.int_int _ _ _ _
 | bl i j => intro A u v _ ru rv; cases ru; cases rv; exact EqAt.bool_bool _ _
 | str i j => intro A u v _ ru rv; obtain ⟨t, rfl⟩ := ru; obtain ⟨t', rfl⟩ := rv; exact EqAt.str_str _ _ _ _
 | same a => intro A u v _ ru rv; cases ru; cases rv; exact EqAt.same _
 | non => intro A u v _ ru rv; cases ru; cases rv; exact EqAt.same _
 | @lst n a b xs ys e ne h1 h2 hl he ih =>
  intro A u v hu ru rv
  cases ru; cases rv
  obtain ⟨i1, r1, p1, _⟩ := I.list h1
  obtain ⟨i2, r2, p2, _⟩ := I.list h2
  have e1 : xs.length = i1.toArray.size := by rw [r1.length]; simp
  have e2 : ys.length = i2.toArray.size := by rw [r2.length]; simp
  rw [e1]
  refine EqAt.of_refs ne (RcAt.lists p1.isList p2.isList (by omega) (by omega) fun j k1 k2 => ?_)
  obtain ⟨x, hx, rx⟩ := vals_at r1 k1
  obtain ⟨y, hy, ry⟩ := vals_at r2 k2
  exact ih j x y hx hy (by show A.units + 1 + n < cLine; omega) rx ry
 | @lstN n a b xs ys ne h1 h2 hl =>
  intro A u v hu ru rv
  cases ru; cases rv
  obtain ⟨i1, r1, p1, _⟩ := I.list h1
  obtain ⟨i2, r2, p2, _⟩ := I.list h2
  refine EqAt.of_refs ne (RcAt.lists_lengths p1.isList p2.isList ?_ (by omega))
  have e1 : xs.length = i1.toArray.size := by rw [r1.length]; simp
  have e2 : ys.length = i2.toArray.size := by rw [r2.length]; simp
  exact bne_iff_ne.mpr (by omega)
 | @tup n a b xs ys e ne h1 h2 hl he ih =>
  intro A u v hu ru rv
  cases ru; cases rv
  obtain ⟨i1, r1, p1, _⟩ := I.tuple h1
  obtain ⟨i2, r2, p2, _⟩ := I.tuple h2
  have e1 : xs.length = i1.toArray.size := by rw [r1.length]; simp
  have e2 : ys.length = i2.toArray.size := by rw [r2.length]; simp
  have q := RcAt.tuples (A := A) (e := e) p1 p2 (by omega) fun j k1 k2 => by
   obtain ⟨x, hx, rx⟩ := vals_at r1 k1
   obtain ⟨y, hy, ry⟩ := vals_at r2 k2
   exact ih j x y hx hy (by show A.units + 1 + n < cLine; omega) rx ry
  have ez : i1.toArray.size = i2.toArray.size := by omega
  rw [ez, Nat.min_self, beq_self_eq_true, Bool.and_true, ← ez, ← e1] at q
  exact EqAt.of_refs ne q
inductive RcV (K : PySem.W.Frag) (H : Hp) : V → V → Bool → Prop where
 | lst {a b : Addr} {xs ys : List V} {e : Nat → Bool} (h1 : SqL K H a xs) (h2 : SqL K H b ys) (hl : xs.length = ys.length)
   (he : ∀ (j : Nat) (x y : V), xs[j]? = some x → ys[j]? = some y → EqV K H 4 x y (e j)) : RcV K H (.ref a) (.ref b) ((List.range xs.length).all e)
 | lstN {a b : Addr} {xs ys : List V} (h1 : SqL K H a xs) (h2 : SqL K H b ys) (hl : xs.length ≠ ys.length) : RcV K H (.ref a) (.ref b) false
 | tup {a b : Addr} {xs ys : List V} {e : Nat → Bool} (h1 : SqT K H a xs) (h2 : SqT K H b ys) (hl : xs.length = ys.length)
   (he : ∀ (j : Nat) (x y : V), xs[j]? = some x → ys[j]? = some y → EqV K H 4 x y (e j)) : RcV K H (.ref a) (.ref b) ((List.range xs.length).all e)
theorem RcV.at (I : Inv X pins σ H s) {x y : V} {b : Bool} (h : RcV X.K H x y b) {A : Around} {u v : Value} (hu : A.units + 8 < cLine) (ru : RelV x u) (rv : RelV y v) : RcAt A s u v b ∧ RcNeAt A s u v (!b) := by
 cases h with
 | @lst a b xs ys e h1 h2 hl he =>
  cases ru; cases rv
  obtain ⟨i1, r1, p1, _⟩ := I.list h1
  obtain ⟨i2, r2, p2, _⟩ := I.list h2
  have e1 : xs.length = i1.toArray.size := by rw [r1.length]; simp
  have e2 : ys.length = i2.toArray.size := by rw [r2.length]; simp
  have el : ∀ j (k1 : j < i1.toArray.size) (k2 : j < i2.toArray.size), EqAt A.in1 s i1.toArray[j] i2.toArray[j] (e j) := fun j k1 k2 => by
   obtain ⟨x, hx, rx⟩ := vals_at r1 k1
   obtain ⟨y, hy, ry⟩ := vals_at r2 k2
   exact (he j x y hx hy).at I (by show A.units + 1 + 4 < cLine; omega) rx ry
  rw [e1]
  exact ⟨RcAt.lists p1.isList p2.isList (by omega) (by omega) el, RcNeAt.lists p1.isList p2.isList (by omega) (by omega) el⟩
 | @lstN a b xs ys h1 h2 hl =>
  cases ru; cases rv
  obtain ⟨i1, r1, p1, _⟩ := I.list h1
  obtain ⟨i2, r2, p2, _⟩ := I.list h2
  have e1 : xs.length = i1.toArray.size := by rw [r1.length]; simp
  have e2 : ys.length = i2.toArray.size := by rw [r2.length]; simp
  have q : (i1.toArray.size != i2.toArray.size) = true := bne_iff_ne.mpr (by omega)
  exact ⟨RcAt.lists_lengths p1.isList p2.isList q (by omega), RcNeAt.lists_lengths p1.isList p2.isList q (by omega)⟩
 | @tup a b xs ys e h1 h2 hl he =>
  cases ru; cases rv
  obtain ⟨i1, r1, p1, _⟩ := I.tuple h1
  obtain ⟨i2, r2, p2, _⟩ := I.tuple h2
  have e1 : xs.length = i1.toArray.size := by rw [r1.length]; simp
  have e2 : ys.length = i2.toArray.size := by rw [r2.length]; simp
  have el : ∀ j (k1 : j < i1.toArray.size) (k2 : j < i2.toArray.size), EqAt A.in1 s i1.toArray[j] i2.toArray[j] (e j) := fun j k1 k2 => by
   obtain ⟨x, hx, rx⟩ := vals_at r1 k1
   obtain ⟨y, hy, ry⟩ := vals_at r2 k2
   exact (he j x y hx hy).at I (by show A.units + 1 + 4 < cLine; omega) rx ry
  have ez : i1.toArray.size = i2.toArray.size := by omega
  have q1 := RcAt.tuples (A := A) (e := e) p1 p2 (by omega) el
  have q2 := RcNeAt.tuples (A := A) (e := e) p1 p2 (by omega) el
  rw [ez, Nat.min_self, beq_self_eq_true, Bool.and_true, ← ez, ← e1] at q1 q2
  exact ⟨q1, q2⟩
def rEqD (K : PySem.W.Frag) : R2 := fun x y H Q => ∃ b, RcV K H x y b ∧ Q (.bl b) H
def rNeD (K : PySem.W.Frag) : R2 := fun x y H Q => ∃ b, RcV K H x y b ∧ Q (.bl (!b)) H
theorem op_eqD (hu : X.A.units + 64 < cLine) : OpR X (compareOp .Eq) (rEqD X.K) := by
 intro pins s σ H x y v u Q I rx ry ⟨b, h, q⟩
 exact (h.at I (by omega) rx ry).1 _ _ _ _ ⟨.bl b, H, I, rfl, q⟩
theorem op_neD (hu : X.A.units + 64 < cLine) : OpR X (compareOp .NotEq) (rNeD X.K) := by
 intro pins s σ H x y v u Q I rx ry ⟨b, h, q⟩
 exact (h.at I (by omega) rx ry).2 _ _ _ _ ⟨.bl (!b), H, I, rfl, q⟩
end
theorem range_all_eq {α : Type} [BEq α] [LawfulBEq α] : ∀ {xs ys : List α}, xs.length = ys.length → (List.range xs.length).all (fun j => xs[j]? == ys[j]?) = (xs == ys) := by
 intro xs ys hl
 rw [Bool.eq_iff_iff, List.all_eq_true, beq_iff_eq]
 constructor
 ·intro h
  refine List.ext_getElem? fun j => ?_
  by_cases hj : j < xs.length
  ·exact eq_of_beq (h j (List.mem_range.mpr hj))
  ·rw [List.getElem?_eq_none (by omega), List.getElem?_eq_none (by omega)]
 ·intro h j _
  rw [h]; exact beq_self_eq_true _
section
variable {K : PySem.W.Frag} {H : Hp}
theorem eqv_ints_item {n : Nat} {xs ys : List Int} : ∀ (j : Nat) (x y : V), (xs.map V.int)[j]? = some x → (ys.map V.int)[j]? = some y → EqV K H n x y (xs[j]? == ys[j]?) := by
 intro j x y hx hy
 rw [List.getElem?_map] at hx hy
 cases ex : xs[j]? with
 | none => rw [ex] at hx; cases hx
 | some i =>
  cases ey : ys[j]? with
  | none => rw [ey] at hy; cases hy
  | some k =>
   rw [ex] at hx; rw [ey] at hy; cases hx; cases hy
   have e : (some i == some k) = (i == k) := by rfl
   rw [e]
   exact EqV.int i k
theorem eqv_ints {n : Nat} {a b : Addr} {xs ys : List Int} (ne : a ≠ b) (h1 : SqL K H a (xs.map V.int)) (h2 : SqL K H b (ys.map V.int)) : EqV K H (n + 1) (.ref a) (.ref b) (xs == ys) := by
 by_cases hl : xs.length = ys.length
 ·have q := EqV.lst (n := n) (e := fun j => xs[j]? == ys[j]?) ne h1 h2 (by simpa using hl) eqv_ints_item
  rw [List.length_map, range_all_eq hl] at q
  exact q
 ·have e : (xs == ys) = false := by rw [beq_eq_false_iff_ne]; intro e; exact hl (by rw [e])
  rw [e]
  exact EqV.lstN ne h1 h2 (by simpa using hl)
theorem rcv_ints {a b : Addr} {xs ys : List Int} (h1 : SqL K H a (xs.map V.int)) (h2 : SqL K H b (ys.map V.int)) : RcV K H (.ref a) (.ref b) (xs == ys) := by
 by_cases hl : xs.length = ys.length
 ·have q := RcV.lst (e := fun j => xs[j]? == ys[j]?) h1 h2 (by simpa using hl) eqv_ints_item
  rw [List.length_map, range_all_eq hl] at q
  exact q
 ·have e : (xs == ys) = false := by rw [beq_eq_false_iff_ne]; intro e; exact hl (by rw [e])
  rw [e]
  exact RcV.lstN h1 h2 (by simpa using hl)
theorem rcv_nil {a b : Addr} {xs : List V} (h1 : SqL K H a xs) (h2 : SqL K H b []) : RcV K H (.ref a) (.ref b) xs.isEmpty := by
 cases xs with
 | nil => exact RcV.lst (e := fun _ => true) h1 h2 rfl (fun j x y hx => nomatch hx)
 | cons x r => exact RcV.lstN h1 h2 (by simp)
end
section
variable {X : Cx}
def rIsi (K : PySem.W.Frag) (T : String) : List V → Hp → VK → Prop := fun vs H Q => ∃ x t b, vs = [x, .ty T] ∧ TyOf K H x t ∧ PySem.W.kitOne K t (.type T) = some b ∧ Q (.bl b) H
theorem call_isi (T : String) : CallR X (.builtin "isinstance") (rIsi X.K T) := by
 intro pins s σ H xs us Q I r h
 obtain ⟨x, t, b, rfl, ty, e, q⟩ := h
 obtain ⟨u, v, rfl, ru, rv⟩ := r.two
 cases rv
 exact isinst_ok I ru ty e fun tk => ⟨.bl b, H, I.tok tk, rfl, q⟩
theorem rng_list {pins : List (Addr × Obj)} {σ : St} {H : Hp} {s : Shared} {Q : VK} {E : Value → Shared → Prop} {lo hi : Int} {t u v : Tok} {tk : Nat} (hcalm : X.calm = true) (I : Inv X pins σ H s) (h1 : -(2 ^ 20) ≤ lo) (h2 : lo < 2 ^ 20) (h3 : -(2 ^ 20) ≤ hi) (h4 : hi < 2 ^ 20)
  (q : ∀ p, H p = none → Q (.ref p) (upd H p (.lst ((List.range (hi - lo).toNat).map fun i : Nat => V.int (lo + i))))) :
  wpAny (model X.prog X.w) X.A (call (.type "list") [.ref s.heap.objs.size]) (EP X pins σ Q) E { s with heap := s.heap.push { cls := .type "range", data := .fields #[.int lo t, .int hi u, .int 1 v] }, toks := tk } := by
 have I1 : Inv X pins σ H { s with heap := s.heap.push { cls := .type "range", data := .fields #[.int lo t, .int hi u, .int 1 v] }, toks := tk } := I.kept fun b o e => Heap.get?_push_of_some _ e
 refine call_list_range (n := (hi - lo).toNat) (I.ok.hd hcalm) (IsRange.new ..) (small_one (by omega) (by omega) (by omega) (by omega)) (by rw [rangeSize_one]; split <;> omega) (by omega) fun h' tk' acc' c' hk hS hacc => ?_
 refine ⟨.ref _, _, I1.laid (t' := tk') hk (Nat.le_refl _) (show ObjOk X.prog X.w _ h' _ (.lst ((List.range (hi - lo).toNat).map fun i : Nat => V.int (lo + i))) from ⟨?_, acc'.toList, c', ?_, by simpa using hS⟩), rfl, q _ (I1.hok.fresh (Nat.le_refl _))⟩
 ·rw [List.length_map, List.length_range]
  exact Nat.le_trans (show (hi - lo).toNat ≤ 2 ^ 22 by omega) (by decide)
 ·have key : ∀ (n : Nat) (us : List Value) (f : Nat → Int), us.length = n → (∀ (j : Nat) (u : Value), us[j]? = some u → ∃ t, u = Value.int (f j) t) → Vals ((List.range n).map fun i : Nat => V.int (f i)) us := by
   intro n
   induction n with
   | zero => intro us f hl _; have : us = [] := List.eq_nil_of_length_eq_zero hl; subst this; exact .nil
   | succ n ih =>
    intro us f hl hu
    cases us with
    | nil => cases hl
    | cons u0 r =>
     rw [List.range_succ_eq_map, List.map_cons, List.map_map]
     refine .cons (hu 0 u0 rfl) ?_
     exact ih r (fun i => f (i + 1)) (by simpa using hl) fun j w hw => hu (j + 1) w (by simpa using hw)
  refine key _ _ (fun i => lo + i) (by rw [Array.length_toList]; exact hacc.1) fun j w hw => ?_
  obtain ⟨t, e⟩ := hacc.2 j w (by rw [← Array.getElem?_toList]; exact hw)
  exact ⟨t, by rw [e, Int.mul_one]⟩
def tLRng (ta : TA) (lo : List V → Option (Int × Int)) : TE := fun σ H Q => ta σ H fun vs H1 => ∃ i j, lo vs = some (i, j) ∧ (-(2 ^ 20) ≤ i ∧ i < 2 ^ 20 ∧ -(2 ^ 20) ≤ j ∧ j < 2 ^ 20) ∧ ∀ p, H1 p = none → Q (.ref p) (upd H1 p (.lst ((List.range (j - i).toNat).map fun k : Nat => V.int (i + k))))
def rg1 : List V → Option (Int × Int)
 | [.int j] => some (0, j)
 | _ => none
theorem pe_list_range1 {a : Expr} {ta : TA} {p pos p' pos' : Pos} (hcalm : X.calm = true) (hg : Gl X "range") (hm : X.mg "range" = none) (hg' : Gl X "list") (hm' : X.mg "list" = none) (ha : PA X [a] ta) (hs : starEach [a] X.env = [(false, eval a X.env)] := by rfl)
  (hs' : starEach [.Call (.Name "range" p) [a] [] pos] X.env = [(false, eval (.Call (.Name "range" p) [a] [] pos) X.env)] := by rfl) :
  PE X (.Call (.Name "list" p') [.Call (.Name "range" p) [a] [] pos] [] pos') (tLRng ta rg1) := by
 intro pins s σ H Q I h
 refine Call_ (ld_blt I hg' hm' boot_list (PyProof.Rows.callWith_type1 ?_ hs' rfl))
 rw [hs']
 show wpAny _ _ (spliced ((false, eval (.Call (.Name "range" p) [a] [] pos) X.env) :: [])) _ _ s
 refine Calls.spliced_cons (Call_ (ld_blt I hg hm boot_range (PyProof.Rows.callWith_type1 (thn (ha pos pins s σ H _ I h) fun us s1 ⟨vs, H1, I1, r1, q1⟩ => ?_) hs rfl)))
 obtain ⟨i, j, e, ⟨q1, q2, q3, q4⟩, q⟩ := q1
 cases r1 with
 | nil => cases e
 | @cons x u xs us r rr =>
  cases rr with
  | cons _ _ => cases x <;> cases e
  | nil =>
   cases x with
   | int k =>
    cases e
    obtain ⟨t, rfl⟩ := r
    exact call_range_1 (Calls.spliced_nil (rng_list hcalm I1 q1 q2 q3 q4 q))
   | _ => cases e
theorem vals_intsAre : ∀ {ns : List Int} {us : List Value}, Vals (ns.map V.int) us → IntsAre us ns
 | [], _, .nil => .nil
 | n :: r, _, .cons h t => by obtain ⟨k, rfl⟩ := h; exact .cons n k (vals_intsAre t)
theorem intsAre_vals : ∀ {us : List Value} {ns : List Int}, IntsAre us ns → Vals (ns.map V.int) us
 | _, _, .nil => .nil
 | _, _, .cons n t h => .cons ⟨t, rfl⟩ (intsAre_vals h)
def rSorted (K : PySem.W.Frag) : List V → Hp → VK → Prop := fun vs H Q => ∃ (p : Addr) (ns : List Int), vs = [.ref p] ∧ SqL K H p (ns.map V.int) ∧ ns.length < 64 ∧ ∀ (l : Addr) (ns' : List Int), H l = none → ns'.Perm ns → ns'.Pairwise (· ≤ ·) → Q (.ref l) (upd H l (.lst (ns'.map V.int)))
theorem call_sorted : CallR X (.builtin "sorted") (rSorted X.K) := by
 intro pins s σ H xs us Q I r h
 obtain ⟨p, ns, rfl, hq, h64, q⟩ := h
 obtain ⟨u, rfl, ru⟩ := r.one
 cases ru
 obtain ⟨its, rv, pl, hz⟩ := I.list hq
 have hl := rv.length
 rw [List.length_map] at hl
 refine sorted_ints (vs := its) pl.isList (vals_intsAre rv) (by omega) fun out ns' a1 a2 a3 => ?_
 obtain ⟨e, he⟩ := sortedAll_at s.heap its out
 have hlen : ns'.length = ns.length := a2.length_eq
 refine ⟨.ref _, _, I.laid (t' := s.toks) (fun _ _ => sortedAll_old) (Nat.le_succ _) (show ObjOk X.prog X.w _ _ _ (.lst (ns'.map V.int)) from ⟨?_, out.toList, e, intsAre_vals a1, by simpa using he⟩), rfl, q _ ns' (I.hok.fresh (Nat.le_succ _)) a2 a3⟩
 rw [List.length_map, hlen]
 exact Nat.le_trans (Nat.le_of_lt h64) (by decide)
end
section
variable {X : Cx} {pins : List (Addr × Obj)} {σ : St} {H : Hp} {s : Shared} {d : Addr} {kvs : List (Key × V)}
theorem Inv.ghost {H' : Hp} (I : Inv X pins σ H s) (hd : ∃ o, H d = some o ∧ (∀ xs, o ≠ .tup xs) ∧ (∀ ps, o ≠ .tbl ps) ∧ ∀ y, o ≠ .own y) (he : ∀ b, b ≠ d → H' b = H b) (hfz : ∀ o u, X.H₀ d = some (.frz o u) → H' d = some (.frz o u))
  (hn : ∃ o, H' d = some o ∧ (∀ y, o ≠ .own y) ∧ ObjOk X.prog X.w H' s.heap d o) : Inv X pins σ H' s := by
 obtain ⟨o, ho, n1, n2, n3⟩ := hd
 obtain ⟨o', ho', n3', ok'⟩ := hn
 have ne : ∀ b, H b = none → b ≠ d := fun b hb z => by rw [z, ho] at hb; cases hb
 refine ⟨I.ok, I.os, I.bare, ⟨I.base.keep, I.base.slot, fun b ob e n hx => ?_, I.base.there, fun b xs e => ?_, fun b ob u e => ?_, fun b ps e => ?_⟩, I.loc, I.cell, ?_, fun x c e => ?_, fun p hp => ?_, fun b u e => ?_, I.len⟩
 ·have q := I.base.free b ob e n hx
  rw [he b (ne b q)]; exact q
 ·have q := I.base.tups b xs e
  have hb : b ≠ d := fun z => by rw [z, ho] at q; exact n1 xs (Option.some.inj q)
  rw [he b hb]; exact q
 ·by_cases hb : b = d
  ·rw [hb] at e ⊢; exact hfz ob u e
  ·rw [he b hb]; exact I.base.frzs b ob u e
 ·obtain ⟨m, q⟩ := I.base.tbls b ps e
  have hb : b ≠ d := fun z => by rw [z, ho] at q; exact n2 _ (Option.some.inj q)
  exact ⟨m, by rw [he b hb]; exact q⟩
 ·rw [he _ (ne _ I.free)]; exact I.free
 ·rw [he c (ne c (I.freeC x c e))]; exact I.freeC x c e
 ·obtain ⟨q1, q2, q3⟩ := I.pin p hp
  exact ⟨q1, by rw [he _ (ne _ q2)]; exact q2, q3⟩
 ·by_cases hb : b = d
  ·subst hb
   rw [ho'] at e
   cases e
   exact ok'
  ·rw [he b hb] at e
   refine (I.hok b u e).stay (fun c w _ q => q) (fun c q => ?_) fun c xs q => ?_
   ·have hc : c ≠ d := fun z => by rw [z, ho] at q; exact n3 _ (Option.some.inj q)
    rw [he c hc]; exact q
   ·have hc : c ≠ d := fun z => by rw [z, ho] at q; exact n1 _ (Option.some.inj q)
    rw [he c hc]; exact q
end
section
variable {X : Cx} {tg : Expr}
theorem call_allB (hcalm : X.calm = true) : CallR X (.builtin "all") (fun vs H Q => ∃ (p : Addr) (bs : List Bool), vs = [.ref p] ∧ SqL X.K H p (bs.map V.bl) ∧ Q (.bl (bs.all id)) H) := by
 intro pins s σ H xs us Q I r h
 obtain ⟨p, bs, rfl, hq, q⟩ := h
 obtain ⟨u, rfl, ru⟩ := r.one
 cases ru
 obtain ⟨its, rv, pl, hz⟩ := I.list hq
 have hlt : p < s.heap.objs.size := by obtain ⟨o, e, _⟩ := pl.isList; exact Heap.lt_size e
 refine call_all_walk (wpAny_pyIter_list pl.isList ?_)
 have hl := rv.length
 rw [List.length_map] at hl
 refine ⟨s.heap.objs.size, _, _, its.toArray.size, _, _, fun i => bs.getD i false, rfl, Walks.list (A := X.A.in1) (I.ok.hd hcalm) s.heap.objs.size p (Nat.ne_of_lt hlt) its.toArray, ⟨⟨_, Heap.get?_push_size _ rfl, rfl, rfl⟩, pl.isList.at fun o e => Heap.get?_push_of_some _ e⟩, ?_, fun h' tk hk => ?_⟩
 ·intro i v s' Q' E' hP hQ
  have hv : its[i]? = some v := by simpa using hP
  have hi : i < bs.length := by rw [hl]; exact (List.getElem?_eq_some_iff.mp hv).1
  obtain ⟨u, hu, ru⟩ := rv.get (i := i) (x := V.bl bs[i]) (by rw [List.getElem?_map, List.getElem?_eq_getElem hi]; rfl)
  rw [hv] at hu
  cases hu
  have eb : v = Value.bool bs[i] := ru
  subst eb
  have eg : bs.getD i false = bs[i] := by simp [List.getD, hi]
  refine wpAny_truthy_bool ?_
  rw [← eg]; exact hQ
 ·have I1 : Inv X pins σ H { s with heap := h', toks := tk } := I.kept fun b o e => hk b o (by simp; exact Nat.ne_of_lt (Heap.lt_size e)) (Heap.get?_push_of_some _ e)
  have e : (List.range its.toArray.size).all (fun i => bs.getD i false) = bs.all id := by
   have e1 : its.toArray.size = bs.length := by simpa using hl.symm
   rw [e1, Bool.eq_iff_iff, List.all_eq_true, List.all_eq_true]
   constructor
   ·intro h x hx
    obtain ⟨i, hi, rfl⟩ := List.mem_iff_getElem.mp hx
    have := h i (List.mem_range.mpr hi)
    simpa [List.getD, hi] using this
   ·intro h i hi
    have hi' := List.mem_range.mp hi
    have := h bs[i] (List.getElem_mem hi')
    simpa [List.getD, hi'] using this
  rw [e]
  exact ⟨.bl _, H, I1, rfl, q⟩
end
end L2
namespace L2
open PySem PySem.Spec PyProof.Rows
def blkOk (osc : Scope) (N xs : List Str) (sc : Scope) : Bool :=
 (sc.kind == .function) && sc.names.all (fun y => y.2 != .cell) && sc.names.all (fun y => y.2 != .local || (sc.names.lookup y.1 == some .local)) && sc.names.all (fun y => y.2 != .local || (xs.contains y.1 || y.1 == (".0" : Str))) &&
  sc.names.all (fun y => y.2 != .free || (osc.names.lookup y.1 == some .cell || osc.names.lookup y.1 == some .free)) && N.all (fun y => (sc.names.lookup (y ++ ("#" : Str))).isNone) && !N.contains (".0" : Str)
theorem blk_ok {X : Cx} {xs : List Str} {sc : Scope} (osc : Scope) (N : List Str) (hs : X.env.scope = osc) (hN : X.N = N) (h : blkOk osc N xs sc = true) : BlkScope X xs sc := by
 unfold blkOk at h
 simp only [Bool.and_eq_true, List.all_eq_true, Bool.or_eq_true, Bool.not_eq_true', bne_iff_ne, beq_iff_eq, List.contains_iff_mem] at h
 obtain ⟨⟨⟨⟨⟨⟨h1, h2⟩, h3⟩, h4⟩, h5⟩, h6⟩, h7⟩ := h
 refine ⟨h1, h2, fun y hy e => ?_, fun y hy e => ?_, fun y hy e => ?_, fun y hy => ?_, ?_⟩
 ·exact (h3 y hy).resolve_left fun z => z e
 ·exact (h4 y hy).resolve_left fun z => z e
 ·have z := (h5 y hy).resolve_left fun z => z e
  rw [← hs] at z
  exact z
 ·rw [hN] at hy
  exact Option.isNone_iff_eq_none.mp (h6 y hy)
 ·rw [hN]
  intro z
  rw [List.contains_iff_mem.mpr z] at h7
  cases h7
def Gives (t : TE) (σ : St) (H : Hp) (v : V) : Prop := ∀ P : VK, (∀ H2, Same H H2 → P v H2) → t σ H P
def Tells (t : TT) (σ : St) (H : Hp) (b : Bool) : Prop := ∀ P : Bool → Hp → Prop, (∀ H2, Same H H2 → P b H2) → t σ H P
theorem Same.rfl' {H : Hp} : Same H H := fun _ _ h => h
theorem Same.new {H : Hp} {p : Addr} (h : H p = none) (o : HO) : Same H (upd H p o) := fun b u q => by rw [upd_ne (ne_of_none q h)]; exact q
theorem tells_true {σ : St} {H : Hp} : Tells tTrue σ H true := fun _ h => h H Same.rfl'
theorem turns_gen {J : It} {n : Nat} {tc : TT} {te : TE} {D : Addr} {Q : Hp → Prop} {σ : St} {H1 : Hp} (item : Nat → V) (c : Nat → Bool) (v : Nat → V) (hD : H1 D = none) (hn : n ≤ 1000)
  (hgo : ∀ i H', Same H1 H' → i < n → J.go i H') (hyl : ∀ i H' x H2, Same H1 H' → i < n → J.yld i H' x H2 → H2 = H' ∧ x = item i) (hst : ∀ H', Same H1 H' → J.stop n H')
  (ht : ∀ i H', i < n → Same H1 H' → Tells tc (some (item i) :: σ) H' (c i)) (he : ∀ i H', i < n → c i = true → Same H1 H' → Gives te (some (item i) :: σ) H' (v i))
  (hq : ∀ H', Same H1 H' → H' D = some (.lst (((List.range n).filter c).map v)) → Q H') : tTurns J (gName 0) tc te D Q (none :: σ) (upd H1 D (.lst [])) := by
 refine ⟨fun i m σ' H' => ∃ x, σ' = x :: σ ∧ m = n - i ∧ i ≤ n ∧ Same H1 H' ∧ H' D = some (.lst (((List.range i).filter c).map v)), ⟨n, none, rfl, rfl, Nat.zero_le _, Same.new hD _, upd_same⟩, ?_⟩
 rintro i m σ' H' ⟨x, rfl, rfl, hi, g, hl⟩
 by_cases hlt : i < n
 ·refine .inr ⟨hgo i H' g hlt, fun σ2 H2 => ∃ x, σ2 = x :: σ ∧ Same H1 H2 ∧ H2 D = some (.lst (((List.range (i + 1)).filter c).map v)), ?_, fun x' H2 y => ?_⟩
  ·rintro σ2 H2 ⟨x, rfl, g2, l2⟩
   exact ⟨n - (i + 1), by omega, x, rfl, rfl, hlt, g2, l2⟩
  ·obtain ⟨rfl, rfl⟩ := hyl i H' x' H2 g hlt y
   show tc (some (item i) :: σ) H2 _
   refine ht i H2 hlt g _ fun H3 g3 => ?_
   have hr : (List.range (i + 1)).filter c = (List.range i).filter c ++ (if c i = true then [i] else []) := by
    rw [List.range_succ, List.filter_append, List.filter_cons, List.filter_nil]
   refine ite2 (fun hc => ?_) (fun hc => ?_)
   ·refine he i H3 hlt hc (g.trans g3) _ fun H4 g4 => ?_
    have l4 := g4 _ _ (g3 _ _ hl)
    refine ⟨_, l4, ?_, some (item i), rfl, fun b o hb => ?_, ?_⟩
    ·rw [List.length_map]
     have := List.length_filter_le c (List.range i)
     rw [List.length_range] at this
     exact small1000 (by omega)
    ·have hne : b ≠ D := fun e => by rw [e, hD] at hb; cases hb
     rw [upd_ne hne]
     exact g4 _ _ (g3 _ _ (g _ _ hb))
    ·rw [upd_same, hr, if_pos hc, List.map_append]
     rfl
   ·refine ⟨some (item i), rfl, g.trans g3, ?_⟩
    rw [hr, if_neg hc, List.append_nil]
    exact g3 _ _ hl
 ·have e : i = n := by omega
  subst e
  exact .inl ⟨hst H' g, hq H' g hl⟩
theorem turns_range {lo : Int} {n : Nat} {tc : TT} {te : TE} {D : Addr} {Q : Hp → Prop} {σ : St} {H1 : Hp} (c : Nat → Bool) (v : Nat → V) (hD : H1 D = none) (hn : n ≤ 1000)
  (ht : ∀ i H', i < n → Same H1 H' → Tells tc (some (.int (lo + i)) :: σ) H' (c i)) (he : ∀ i H', i < n → c i = true → Same H1 H' → Gives te (some (.int (lo + i)) :: σ) H' (v i))
  (hq : ∀ H', Same H1 H' → H' D = some (.lst (((List.range n).filter c).map v)) → Q H') : tTurns (Itr lo n) (gName 0) tc te D Q (none :: σ) (upd H1 D (.lst [])) :=
 turns_gen (fun i => .int (lo + i)) c v hD hn (fun i _ _ h => h) (fun i H' x H2 _ _ y => y) (fun _ _ => Nat.le_refl _) ht he hq
theorem range_getD_filter {α : Type} (c : α → Bool) (d : α) : ∀ (xs : List α), ((List.range xs.length).filter fun i => c (xs.getD i d)).map (fun i => xs.getD i d) = xs.filter c
 | [] => rfl
 | x :: xs => by
  have ih := range_getD_filter c d xs
  rw [List.length_cons, List.range_succ_eq_map, List.filter_cons]
  have e1 : (x :: xs).getD 0 d = x := rfl
  rw [e1]
  have e2 : (List.map Nat.succ (List.range xs.length)).filter (fun i => c ((x :: xs).getD i d)) = (((List.range xs.length).filter fun i => c (xs.getD i d)).map Nat.succ) := by
   rw [List.filter_map]
   rfl
  by_cases hc : c x = true
  ·rw [if_pos hc, List.filter_cons, if_pos hc, List.map_cons, e2, List.map_map, ← ih]
   rfl
  ·rw [if_neg hc, List.filter_cons, if_neg hc, e2, List.map_map, ← ih]
   rfl
theorem turns_list {K : PySem.W.Frag} {a : Addr} {xs : List V} {tc : TT} {te : TE} {D : Addr} {Q : Hp → Prop} {σ : St} {H1 : Hp} (c : Nat → Bool) (v : Nat → V) (hS : SqL K H1 a xs) (hD : H1 D = none) (hn : xs.length ≤ 1000)
  (ht : ∀ i H', i < xs.length → Same H1 H' → Tells tc (some (xs.getD i .non) :: σ) H' (c i)) (he : ∀ i H', i < xs.length → c i = true → Same H1 H' → Gives te (some (xs.getD i .non) :: σ) H' (v i))
  (hq : ∀ H', Same H1 H' → H' D = some (.lst (((List.range xs.length).filter c).map v)) → Q H') : tTurns (Itl K a) (gName 0) tc te D Q (none :: σ) (upd H1 D (.lst [])) := by
 refine turns_gen (fun i => xs.getD i .non) c v hD hn (fun i H' g h => ⟨xs, xs[i], g.seq hS, List.getElem?_eq_getElem h⟩) (fun i H' x H2 g h y => ⟨y.1, ?_⟩) (fun H' g => ⟨xs, g.seq hS, Nat.le_refl _⟩) ht he hq
 have := y.2 xs (g.seq hS)
 rw [List.getElem?_eq_getElem h] at this
 rw [List.getD_eq_getElem?_getD, List.getElem?_eq_getElem h]
 exact (Option.some.inj this).symm
theorem while_by2 {c : TT} {tb : TS} {D : Ends} {σ : St} {H : Hp} (Pv : St → Hp → Prop) (μ : St → Hp → Nat) (h0 : Pv σ H)
  (hs : ∀ σ H, Pv σ H → c σ H fun b H1 => if b = true then ∃ N : St → Hp → Prop, (∀ σ' H', N σ' H' → ∃ m', m' < μ σ H ∧ m' = μ σ' H' ∧ Pv σ' H') ∧ tb { D with nx := N, ct := N, bk := D.nx } σ H1 else D.nx σ H1) : tWhile c tb D σ H := by
 refine ⟨fun m σ H => m = μ σ H ∧ Pv σ H, ⟨_, rfl, h0⟩, ?_⟩
 rintro m σ H ⟨rfl, p⟩
 exact hs σ H p
theorem next_by {tb : TS} {D : Ends} {σ : St} {H H1 : Hp} {Pv : St → Hp → Prop} {μ : St → Hp → Nat} (h : tb { D with nx := fun σ' H' => Pv σ' H' ∧ μ σ' H' < μ σ H, ct := fun σ' H' => Pv σ' H' ∧ μ σ' H' < μ σ H, bk := D.nx } σ H1) :
  ∃ N : St → Hp → Prop, (∀ σ' H', N σ' H' → ∃ m', m' < μ σ H ∧ m' = μ σ' H' ∧ Pv σ' H') ∧ tb { D with nx := N, ct := N, bk := D.nx } σ H1 := ⟨_, fun _ _ h => ⟨_, h.2, rfl, h.1⟩, h⟩
end L2
namespace L2
open PySem PySem.Spec PyProof.Rows
structure KDict (K : PySem.W.Frag) (w : World) (d : Addr) (kvs : List (Str × Tok × Value)) : Prop where
 lo : (d == sysModules) = false
 nd : (kvs.map (·.1)).Nodup
 at' : ∃ n, K.lookup d = some { cls := .type "dict", data := .dict (kvs.map fun e => ({ hash := PyData.keyHash w.params e.1, key := .str e.1 e.2.1, val := e.2.2 } : DictEntry)).toArray n }
section
variable {X : Cx} {d : Addr} {kvs : List (Str × Tok × Value)} {o i : Expr} {td ty : TE} {pos : Pos}
end
theorem getD_map_int (xs : List Int) {i : Nat} (h : i < xs.length) : (xs.map V.int).getD i .non = .int (xs.getD i 0) := by
 rw [List.getD_eq_getElem?_getD, List.getElem?_map, List.getElem?_eq_getElem h, List.getD_eq_getElem?_getD, List.getElem?_eq_getElem h]
 rfl
end L2
namespace L2
open PySem PySem.Spec PyProof.Rows
section
variable {X : Cx} (K : PySem.W.Frag)
theorem ix_listK (h : X.K = K := by rfl) : IxR X (rIxL K) := h ▸ ix_list
theorem ix_tupK (h : X.K = K := by rfl) : IxR X (rIxT K) := h ▸ ix_tup
end
end L2
namespace L2
open PySem PySem.Spec PyProof.Rows
section
variable {X : Cx}
end
def Ex (S : Addr → Prop) (H H' : Hp) : Prop := ∀ b o, ¬ S b → H b = some o → H' b = some o
theorem Ex.refl {S : Addr → Prop} {H : Hp} : Ex S H H := fun _ _ _ h => h
theorem Ex.trans {S : Addr → Prop} {H H1 H2 : Hp} (a : Ex S H H1) (b : Ex S H1 H2) : Ex S H H2 := fun c o n h => b c o n (a c o n h)
theorem Ex.same {S : Addr → Prop} {H H1 : Hp} (a : Same H H1) : Ex S H H1 := fun c o _ h => a c o h
theorem Ex.put {S : Addr → Prop} {H : Hp} {p : Addr} (o : HO) (hp : S p) : Ex S H (upd H p o) := fun c o' n h => by
 have : c ≠ p := fun e => n (e ▸ hp)
 rw [upd_ne this]; exact h
theorem Ex.new {S : Addr → Prop} {H : Hp} {p : Addr} (o : HO) (hp : H p = none) : Ex S H (upd H p o) := Ex.same (Same.new hp o)
theorem Ex.wide {S S' : Addr → Prop} {H H1 : Hp} (a : Ex S H H1) (h : ∀ b, S b → S' b) : Ex S' H H1 := fun c o n e => a c o (fun z => n (h c z)) e
theorem pick_int (xs : List Int) {r : Int} (h0 : 0 ≤ r) (h1 : r < (xs.length : Nat)) : ∃ v, atI (xs.map V.int) r = some (.int v) ∧ v ∈ xs := by
 have hj : r.toNat < xs.length := by omega
 have e : r = ((r.toNat : Nat) : Int) := by omega
 refine ⟨xs[r.toNat], ?_, List.getElem_mem hj⟩
 have q : atI (xs.map V.int) ((r.toNat : Nat) : Int) = some (.int xs[r.toNat]) := atI_nat (by rw [List.getElem?_map, List.getElem?_eq_getElem hj] <;> rfl)
 rw [← e] at q
 exact q
inductive CInts : List Expr → List Int → Prop where
 | nil : CInts [] []
 | cons {n : Int} {j : Nat} {p : Pos} {es : List Expr} {ns : List Int} : CInts es ns → CInts (.Constant (.int n) j p :: es) (n :: ns)
inductive CLists : List Expr → List (List Int) → Prop where
 | nil : CLists [] []
 | cons {fs es : List Expr} {ns : List Int} {nss : List (List Int)} {p : Pos} : CInts fs ns → CLists es nss → CLists (.List fs p :: es) (ns :: nss)
section
variable {X : Cx}
end
end L2
namespace L2
open PySem PySem.Spec PyProof.Rows
theorem inV_int (x : Int) : ∀ xs : List Int, inV (.int x) (xs.map V.int) = xs.contains x
 | [] => rfl
 | y :: r => by
  have ih := inV_int x r
  unfold inV at ih ⊢
  rw [List.map_cons, List.any_cons, ih, List.contains_cons]
  have e : eqV (.int y) (.int x) = (x == y) := by
   show (y == x) = (x == y)
   exact Bool.eq_iff_iff.mpr ⟨fun h => beq_iff_eq.mpr (beq_iff_eq.mp h).symm, fun h => beq_iff_eq.mpr (beq_iff_eq.mp h).symm⟩
  rw [e]
theorem flat_ints : ∀ xs : List Int, (xs.map V.int).all flatV = true
 | [] => rfl
 | _ :: r => by rw [List.map_cons, List.all_cons, flat_ints r]; rfl
section
variable {X : Cx} (K : PySem.W.Frag)
def rInI (K : PySem.W.Frag) (neg : Bool) : R2 := fun x y H Q => ∃ (p : Addr) (i : Int) (xs : List Int), x = .int i ∧ y = .ref p ∧ SqL K H p (xs.map V.int) ∧ Q (.bl (if neg then !xs.contains i else xs.contains i)) H
theorem op_inI (h : X.K = K := by rfl) : OpR X (compareOp .In) (rInI K false) := by
 intro pins s σ H x y v u Q I rx ry ⟨p, i, xs, e1, e2, hs, q⟩
 subst e1 e2
 refine op_in_seq pins s σ H _ _ v u Q I rx ry ⟨p, xs.map V.int, rfl, .inl (h ▸ hs), rfl, flat_ints xs, ?_⟩
 rw [inV_int]
 exact q
theorem op_notInI (h : X.K = K := by rfl) : OpR X (compareOp .NotIn) (rInI K true) := by
 intro pins s σ H x y v u Q I rx ry ⟨p, i, xs, e1, e2, hs, q⟩
 subst e1 e2
 refine op_notIn_seq pins s σ H _ _ v u Q I rx ry ⟨p, xs.map V.int, rfl, .inl (h ▸ hs), rfl, flat_ints xs, ?_⟩
 rw [inV_int]
 exact q
end
end L2
namespace L2
open PySem PySem.Spec PyProof.Rows
def Ite (a : Addr) : It :=
 ⟨fun i H => ∃ xs x, H a = some (.lst xs) ∧ xs[i]? = some x, fun i H x H' => ∃ T xs y, H T = none ∧ H a = some (.lst xs) ∧ xs[i]? = some y ∧ x = .ref T ∧ H' = upd H T (.tup [.int i, y]), fun i H => ∃ xs, H a = some (.lst xs) ∧ xs.length ≤ i⟩
theorem turns_any {J : It} {n : Nat} {g : TG} {tc : TT} {te : TE} {D : Addr} {Q : Hp → Prop} {σ0 : St} {H0 : Hp} (W : Nat → St → Hp → Prop) (h0 : W 0 σ0 H0)
  (step : ∀ i σ H, i < n → W i σ H → J.go i H ∧ ∀ x H', J.yld i H x H' → g x σ H' fun σ2 H2 => tc σ2 H2 fun b H3 =>
   if b = true then te σ2 H3 fun v H4 => ∃ zs, H4 D = some (.lst zs) ∧ zs.length < sizeLine ∧ W (i + 1) σ2 (upd H4 D (.lst (zs ++ [v]))) else W (i + 1) σ2 H3)
  (stop : ∀ σ H, W n σ H → J.stop n H ∧ Q H) : tTurns J g tc te D Q σ0 H0 := by
 refine ⟨fun i m σ H => m = n - i ∧ i ≤ n ∧ W i σ H, ⟨n, rfl, Nat.zero_le _, h0⟩, ?_⟩
 rintro i m σ H ⟨rfl, hi, w⟩
 by_cases hlt : i < n
 ·obtain ⟨hg, hy⟩ := step i σ H hlt w
  exact .inr ⟨hg, W (i + 1), fun σ' H' w' => ⟨n - (i + 1), by omega, rfl, hlt, w'⟩, hy⟩
 ·have e : i = n := by omega
  subst e
  exact .inl (stop σ H w)
theorem fltT {α : Type} (l : List α) : l.filter (fun _ => true) = l := List.filter_eq_self.mpr fun _ _ => rfl
section
variable {X : Cx} {pins : List (Addr × Obj)} {σ : St} {H : Hp} {s : Shared}
theorem Inv.turnedL {h' : Heap} {t' : Nat} {fp : List Addr} (I : Inv X pins σ H s) (k : ∀ b o, b ∉ fp → s.heap.get? b = some o → h'.get? b = some o) (hf : ∀ b ∈ fp, FpOk X pins H b) : Inv X pins σ H { s with heap := h', toks := t' } := by
 have nit : ∀ b u, H b = some u → b ∉ fp := fun b u e z => by rw [(hf b z).1] at e; cases e
 refine I.step (g' := s.gens) (d' := s.drawn) (ch := fp) (fun b hb => ?_) (fun b o _ _ hc e _ => k b o hc e) (fun b o _ _ hc e _ => ⟨o.slots, k b o hc e⟩) (fun _ _ _ _ n => n)
  (fun b o hc e => ⟨o, k b o hc e⟩) (fun _ _ e => e) (fun _ _ _ e => e) (fun b ps e => ⟨#[], by rw [e]; simp⟩) (fun m hm => ?_) (fun b u e => ?_) I.bare
 ·obtain ⟨_, f1, _, f3, f4, f5⟩ := hf b hb
  exact ⟨f3, f1, f4, f5⟩
 ·obtain ⟨o, es, ep, ho, r⟩ := hm
  exact ⟨o, es, ep, k _ o (fun z => (hf _ z).2.1 rfl) ho, r⟩
 ·refine (I.hok b u e).stay (fun c v hc q => k c v ?_ q) (fun _ q => q) fun _ _ q => q
  rcases hc with z | z
  ·rw [z]; exact nit b u e
  ·exact nit c _ z
end
theorem turn_enum {P : Program} {w : World} {K : PySem.W.Frag} {es : List Expr} {k : Nat} {pos : Pos} (a e it : Addr) (hei : e ≠ it) :
  Turn P w K (.Tuple es k pos) (Ite a) [e, it] e (fun i h => (∃ old, IsEnum h e it ((i : Nat) : Int) old) ∧ h.IsListIter it a i) where
 mem := by simp
 obj := fun i h st b hb => by
  obtain ⟨⟨old, he⟩, o, e1, c, d⟩ := st
  rcases List.mem_cons.mp hb with z | z
  ·subst z
   exact ⟨_, he, fun v z => by cases z⟩
  ·have z : b = it := by simpa using z
   subst z
   exact ⟨o, e1, fun v z => by rw [d] at z; cases z⟩
 keep := fun i h h' st k => ⟨let ⟨old, he⟩ := st.1; ⟨old, k e (by simp) _ he⟩, st.2.at fun o e => k it (by simp) o e⟩
 item := by
  intro X hP hw hK hc i pins s σ H E I hf st hg
  subst hP hw hK
  obtain ⟨xs, x, hq, hx⟩ := hg
  obtain ⟨hz, its, n, r, hl, ea⟩ := I.lstM hq
  obtain ⟨u, hu, ru⟩ := r.get hx
  obtain ⟨⟨old, he⟩, hit⟩ := st
  have hL : s.heap.IsList a its.toArray := ⟨_, ea, rfl, n, rfl⟩
  have helt : e < s.heap.objs.size := Heap.lt_size he
  have hilt : it < s.heap.objs.size := by obtain ⟨_, x, _⟩ := id hit; exact Heap.lt_size x
  have hun : ∀ b ∈ [e, it], b < s.heap.objs.size := fun b hb => by
   rcases List.mem_cons.mp hb with z | z
   ·rw [z]; exact helt
   ·rw [show b = it by simpa using z]; exact hilt
  refine wpAny_pyNext_enum_item he hit hL (x := u) (by simpa using hu) hei fun h' ho hit' hT hsz hk => ?_
  refine ⟨_, rfl, wpAny_letOwnedTupleGo_enum ho fun h2 he2 hs2 => ?_⟩
  replace hs2 : Heap.SameBut e h' h2 := hs2
  have I1 : Inv X pins σ (upd H s.heap.objs.size (.tup [.int i, x])) { s with heap := s.heap.push { cls := .type "tuple", data := .seq #[.int i s.toks, u] }, toks := s.toks + 1 } :=
   I.laid (fun b o q => Heap.get?_push_of_some _ q) (Nat.le_refl _) ⟨by show 2 ≤ sizeLine; decide, [.int i s.toks, u], .cons ⟨_, rfl⟩ (.cons ru .nil), ⟨_, Heap.get?_push_size _ rfl, rfl, _, rfl⟩⟩
  have frs : ∀ b ∈ [e, it], upd H s.heap.objs.size (.tup [.int i, x]) b = none := fun b hb => by
   rw [upd_ne (Nat.ne_of_lt (hun b hb))]; exact (hf b hb).1
  have I2 : Inv X pins σ (upd H s.heap.objs.size (.tup [.int i, x])) { s with heap := h2, toks := s.toks + 1 } := by
   refine Inv.turnedL (s := { s with heap := s.heap.push { cls := .type "tuple", data := .seq #[.int i s.toks, u] }, toks := s.toks + 1 }) (h' := h2) (t' := s.toks + 1) (fp := [e, it]) I1 (fun b o hb q => ?_) (fun b hb => ⟨frs b hb, (hf b hb).2⟩)
   have n1 : b ≠ e := fun z => hb (by simp [z])
   have n2 : b ≠ it := fun z => hb (by simp [z])
   refine (hs2.2 b n1).trans ?_
   rcases Heap.get?_push_cases q with ⟨eb, eo⟩ | q
   ·rw [eb, eo]; exact hT
   ·exact hk b o n1 n2 q
  refine ⟨.ref s.heap.objs.size, _, I2, rfl, ⟨_, xs, x, I.fresh, hq, hx, rfl, rfl⟩, ⟨⟨u, ?_⟩, ?_⟩, frs⟩
  ·have e1 : (((i + 1 : Nat)) : Int) = (i : Int) + 1 := by simp
   rw [e1]; exact he2
  ·exact hit'.at fun o y => (hs2.2 it hei.symm).trans y
 done := by
  intro X hP hw hK hc i pins s σ H E I hf st hg
  subst hP hw hK
  obtain ⟨xs, hq, hx⟩ := hg
  obtain ⟨hz, its, n, r, hl, ea⟩ := I.lstM hq
  obtain ⟨⟨old, he⟩, hit⟩ := st
  have hL : s.heap.IsList a its.toArray := ⟨_, ea, rfl, n, rfl⟩
  exact wpAny_pyNext_enum_end (I.ok.hd hc) he hit hL (by simp; omega) fun h' eb => ⟨rfl, I.turnedL (t' := s.toks) (fp := [e, it]) (fun b o hb q => eb b o (fun z => hb (by simp [z])) q) hf⟩
 self := fun _ _ _ _ _ st h => let ⟨_, he⟩ := st.1; wpAny_pyIter_enum he h
section
variable {X : Cx}
def iEnum (ta : TA) : TI := fun σ H R => ta σ H fun vs H1 => ∃ a xs, vs = [.ref a] ∧ H1 a = some (.lst xs) ∧ R (Ite a) H1
theorem pg_tupK (K : PySem.W.Frag) {es : List Expr} {k : Nat} {t : TGs} {n : Nat} {pos : Pos} (hc : X.calm = true) (h : PGs X es t) (hK : X.K = K := by rfl)
  (hn : (assignEach es X.env).length = n := by rfl) (hst : (assignEach es X.env).findIdx? (·.1) = none := by rfl) : PG X (.Tuple es k pos) (gTup K n t) := hK ▸ pg_tup hc h hn hst
theorem boot_enumerate : bootBuiltins "enumerate" = some (.type "enumerate") := by decide +kernel
theorem pi_enum {es : List Expr} {k : Nat} {tp : Pos} {a : Expr} {ta : TA} {p pos : Pos} (hg : Gl X "enumerate") (hm : X.mg "enumerate" = none) (ha : PA X [a] ta) (hs : starEach [a] X.env = [(false, eval a X.env)] := by rfl) :
  PI X (.Tuple es k tp) (.Call (.Name "enumerate" p) [a] [] pos) (iEnum ta) := by
 intro pins s σ H R I h
 refine wpAny_Call_Name_kw (ld_blt I hg hm boot_enumerate ?_ (by decide) (by decide))
 refine PyProof.Rows.callWith_type1 (thn (ha pos pins s σ H _ I h) fun us s1 ⟨vs, H1, I1, r1, q1⟩ => ?_) hs rfl
 obtain ⟨a, xs, e, hq, q⟩ := q1
 subst e
 obtain ⟨u, rfl, ru⟩ := r1.one
 cases ru
 obtain ⟨hz, its, n, r, hl, ea⟩ := I1.lstM hq
 refine call_enumerate_1 ea fun h' he hit hsz hk => ?_
 refine wpAny_pyIter_enum he ?_
 have I2 : Inv X pins σ H1 { s1 with heap := h' } := I1.kept (t' := s1.toks) hk
 refine ⟨s1.heap.objs.size + 1, [s1.heap.objs.size + 1, s1.heap.objs.size], _, _, H1, rfl, I2, turn_enum a _ _ (Nat.succ_ne_self _), ⟨⟨_, he⟩, hit⟩, fun b hb => ?_, q⟩
 rcases List.mem_cons.mp hb with z | z
 ·subst z; exact I1.fpOk (Nat.le_succ _) (I1.hok.fresh (Nat.le_succ _))
 ·have z : b = s1.heap.objs.size := by simpa using z
  subst z; exact I1.fpOk (Nat.le_refl _) (I1.hok.fresh (Nat.le_refl _))
theorem call_minL (hcalm : X.calm = true) : CallR X (.builtin "min") (fun vs H Q => ∃ (p : Addr) (ns : List Int), vs = [.ref p] ∧ SqL X.K H p (ns.map V.int) ∧ 0 < ns.length ∧ ∀ M, M ∈ ns → (∀ a ∈ ns, M ≤ a) → Q (.int M) H) := by
 intro pins s σ H xs us Q I r h
 obtain ⟨p, ns, rfl, hq, hne, q⟩ := h
 obtain ⟨u, rfl, ru⟩ := r.one
 cases ru
 obtain ⟨its, rv, pl, hz⟩ := I.list hq
 have hi := vals_intsAre rv
 obtain ⟨ws, e⟩ := hi.allInts.items
 have hns : ns = ws.toList.map (·.1) := by rw [← hi.numsOf, ← nums_intItems, ← e]
 have hlen : ns.length = ws.size := by rw [hns, List.length_map, Array.length_toList]
 refine min_intList (I.ok.hd hcalm) (l := p) (xs := ws) (e ▸ pl.isList) (by omega) fun v h' tk hv hk => ?_
 obtain ⟨t, rfl⟩ := intItems_at hv
 obtain ⟨_, h2⟩ := argBest_lt (numAt ws) (ws.size - 1)
 refine ⟨.int _, H, I.kept hk, ⟨t, rfl⟩, q _ ?_ fun b hb => ?_⟩
 ·rw [hns, numAt_eq]
  exact getD_mem (by rw [← hns]; omega)
 ·rw [hns] at hb
  obtain ⟨j, hj, rfl⟩ := mem_getD hb
  rw [← hns] at hj
  rw [← numAt_eq]
  exact h2 j (by omega)
end
structure Base (K : PySem.W.Frag) (C : Addr) (mc : Value) (m : Str) (f : Addr) : Prop where
 ga : PySem.W.specialIn K (.ref C) "__getattribute__" = some (some (.builtin "type.__getattribute__"))
 rd : PySem.W.readsIn K C mc = true
 at_ : PySem.W.findCls K (.ref C) mc m = some (.val (.ref f))
 kp : PySem.W.keepIn K (.ref f) = true
section
variable {X : Cx} {CX : CXT} {k : Nat} {f C : Addr} {mc : Value} {fd : FuncData} {ps : List Str} {sp : Sp} {dvs : List V} {ds : List Value} {E : XK} {x m : Str} {p pos apos : Pos} {e : Expr} {es : List Expr} {t : TA}
end
end L2
namespace L2
open PySem PySem.Spec PyProof.Rows
section
variable {X : Cx}
end
def Itz (a b : Addr) : It :=
  ⟨fun i H => ∃ xs ys x y, H a = some (.lst xs) ∧ H b = some (.lst ys) ∧ xs[i]? = some x ∧ ys[i]? = some y,
   fun i H v H' => ∃ T xs ys x y, H T = none ∧ H a = some (.lst xs) ∧ H b = some (.lst ys) ∧ xs[i]? = some x ∧ ys[i]? = some y ∧ v = .ref T ∧ H' = upd H T (.tup [x, y]),
   fun i H => ∃ xs ys, H a = some (.lst xs) ∧ H b = some (.lst ys) ∧ (xs.length ≤ i ∨ ys.length ≤ i)⟩
theorem turn_zip {P : Program} {w : World} {K : PySem.W.Frag} {es : List Expr} {k : Nat} {pos : Pos} {a b z TI TO i1 i2 : Addr} (D : ZipApart z TI TO i1 i2 a b) :
  Turn P w K (.Tuple es k pos) (Itz a b) [z, TI, TO, i1, i2] z (fun i h => IsZip h z TI TO .none ∧ IsPair h TI (.ref i1) (.ref i2) ∧ (∃ u v, IsPair h TO u v) ∧ h.IsListIter i1 a i ∧ h.IsListIter i2 b i) where
 mem := by simp
 obj := fun i h st c hc => by
  obtain ⟨hz, hTI, ⟨u, v, hTO⟩, h1, h2⟩ := st
  simp only [List.mem_cons, List.not_mem_nil, or_false] at hc
  rcases hc with rfl | rfl | rfl | rfl | rfl
  ·exact ⟨_, hz, fun v z => by cases z⟩
  ·exact ⟨_, hTI, fun v z => by cases z⟩
  ·exact ⟨_, hTO, fun v z => by cases z⟩
  ·obtain ⟨o, e1, c, d⟩ := h1
   exact ⟨o, e1, fun v z => by rw [d] at z; cases z⟩
  ·obtain ⟨o, e1, c, d⟩ := h2
   exact ⟨o, e1, fun v z => by rw [d] at z; cases z⟩
 keep := fun i h h' st k => by
  obtain ⟨hz, hTI, ⟨u, v, hTO⟩, h1, h2⟩ := st
  exact ⟨k z (by simp) _ hz, k TI (by simp) _ hTI, ⟨u, v, k TO (by simp) _ hTO⟩, h1.at fun o e => k i1 (by simp) o e, h2.at fun o e => k i2 (by simp) o e⟩
 item := by
  intro X hP hw hK hc i pins s σ H E I hf st hg
  subst hP hw hK
  obtain ⟨xs, ys, x, y, hqa, hqb, hx, hy⟩ := hg
  obtain ⟨_, its1, n1, r1, hl1, ea⟩ := I.lstM hqa
  obtain ⟨_, its2, n2, r2, hl2, eb⟩ := I.lstM hqb
  obtain ⟨u1, hu1, ru1⟩ := r1.get hx
  obtain ⟨u2, hu2, ru2⟩ := r2.get hy
  obtain ⟨hz, hTI, ⟨p, q, hTO⟩, h1, h2⟩ := st
  have hA : s.heap.IsList a its1.toArray := ⟨_, ea, rfl, n1, rfl⟩
  have hB : s.heap.IsList b its2.toArray := ⟨_, eb, rfl, n2, rfl⟩
  have lt : ∀ c ∈ [z, TI, TO, i1, i2], c < s.heap.objs.size := fun c hc => by
   simp only [List.mem_cons, List.not_mem_nil, or_false] at hc
   rcases hc with rfl | rfl | rfl | rfl | rfl
   ·exact Heap.lt_size hz
   ·exact Heap.lt_size hTI
   ·exact Heap.lt_size hTO
   ·obtain ⟨_, e, _⟩ := h1; exact Heap.lt_size e
   ·obtain ⟨_, e, _⟩ := h2; exact Heap.lt_size e
  refine wpAny_pyNext_zip_item D hz hTI hTO h1 h2 hA hB (x := u1) (y := u2) (by simpa using hu1) (by simpa using hu2) fun h' a1 a2 a3 a4 a5 a6 hk => ?_
  refine ⟨_, rfl, wpAny_letOwnedTupleGo_zip a1 fun h2' hz2 hs2 => ?_⟩
  replace hs2 : Heap.SameBut z h' h2' := hs2
  have I1 : Inv X pins σ (upd H s.heap.objs.size (.tup [x, y])) { s with heap := s.heap.push { cls := .type "tuple", data := .seq #[u1, u2] }, toks := s.toks } :=
   I.laid (fun b o q => Heap.get?_push_of_some _ q) (Nat.le_refl _) ⟨by show 2 ≤ sizeLine; decide, [u1, u2], .cons ru1 (.cons ru2 .nil), ⟨_, Heap.get?_push_size _ rfl, rfl, _, rfl⟩⟩
  have frs : ∀ c ∈ [z, TI, TO, i1, i2], upd H s.heap.objs.size (.tup [x, y]) c = none := fun c hc => by
   rw [upd_ne (Nat.ne_of_lt (lt c hc))]; exact (hf c hc).1
  have I2 : Inv X pins σ (upd H s.heap.objs.size (.tup [x, y])) { s with heap := h2', toks := s.toks } := by
   refine Inv.turnedL (s := { s with heap := s.heap.push { cls := .type "tuple", data := .seq #[u1, u2] }, toks := s.toks }) (h' := h2') (t' := s.toks) (fp := [z, TI, TO, i1, i2]) I1 (fun c o hc q => ?_) (fun c hc => ⟨frs c hc, (hf c hc).2⟩)
   have n1 : c ≠ z := fun e => hc (by simp [e])
   refine (hs2.2 c n1).trans ?_
   rcases Heap.get?_push_cases q with ⟨ec, eo⟩ | q
   ·rw [ec, eo]; exact a5
   ·exact hk c o n1 (fun e => hc (by simp [e])) (fun e => hc (by simp [e])) (fun e => hc (by simp [e])) q
  refine ⟨.ref s.heap.objs.size, _, I2, rfl, ⟨_, xs, ys, x, y, I.fresh, hqa, hqb, hx, hy, rfl, rfl⟩, ⟨hz2, ?_, ⟨_, _, hs2.extBut _ _ D.TOz a2⟩, a3.extBut hs2.extBut D.i1z, a4.extBut hs2.extBut D.i2z⟩, frs⟩
  exact hs2.extBut _ _ D.TIz (hk _ _ D.TIz D.TITO D.TIi1 D.TIi2 hTI)
 done := by
  intro X hP hw hK hc i pins s σ H E I hf st hg
  subst hP hw hK
  obtain ⟨xs, ys, hqa, hqb, hend⟩ := hg
  obtain ⟨_, its1, n1, r1, hl1, ea⟩ := I.lstM hqa
  obtain ⟨_, its2, n2, r2, hl2, eb⟩ := I.lstM hqb
  obtain ⟨hz, hTI, ⟨p, q, hTO⟩, h1, h2⟩ := st
  have hA : s.heap.IsList a its1.toArray := ⟨_, ea, rfl, n1, rfl⟩
  have hB : s.heap.IsList b its2.toArray := ⟨_, eb, rfl, n2, rfl⟩
  have he : its1.toArray[i]? = none ∨ its2.toArray[i]? = none := by
   rcases hend with z | z
   ·exact .inl (by simp; omega)
   ·exact .inr (by simp; omega)
  exact wpAny_pyNext_zip_end (I.ok.hd hc) D hz hTI hTO h1 h2 hA hB he fun h' hk => ⟨rfl, I.turnedL (t' := s.toks) (fp := [z, TI, TO, i1, i2]) (fun c o hc q => hk c o (fun e => hc (by simp [e])) (fun e => hc (by simp [e])) (fun e => hc (by simp [e])) (fun e => hc (by simp [e])) q) hf⟩
 self := fun _ _ _ _ _ st h => wpAny_pyIter_zip st.1 h
section
variable {X : Cx}
def iZip (ta : TA) : TI := fun σ H R => ta σ H fun vs H1 => ∃ a b xs ys, vs = [.ref a, .ref b] ∧ H1 a = some (.lst xs) ∧ H1 b = some (.lst ys) ∧ R (Itz a b) H1
theorem pi_zip {es : List Expr} {k : Nat} {tp : Pos} {a b : Expr} {ta : TA} {p pos : Pos} (hg : Gl X "zip") (hm : X.mg "zip" = none) (ha : PA X [a, b] ta) (hs : starEach [a, b] X.env = (false, eval a X.env) :: starEach [b] X.env := by rfl) (hpl : (backTo pos (starEach [b] X.env)).any (·.1) = false := by rfl) :
  PI X (.Tuple es k tp) (.Call (.Name "zip" p) [a, b] [] pos) (iZip ta) := by
 intro pins s σ H R I h
 refine wpAny_Call_Name_kw (ld_blt I hg hm boot_zip ?_ (by decide) (by decide))
 refine PyProof.Rows.callWith_type1 (thn (ha pos pins s σ H _ I h) fun us s1 ⟨vs, H1, I1, r1, q1⟩ => ?_) hs hpl
 obtain ⟨a, b, xs, ys, e, hqa, hqb, q⟩ := q1
 subst e
 obtain ⟨u1, u2, rfl, ru1, ru2⟩ : ∃ u1 u2, us = [u1, u2] ∧ RelV (.ref a) u1 ∧ RelV (.ref b) u2 := by
  cases r1 with
  | cons x1 t1 =>
   cases t1 with
   | cons x2 t2 =>
    cases t2
    exact ⟨_, _, rfl, x1, x2⟩
 cases ru1
 cases ru2
 obtain ⟨_, its1, n1, rv1, hl1, ea⟩ := I1.lstM hqa
 obtain ⟨_, its2, n2, rv2, hl2, eb⟩ := I1.lstM hqb
 refine call_zip_2 (xs := its1.toArray) (ys := its2.toArray) ⟨_, ea, rfl, n1, rfl⟩ ⟨_, eb, rfl, n2, rfl⟩ fun h' hz hTI hTO hi1 hi2 hsz hk => ?_
 refine wpAny_pyIter_zip hz ?_
 have I2 : Inv X pins σ H1 { s1 with heap := h' } := I1.kept (t' := s1.toks) hk
 refine ⟨s1.heap.objs.size + 4, [s1.heap.objs.size + 4, s1.heap.objs.size + 2, s1.heap.objs.size + 3, s1.heap.objs.size, s1.heap.objs.size + 1], _, _, H1, rfl, I2, turn_zip (zipApart_new (Heap.lt_size ea) (Heap.lt_size eb)), ⟨hz, hTI, ⟨_, _, hTO⟩, hi1, hi2⟩, fun c hc => ?_, q⟩
 have hge : s1.heap.objs.size ≤ c := by
  simp only [List.mem_cons, List.not_mem_nil, or_false] at hc
  rcases hc with rfl | rfl | rfl | rfl | rfl <;> omega
 exact I1.fpOk hge (I1.hok.fresh hge)
end
theorem turns_zip {K : PySem.W.Frag} {a b : Addr} {xs ys : List V} {tc : TT} {te : TE} {D : Addr} {Q : Hp → Prop} {σ : St} {H1 : Hp} {n : Nat} (c : Nat → Bool) (v : Nat → V) (hA : H1 a = some (.lst xs)) (hB : H1 b = some (.lst ys)) (hmin : n = min xs.length ys.length) (hD : H1 D = none) (hn : n ≤ 1000)
  (ht : ∀ i H', i < n → Same H1 H' → Tells tc (some (xs.getD i .non) :: some (ys.getD i .non) :: σ) H' (c i)) (he : ∀ i H', i < n → c i = true → Same H1 H' → Gives te (some (xs.getD i .non) :: some (ys.getD i .non) :: σ) H' (v i))
  (hq : ∀ H', Same H1 H' → H' D = some (.lst (((List.range n).filter c).map v)) → Q H') : tTurns (Itz a b) (gTup K 2 (gCons (gName 0) (gCons (gName 1) gNil))) tc te D Q (none :: none :: σ) (upd H1 D (.lst [])) := by
 refine turns_any (n := n) (fun i σ' H' => ∃ x y, σ' = x :: y :: σ ∧ Same H1 H' ∧ H' D = some (.lst (((List.range i).filter c).map v))) ⟨none, none, rfl, Same.new hD _, upd_same⟩ ?_ ?_
 ·rintro i σ' H' hi ⟨x, y, rfl, g, hl⟩
  have hix : i < xs.length := by omega
  have hiy : i < ys.length := by omega
  refine ⟨⟨xs, ys, xs[i], ys[i], g _ _ hA, g _ _ hB, List.getElem?_eq_getElem hix, List.getElem?_eq_getElem hiy⟩, fun z H2 hz => ?_⟩
  obtain ⟨T, xs', ys', u, u', hT, hxs, hys, hu, hu', rfl, rfl⟩ := hz
  rw [g _ _ hA] at hxs
  rw [g _ _ hB] at hys
  cases hxs
  cases hys
  have eu : u = xs.getD i .non := by rw [List.getD_eq_getElem?_getD, hu]; rfl
  have eu' : u' = ys.getD i .non := by rw [List.getD_eq_getElem?_getD, hu']; rfl
  subst eu eu'
  have g2 : Same H1 (upd H' T (.tup [xs.getD i .non, ys.getD i .non])) := fun b o hb => by
   have h1 := g _ _ hb
   rw [upd_ne (ne_of_none h1 hT)]; exact h1
  have hl2 : (upd H' T (.tup [xs.getD i .non, ys.getD i .non])) D = some (.lst (((List.range i).filter c).map v)) := by rw [upd_ne (ne_of_none hl hT)]; exact hl
  refine ⟨T, _, rfl, SqT.of upd_same, rfl, _, _, rfl, _, _, rfl, rfl, ?_⟩
  show tc (some (xs.getD i .non) :: some (ys.getD i .non) :: σ) _ _
  generalize upd H' T (.tup [xs.getD i .non, ys.getD i .non]) = H3 at g2 hl2 ⊢
  refine ht i H3 hi g2 _ fun H4 g4 => ?_
  have hr : (List.range (i + 1)).filter c = (List.range i).filter c ++ (if c i = true then [i] else []) := by
   rw [List.range_succ, List.filter_append, List.filter_cons, List.filter_nil]
  refine ite2 (fun hc => ?_) (fun hc => ?_)
  ·refine he i H4 hi hc (g2.trans g4) _ fun H5 g5 => ?_
   have l5 := g5 _ _ (g4 _ _ hl2)
   refine ⟨_, l5, ?_, _, _, rfl, fun b o hb => ?_, ?_⟩
   ·rw [List.length_map]
    have := List.length_filter_le c (List.range i)
    rw [List.length_range] at this
    exact small1000 (by omega)
   ·have hne : b ≠ D := fun e => by rw [e, hD] at hb; cases hb
    rw [upd_ne hne]
    exact g5 _ _ (g4 _ _ (g2 _ _ hb))
   ·rw [upd_same, hr, if_pos hc, List.map_append]
    rfl
  ·refine ⟨_, _, rfl, g2.trans g4, ?_⟩
   rw [hr, if_neg hc, List.append_nil]
   exact g4 _ _ hl2
 ·rintro σ' H' ⟨x, y, rfl, g, hl⟩
  exact ⟨⟨xs, ys, g _ _ hA, g _ _ hB, by omega⟩, hq H' g hl⟩
end L2
namespace L2
open PySem PySem.Spec PyProof.Rows
section
variable {X : Cx}
end
end L2
namespace L2
open PySem PySem.Spec PyProof.Rows
mutual
inductive Dat (H : Hp) : V → PyData → Prop
 | non : Dat H .non .none
 | bl (b : Bool) : Dat H (.bl b) (.bool b)
 | int (i : Int) : Dat H (.int i) (.int i)
 | str (x : Str) : Dat H (.str x) (.str x)
 | lst {a : Addr} {xs : List V} {ds : List PyData} : H a = some (.lst xs) → DatAll H xs ds → Dat H (.ref a) (.list ds)
 | tup {a : Addr} {xs : List V} {ds : List PyData} : H a = some (.tup xs) → DatAll H xs ds → Dat H (.ref a) (.tuple ds)
 | dct {a : Addr} : H a = some (.dK []) → Dat H (.ref a) (.dict [])
inductive DatAll (H : Hp) : List V → List PyData → Prop
 | nil : DatAll H [] []
 | cons {x : V} {d : PyData} {xs : List V} {ds : List PyData} : Dat H x d → DatAll H xs ds → DatAll H (x :: xs) (d :: ds)
end
mutual
theorem Dat.same {H H' : Hp} (g : Same H H') : ∀ {x : V} {d : PyData}, Dat H x d → Dat H' x d
 | _, _, .non => .non
 | _, _, .bl b => .bl b
 | _, _, .int i => .int i
 | _, _, .str x => .str x
 | _, _, .lst e h => .lst (g _ _ e) (h.same g)
 | _, _, .tup e h => .tup (g _ _ e) (h.same g)
 | _, _, .dct e => .dct (g _ _ e)
theorem DatAll.same {H H' : Hp} (g : Same H H') : ∀ {xs : List V} {ds : List PyData}, DatAll H xs ds → DatAll H' xs ds
 | _, _, .nil => .nil
 | _, _, .cons h t => .cons (h.same g) (t.same g)
end
theorem DatAll.app {H : Hp} : ∀ {xs ys : List V} {ds es : List PyData}, DatAll H xs ds → DatAll H ys es → DatAll H (xs ++ ys) (ds ++ es)
 | _, _, _, _, .nil, h => h
 | _, _, _, _, .cons a t, h => .cons a (t.app h)
theorem DatAll.ints {H : Hp} : ∀ (ns : List Int), DatAll H (ns.map V.int) (ns.map PyData.int)
 | [] => .nil
 | n :: r => .cons (.int n) (DatAll.ints r)
section
variable {X : Cx} {pins : List (Addr × Obj)} {σ : St} {H : Hp} {s : Shared}
mutual
theorem Dat.reads (I : Inv X pins σ H s) : ∀ {x : V} {d : PyData} {u : Value}, Dat H x d → RelV x u → ∃ as, Reads s.heap u d as
 | _, _, _, .non, r => by cases r; exact ⟨_, .none⟩
 | _, _, _, .bl b, r => by cases r; exact ⟨_, .bool b⟩
 | _, _, _, .int i, r => by obtain ⟨t, rfl⟩ := r; exact ⟨_, .int i t⟩
 | _, _, _, .str x, r => by obtain ⟨t, rfl⟩ := r; exact ⟨_, .str x t⟩
 | _, _, _, .lst (a := a) e h, r => by
  cases r
  obtain ⟨_, its, n, rv, _, eo⟩ := I.lstM e
  obtain ⟨as, q⟩ := h.reads I rv
  exact ⟨_, .list eo rfl rfl (by simpa using q)⟩
 | _, _, _, .tup e h, r => by
  cases r
  obtain ⟨_, its, rv, o, h1, h2, n, h3⟩ := I.hok _ _ e
  obtain ⟨as, q⟩ := h.reads I rv
  exact ⟨_, .tuple h1 h2 h3 (by simpa using q)⟩
 | _, _, _, .dct e, r => by
  cases r
  obtain ⟨z, y, vs, rv, ob, es, ep, h1, h2, h3, _, h5, _⟩ := I.hok _ _ e
  cases rv
  have he : es.toList = [] := by
   cases hh : es.toList with
   | nil => rfl
   | cons x r => rw [hh] at h5; cases h5
  exact ⟨_, .dict (kvs := []) (as := []) (bs := []) h1 h2.1 h3 (by rw [he]; exact .nil) (by rw [he]; exact .nil)⟩
theorem DatAll.reads (I : Inv X pins σ H s) : ∀ {xs : List V} {ds : List PyData} {us : List Value}, DatAll H xs ds → Vals xs us → ∃ as, ReadsAll s.heap us ds as
 | _, _, _, .nil, r => by cases r; exact ⟨_, .nil⟩
 | _, _, _, .cons h t, r => by
  cases r with
  | cons r1 r2 =>
   obtain ⟨as, q1⟩ := h.reads I r1
   obtain ⟨bs, q2⟩ := t.reads I r2
   exact ⟨_, .cons q1 q2⟩
end
def AllFit (ds : List PyData) : Prop := ∀ t ∈ PyData.shownAll ds, t.length ≤ sizeLine
mutual
theorem Dat.rk (I : Inv X pins σ H s) : ∀ {x : V} {d : PyData} {u : Value}, Dat H x d → RelV x u → d.showable = true → d.shown.length ≤ sizeLine → ∃ bs, ReadAtMost s.heap d.depth bs ∧ ReprK X.prog X.w bs s.heap d.depth u d.shown
 | _, _, _, .non, r, _, _ => by
  cases r
  rw [PyData.shown_none]
  exact ⟨[], fun _ h => (nomatch h), ReprK.of_is ReprIs.none _ _ _⟩
 | _, _, _, .bl b, r, _, _ => by
  cases r
  rw [PyData.shown_bool]
  exact ⟨[], fun _ h => (nomatch h), ReprK.of_is (ReprIs.bool b) _ _ _⟩
 | _, _, _, .int i, r, hs, _ => by
  obtain ⟨t, rfl⟩ := r
  rw [PyData.shown_int]
  refine ⟨[], fun _ h => (nomatch h), ReprK.of_is (ReprIs.int t ?_) _ _ _⟩
  simpa [PyData.showable] using hs
 | _, _, _, .str x, r, _, hz => by
  obtain ⟨t, rfl⟩ := r
  rw [PyData.shown_str] at hz ⊢
  exact ⟨[], fun _ h => (nomatch h), ReprK.of_is (ReprIs.str x t hz) _ _ _⟩
 | _, _, _, .lst (a := a) (ds := ds) e h, r, hs, hz => by
  cases r
  obtain ⟨_, its, n, rv, _, eo⟩ := I.lstM e
  obtain ⟨as, q⟩ := h.reads I rv
  have rd : Reads s.heap (.ref a) (.list ds) (a :: as) := .list eo rfl rfl (by simpa using q)
  have hz2 : (listText (PyData.shownAll ds)).length ≤ sizeLine := by
   rw [PyData.shown] at hz
   exact hz
  obtain ⟨bs, hb, hk⟩ := h.rk I rv (by simpa [PyData.showable] using hs) fun t ht => Nat.le_trans (listText_mem_le ht) hz2
  have hlt : PyData.depthAll ds < (PyData.list ds).depth := by simp only [PyData.depth]; omega
  refine ⟨a :: bs, ReadAtMost.cons rd (Nat.le_of_lt hlt) hb, ?_⟩
  have hn := not_mem_of_deeper rd hlt hb
  rw [PyData.depth, PyData.shown]
  cases its with
  | nil =>
   cases q
   rw [PyData.shownAll, listText_nil]
   exact ReprK.listEmpty eo rfl rfl
  | cons y l =>
   refine ReprK.list eo rfl rfl hn ?_ fun i z ez => hk.item i z ?_
   ·have := hk.length_eq
    simpa using this
   ·simpa using ez
 | _, _, _, .tup (a := a) (ds := ds) e h, r, hs, hz => by
  cases r
  obtain ⟨_, its, rv, o, h1, h2, n, h3⟩ := I.hok _ _ e
  obtain ⟨as, q⟩ := h.reads I rv
  have rd : Reads s.heap (.ref a) (.tuple ds) as := .tuple h1 h2 h3 (by simpa using q)
  have hz2 : (tupleText (PyData.shownAll ds)).length ≤ sizeLine := by
   rw [PyData.shown] at hz
   exact hz
  obtain ⟨bs, hb, hk⟩ := h.rk I rv (by simpa [PyData.showable] using hs) fun t ht => Nat.le_trans (tupleText_mem_le ht) hz2
  have hlt : PyData.depthAll ds < (PyData.tuple ds).depth := by simp only [PyData.depth]; omega
  refine ⟨a :: bs, ReadAtMost.cons rd (Nat.le_of_lt hlt) hb, ?_⟩
  have hn := not_mem_of_deeper rd hlt hb
  rw [PyData.depth, PyData.shown]
  exact ReprK.tuple h1 h2 h3 hn (by simpa using hk)
 | _, _, _, .dct (a := a) e, r, hs, hz => by
  obtain ⟨as, rd⟩ := (Dat.dct e).reads I r
  cases r
  obtain ⟨z, y, vs, rv, ob, es, ep, h1, h2, h3, _, h5, _⟩ := I.hok _ _ e
  cases rv
  have he : es.toList = [] := by
   cases hh : es.toList with
   | nil => rfl
   | cons x r => rw [hh] at h5; cases h5
  have hlt : 0 < (PyData.dict []).depth := by simp only [PyData.depth]; omega
  refine ⟨[a], ReadAtMost.cons (n := 0) rd (Nat.zero_le _) (fun _ h => (nomatch h)), ?_⟩
  rw [PyData.depth, PyData.shown]
  have hd := ReprK.dict (prog := X.prog) (w := X.w) (as := []) (d := PyData.depthKv []) (ps := []) h1 h2.1 h3 y (fun h => (nomatch h)) (by rw [he]; exact .nil)
  simpa [PyData.shownKv] using hd
theorem DatAll.rk (I : Inv X pins σ H s) : ∀ {xs : List V} {ds : List PyData} {us : List Value}, DatAll H xs ds → Vals xs us → PyData.showableAll ds = true → AllFit ds → ∃ bs, ReadAtMost s.heap (PyData.depthAll ds) bs ∧ ReprAllK X.prog X.w bs s.heap (PyData.depthAll ds) us (PyData.shownAll ds)
 | _, _, _, .nil, r, _, _ => by
  cases r
  rw [PyData.shownAll]
  exact ⟨[], fun _ h => (nomatch h), .nil⟩
 | _, _, _, .cons (d := d) (ds := ds) h t, r, hs, hz => by
  cases r with
  | cons r1 r2 =>
   have hs' : d.showable = true ∧ PyData.showableAll ds = true := by simpa [PyData.showableAll] using hs
   have hz' : ∀ t ∈ d.shown :: PyData.shownAll ds, t.length ≤ sizeLine := by
    have := hz
    unfold AllFit at this
    rw [PyData.shownAll] at this
    exact this
   obtain ⟨b1, m1, k1⟩ := h.rk I r1 hs'.1 (hz' _ List.mem_cons_self)
   obtain ⟨b2, m2, k2⟩ := t.rk I r2 hs'.2 fun t ht => hz' t (List.mem_cons_of_mem _ ht)
   have l1 : d.depth ≤ PyData.depthAll (d :: ds) := by simp only [PyData.depthAll]; omega
   have l2 : PyData.depthAll ds ≤ PyData.depthAll (d :: ds) := by simp only [PyData.depthAll]; omega
   refine ⟨b1 ++ b2, (m1.mono l1).append (m2.mono l2), ?_⟩
   rw [PyData.shownAll]
   exact .cons ((k1.more fun b hb => List.mem_append_left b2 hb).level_le l1) (k2.more_le (fun b hb => List.mem_append_right b1 hb) l2)
end
theorem call_repr (hu : X.A.units + 64 < cLine) (hg : X.A.guards = some []) : CallR X (.builtin "repr") (fun vs H Q => ∃ x d, vs = [x] ∧ Dat H x d ∧ d.showable = true ∧ d.depth ≤ 8 ∧ d.shown.length ≤ sizeLine ∧ Q (.str d.shown) H) := by
 intro pins s σ H xs us Q I r h
 obtain ⟨x, d, rfl, hd, hs, hp, hz, q⟩ := h
 obtain ⟨u, rfl, ru⟩ := r.one
 have fin : ∀ (h' : Heap) (t : Tok) (tk : Nat), (∀ b o, s.heap.get? b = some o → h'.get? b = some o) → EP X pins σ Q (.str d.shown t) { s with heap := h', toks := tk } := fun h' t tk hk => ⟨.str d.shown, H, I.kept hk, ⟨t, rfl⟩, q⟩
 cases hd with
 | non =>
  cases ru
  rw [PyData.shown_none] at fin
  exact PySem.P.repr_of_none (fin s.heap _ _ fun _ _ e => e)
 | bl b =>
  cases ru
  rw [PyData.shown_bool] at fin
  exact PySem.P.repr_of_bool (fin s.heap _ _ fun _ _ e => e)
 | int i =>
  obtain ⟨t, rfl⟩ := ru
  rw [PyData.shown_int] at fin
  exact PySem.P.repr_of_int (by simpa [PyData.showable] using hs) (fin s.heap _ _ fun _ _ e => e)
 | str x =>
  obtain ⟨t, rfl⟩ := ru
  rw [PyData.shown_str] at fin hz
  exact PySem.P.repr_of_str (fin s.heap _ _ fun _ _ e => e) hz
 | lst e h =>
  rename_i a xs ds
  cases ru
  obtain ⟨_, its, n, rv, _, eo⟩ := I.lstM e
  obtain ⟨as, q2⟩ := h.reads I rv
  have rd : Reads s.heap (.ref a) (.list ds) (a :: as) := .list eo rfl rfl (by simpa using q2)
  rw [PyData.shown] at hz fin
  rw [PyData.depth] at hp
  obtain ⟨bs, hb, hk⟩ := h.rk I rv (by simpa [PyData.showable] using hs) fun t ht => Nat.le_trans (listText_mem_le ht) hz
  have hn := not_mem_of_deeper rd (by simp only [PyData.depth]; omega) hb
  refine call_repr_slot (by omega) ⟨_, eo, rfl⟩ F.slot_list_repr.toG ?_
  cases its with
  | nil =>
   cases q2
   rw [PyData.shownAll, listText_nil] at fin
   exact call_list_repr_empty ⟨_, eo, rfl⟩ eo rfl ⟨_, _, rfl, fin s.heap _ _ fun _ _ e => e⟩
  | cons y l =>
   refine call_list_reprK eo rfl rfl hn ?_ (fun i z ez => hk.item i z ?_) hg (fun b _ => Clear.nil b) ?_ (fun _ _ e => e) (fun h' u tk hk' => ⟨_, _, rfl, fin h' u tk hk'⟩) hz
   ·have := hk.length_eq
    simpa using this
   ·simpa using ez
   ·show X.A.units + 1 + (PyData.depthAll ds + 1) < cLine
    omega
 | tup e h =>
  rename_i a xs ds
  cases ru
  obtain ⟨_, its, rv, o, h1, h2, n, h3⟩ := I.hok _ _ e
  obtain ⟨as, q2⟩ := h.reads I rv
  have rd : Reads s.heap (.ref a) (.tuple ds) as := .tuple h1 h2 h3 (by simpa using q2)
  rw [PyData.shown] at hz fin
  rw [PyData.depth] at hp
  obtain ⟨bs, hb, hk⟩ := h.rk I rv (by simpa [PyData.showable] using hs) fun t ht => Nat.le_trans (tupleText_mem_le ht) hz
  have hn := not_mem_of_deeper rd (by simp only [PyData.depth]; omega) hb
  refine call_repr_slot (by omega) ⟨_, h1, h2⟩ F.slot_tuple_repr (call_tuple_reprK h1 h2 h3 hn (by simpa using hk) hg (fun b _ => Clear.nil b) ?_ (fun _ _ e => e) (fun h' u tk hk' => ⟨_, _, rfl, fin h' u tk hk'⟩) hz)
  show X.A.units + 1 + (PyData.depthAll ds + 1) < cLine
  omega
 | dct e =>
  rename_i a
  cases ru
  obtain ⟨z, y, vs, rv, ob, es, ep, h1, h2, h3, _, h5, _⟩ := I.hok _ _ e
  cases rv
  have he : es.toList = [] := by
   cases hh : es.toList with
   | nil => rfl
   | cons x r => rw [hh] at h5; cases h5
  have ht : (PyData.dict []).shown = dictText [] := by simp only [PyData.shown, PyData.shownKv]
  rw [ht] at hz fin
  refine call_repr_slot (by omega) ⟨_, h1, h2.1⟩ F.slot_dict_repr (call_dict_reprK (as := []) (d := 0) (ps := []) h1 h2.1 h3 y (fun h => (nomatch h)) (by rw [he]; exact .nil) hg (fun b _ => Clear.nil b) ?_ (fun _ _ e => e) (fun h' u tk hk' => ⟨_, _, rfl, fin h' u tk hk'⟩) hz)
  show X.A.units + 1 + (0 + 1) < cLine
  omega
end
end L2
namespace L2
open PySem PySem.Spec PyProof.Rows
noncomputable def msk (S : Addr → Prop) (H : Hp) : Hp := fun b => open Classical in if S b then none else H b
theorem msk_in {S : Addr → Prop} {H : Hp} {b : Addr} (h : ¬ S b) : msk S H b = H b := if_neg h
theorem msk_some {S : Addr → Prop} {H : Hp} {b : Addr} {o : HO} (h : msk S H b = some o) : ¬ S b ∧ H b = some o := by
 unfold msk at h
 split at h
 ·cases h
 ·exact ⟨by assumption, h⟩
theorem msk_le {S : Addr → Prop} {H : Hp} : Same (msk S H) H := fun _ _ h => (msk_some h).2
theorem msk_same {S : Addr → Prop} {H H' : Hp} (g : Same H H') : Same (msk S H) (msk S H') := fun b o h => by
 obtain ⟨n, e⟩ := msk_some h
 rw [msk_in n]
 exact g b o e
structure Fine (n k : Nat) (d : PyData) : Prop where
 show_ : d.showable = true
 leaf : d.leavesShort 40 = true
 bulk : d.bulk ≤ n
 deep : d.depth ≤ k
def Th (H : Hp) (v : V) (n k : Nat) : Prop := ∃ d, Dat H v d ∧ Fine n k d
theorem Th.same {H H' : Hp} {v : V} {n k : Nat} (h : Th H v n k) (g : Same H H') : Th H' v n k := by
 obtain ⟨d, a, b⟩ := h
 exact ⟨d, a.same g, b⟩
theorem Th.mono {H : Hp} {v : V} {n k n' k' : Nat} (h : Th H v n k) (hn : n ≤ n') (hk : k ≤ k') : Th H v n' k' := by
 obtain ⟨d, a, b⟩ := h
 exact ⟨d, a, b.show_, b.leaf, Nat.le_trans b.bulk hn, Nat.le_trans b.deep hk⟩
theorem Fine.len {n k : Nat} {d : PyData} (h : Fine n k d) (hn : n ≤ 10000) : d.shown.length ≤ sizeLine := by
 have q := PyData.shown_le_bulk 40 (by decide) d h.leaf
 have b := h.bulk
 have e : sizeLine = 2 ^ 24 := rfl
 rw [e]
 omega
theorem Th.non {H : Hp} {n k : Nat} : Th H .non n k := ⟨_, .non, rfl, rfl, Nat.zero_le _, Nat.zero_le _⟩
theorem Th.bl {H : Hp} {n k : Nat} (b : Bool) : Th H (.bl b) n k := ⟨_, .bl b, rfl, rfl, Nat.zero_le _, Nat.zero_le _⟩
theorem Th.int {H : Hp} {n k : Nat} {i : Int} (h : i.natAbs < 10 ^ 30) : Th H (.int i) n k := by
 refine ⟨_, .int i, ?_, ?_, Nat.zero_le _, Nat.zero_le _⟩
 ·rw [PyData.showable]
  refine decide_eq_true ?_
  by_cases z : i.natAbs = 0
  ·rw [z]; decide
  ·exact (Nat.log2_lt z).mpr (Nat.lt_trans h (Nat.lt_of_lt_of_le (show 10 ^ 30 < 2 ^ 100 by decide) (Nat.pow_le_pow_right (by decide) (by decide))))
 ·have q := int_text_length_le10 (k := 30) (by decide) h
  simp only [PyData.leavesShort, PyData.shown_int, decide_eq_true_eq]
  rw [PySem.ofString_length]
  omega
theorem Th.str {H : Hp} {n k : Nat} {x : Str} (h1 : x.cps.toList.all (fun c => decide (c < 16 ^ 8)) = true) (h2 : x.cps.size ≤ n) : Th H (.str x) n k := ⟨_, .str x, rfl, by rw [PyData.leavesShort]; exact h1, h2, Nat.zero_le _⟩
theorem things {H : Hp} {n k : Nat} : ∀ {xs : List V}, (∀ x ∈ xs, Th H x n k) → ∃ ds, DatAll H xs ds ∧ PyData.showableAll ds = true ∧ PyData.leavesShortAll 40 ds = true ∧ PyData.bulkAll ds ≤ xs.length * (n + 1) ∧ PyData.depthAll ds ≤ k
 | [], _ => ⟨[], .nil, rfl, rfl, Nat.zero_le _, Nat.zero_le _⟩
 | x :: r, h => by
  obtain ⟨d, q, f⟩ := h x List.mem_cons_self
  obtain ⟨ds, q2, a, b, c, e⟩ := things fun y hy => h y (List.mem_cons_of_mem _ hy)
  refine ⟨d :: ds, .cons q q2, ?_, ?_, ?_, ?_⟩
  ·rw [PyData.showableAll, f.show_, a]; rfl
  ·rw [PyData.leavesShortAll, f.leaf, b]; rfl
  ·have := f.bulk
   rw [PyData.bulkAll, List.length_cons, Nat.succ_mul]
   omega
  ·have := f.deep
   rw [PyData.depthAll]
   omega
theorem Th.lst {H : Hp} {a : Addr} {xs : List V} {n k : Nat} (e : H a = some (.lst xs)) (h : ∀ x ∈ xs, Th H x n k) : Th H (.ref a) (xs.length * (n + 1)) (k + 1) := by
 obtain ⟨ds, q, a1, a2, a3, a4⟩ := things h
 refine ⟨_, .lst e q, ?_, ?_, ?_, ?_⟩
 ·rw [PyData.showable]; exact a1
 ·rw [PyData.leavesShort]; exact a2
 ·rw [PyData.bulk]; exact a3
 ·rw [PyData.depth]; omega
theorem Th.tup {H : Hp} {a : Addr} {xs : List V} {n k : Nat} (e : H a = some (.tup xs)) (h : ∀ x ∈ xs, Th H x n k) : Th H (.ref a) (xs.length * (n + 1)) (k + 1) := by
 obtain ⟨ds, q, a1, a2, a3, a4⟩ := things h
 refine ⟨_, .tup e q, ?_, ?_, ?_, ?_⟩
 ·rw [PyData.showable]; exact a1
 ·rw [PyData.leavesShort]; exact a2
 ·rw [PyData.bulk]; exact a3
 ·rw [PyData.depth]; omega
theorem Th.dct {H : Hp} {a : Addr} {n k : Nat} (e : H a = some (.dK [])) : Th H (.ref a) n (k + 1) := ⟨_, .dct e, rfl, rfl, Nat.zero_le _, by simp [PyData.depth, PyData.depthKv]⟩
theorem pick_any {xs : List V} {r : Int} (h0 : 0 ≤ r) (h1 : r < (xs.length : Nat)) : ∃ v, atI xs r = some v ∧ v ∈ xs := by
 have hj : r.toNat < xs.length := by omega
 have e : r = ((r.toNat : Nat) : Int) := by omega
 refine ⟨xs[r.toNat], ?_, List.getElem_mem hj⟩
 have q : atI xs ((r.toNat : Nat) : Int) = some xs[r.toNat] := atI_nat (List.getElem?_eq_getElem hj)
 rw [← e] at q
 exact q
def tyD : PyData → String
 | .none => "NoneType" | .bool _ => "bool" | .int _ => "int" | .str _ => "str" | .list _ => "list" | .tuple _ => "tuple" | .dict _ => "dict"
theorem Dat.ty {K : PySem.W.Frag} {H : Hp} {v : V} {d : PyData} (h : Dat H v d) : TyOf K H v (.type (tyD d)) := by
 cases h with
 | non => exact .non
 | bl b => exact .bl b
 | int i => exact .int i
 | str x => exact .str x
 | lst e _ => exact .lst e
 | tup e _ => exact .tup e
 | dct e => exact .dK e
def isL : PyData → Bool
 | .list _ => true
 | _ => false
def isT : PyData → Bool
 | .tuple _ => true
 | _ => false
def isI : PyData → Bool
 | .int _ => true
 | .bool _ => true
 | _ => false
def isB : PyData → Bool
 | .bool _ => true
 | _ => false
def isW : PyData → Bool
 | .int _ => true
 | _ => false
theorem kit_l (K : PySem.W.Frag) (d : PyData) : PySem.W.kitOne K (.type (tyD d)) (.type "list") = some (isL d) := by cases d <;> rfl
theorem kit_t (K : PySem.W.Frag) (d : PyData) : PySem.W.kitOne K (.type (tyD d)) (.type "tuple") = some (isT d) := by cases d <;> rfl
theorem kit_i (K : PySem.W.Frag) (d : PyData) : PySem.W.kitOne K (.type (tyD d)) (.type "int") = some (isI d) := by cases d <;> rfl
theorem kit_b (K : PySem.W.Frag) (d : PyData) : PySem.W.kitOne K (.type (tyD d)) (.type "bool") = some (isB d) := by cases d <;> rfl
def riseGo : Int → List PyData → Bool
 | _, [] => true
 | b, .int n :: r => decide (b < n) && riseGo n r
 | _, _ :: _ => false
def riseD (few : Int) : PyData → Bool
 | .list ds => decide (few ≤ (ds.length : Int)) && (decide (ds.length ≤ 10) && riseGo (-1) ds)
 | _ => false
def planD : PyData → Bool
 | .tuple [x, y] => riseD 1 x && riseD 0 y
 | _ => false
theorem DatAll.len {H : Hp} : ∀ {xs : List V} {ds : List PyData}, DatAll H xs ds → xs.length = ds.length
 | _, _, .nil => rfl
 | _, _, .cons _ h => by rw [List.length_cons, List.length_cons, h.len]
theorem DatAll.at {H : Hp} : ∀ {xs : List V} {ds : List PyData} (_ : DatAll H xs ds) {i : Nat} {x : V}, xs[i]? = some x → ∃ d, ds[i]? = some d ∧ Dat H x d
 | _, _, .nil, i, x, h => nomatch h
 | _, _, .cons q _, 0, x, h => by cases h; exact ⟨_, rfl, q⟩
 | _, _, .cons _ t, i + 1, x, h => by
  obtain ⟨d, e, q⟩ := t.at (i := i) (x := x) h
  exact ⟨d, e, q⟩
section
variable {X : Cx}
end
end L2
namespace L2
open PySem PySem.Spec PyProof.Rows
theorem lg2 {i : Int} (h : i.natAbs < 10 ^ 30) : i.natAbs.log2 < 1920 := by
 by_cases z : i.natAbs = 0
 ·rw [z]; decide
 ·exact (Nat.log2_lt z).mpr (Nat.lt_trans h (Nat.lt_of_lt_of_le (show 10 ^ 30 < 2 ^ 100 by decide) (Nat.pow_le_pow_right (by decide) (by decide))))
theorem call_strI {X : Cx} : CallR X (.type "str") (fun vs H Q => ∃ i : Int, vs = [.int i] ∧ i.natAbs < 10 ^ 30 ∧ Q (.str (toString i)) H) := by
 intro pins s σ H vs us Q I r ⟨i, e, h, q⟩
 subst e
 cases r with
 | cons r1 r2 =>
  cases r2
  obtain ⟨t, rfl⟩ := r1
  exact PySem.P.str_of_int (lg2 h) ⟨.str (toString i), H, I.tok _, ⟨_, rfl⟩, q⟩
theorem Th.strI {H : Hp} {n k : Nat} {i : Int} (h : i.natAbs < 10 ^ 30) (hn : 40 ≤ n) : Th H (.str (toString i)) n k := by
 refine Th.str ?_ ?_
 ·rw [PySem.Str.ofString_eq_toList]
  show ((((toString i).toList.map Char.toNat).toArray).toList.all fun c => decide (c < 16 ^ 8)) = true
  rw [List.toList_toArray, List.all_map, List.all_eq_true]
  intro c _
  exact decide_eq_true (Nat.lt_of_lt_of_le c.val.toNat_lt (by decide))
 ·have q := int_text_length_le10 (k := 30) (by decide) h
  have q2 : (Str.ofString (toString i)).length = (toString i).length := PySem.ofString_length _
  have q3 : (Str.ofString (toString i)).cps.size = (Str.ofString (toString i)).length := rfl
  omega
end L2
namespace L2
open PySem PySem.Spec PyProof.Rows
theorem for_enum {a : Addr} {xs : List V} {g : TG} {tb : TS} {D : Ends} {σ : St} {H : Hp} (Pv : Nat → St → Hp → Prop) (h0 : Pv 0 σ H) (hl : ∀ i σ H, i ≤ xs.length → Pv i σ H → H a = some (.lst xs))
  (hs : ∀ i x σ H T, xs[i]? = some x → Pv i σ H → H T = none → g (.ref T) σ (upd H T (.tup [.int (i : Int), x])) fun σ2 H2 => tb { D with nx := Pv (i + 1), ct := Pv (i + 1), bk := D.nx } σ2 H2) (hd : ∀ σ H, Pv xs.length σ H → D.nx σ H) :
  ∃ W : Nat → Nat → St → Hp → Prop, (∃ m, W 0 m σ H) ∧ ∀ i m σ H, W i m σ H →
   ((Ite a).stop i H ∧ D.nx σ H) ∨ ((Ite a).go i H ∧ ∃ N : St → Hp → Prop, (∀ σ' H', N σ' H' → ∃ m', m' < m ∧ W (i + 1) m' σ' H') ∧ ∀ x H', (Ite a).yld i H x H' → g x σ H' fun σ2 H2 => tb { D with nx := N, ct := N, bk := D.nx } σ2 H2) := by
 refine ⟨fun i m σ H => m = xs.length - i ∧ i ≤ xs.length ∧ Pv i σ H, ⟨xs.length, by simp, Nat.zero_le _, h0⟩, ?_⟩
 rintro i m σ H ⟨rfl, hi, p⟩
 have q := hl i σ H hi p
 by_cases hlt : i < xs.length
 ·refine .inr ⟨⟨xs, xs[i], q, List.getElem?_eq_getElem hlt⟩, Pv (i + 1), fun σ' H' p' => ⟨xs.length - (i + 1), by omega, rfl, hlt, p'⟩, fun x H' y => ?_⟩
  obtain ⟨T, ys, u, hT, hy, hu, rfl, rfl⟩ := y
  rw [q] at hy
  cases hy
  exact hs i u σ H T hu p hT
 ·have e : i = xs.length := by omega
  subst e
  exact .inl ⟨⟨xs, q, Nat.le_refl _⟩, hd σ H p⟩
end L2
namespace L2
open PySem PySem.Spec PyProof.Rows
section
variable {prog : Program} {w : World} {A : Around} {E : Value → Shared → Prop} {s : Shared}
end
end L2
namespace L2
open PySem PySem.Spec PyProof.Rows
section
variable {X : Cx}
def rIndex : V → List V → Hp → VK → Prop := fun x vs H Q => ∃ (l : Addr) (ns : List Int) (k : Int) (j : Nat), x = .ref l ∧ vs = [.int k] ∧ H l = some (.lst (ns.map V.int)) ∧ ns[j]? = some k ∧ (∀ m < j, ns[m]? ≠ some k) ∧ ns.length ≤ 1000 ∧ Q (.int (j : Int)) H
theorem mt_index : MtM X "list.index" rIndex := by
 intro pins s σ H x vs v us Q I rx rv h
 obtain ⟨l, ns, k, j, rfl, rfl, hH, hj, hno, hsm, q⟩ := h
 cases rx
 obtain ⟨u, rfl, ru⟩ := rv.one
 obtain ⟨t, rfl⟩ := ru
 obtain ⟨z, its, n, r, hl, e⟩ := I.lstM hH
 have hi := vals_intsAre r
 have hlen : its.length = ns.length := by rw [← hl, List.length_map]
 have jlt : j < ns.length := (List.getElem?_eq_some_iff.mp hj).1
 have at_ : ∀ m (hm : m < its.toArray.size), ∃ t', its.toArray[m] = .int (ns.getD m 0) t' := fun m hm => by
  have hm' : m < its.length := by simpa using hm
  exact IntsAre.int_at hi m _ (by rw [List.getElem?_eq_getElem hm']; simp)
 have hsj : (j : Int) < 2 ^ 63 - 1 := by
  have : j < 1000 := by omega
  omega
 refine call_meets F.slot_list_index ⟨_, e, rfl⟩ F.entry_list_index (F.args_list_index_2 _ _)
  (MeetsSeq.list_index l its.toArray n (.int k t) (isInt k) (fun y hy => eq_isInt k t hi y (by simpa using hy)) j (by simpa [hlen] using jlt) hsj ?_ (fun m hm hmj => ?_)) ⟨e, ?_⟩
 ·obtain ⟨t', e'⟩ := at_ j (by simpa [hlen] using jlt)
  rw [e']
  have : ns.getD j 0 = k := by rw [List.getD_eq_getElem?_getD, hj]; rfl
  rw [this]
  simp [isInt]
 ·obtain ⟨t', e'⟩ := at_ m hm
  rw [e']
  have hm' : m < ns.length := by simpa [hlen] using hm
  have hne : ns.getD m 0 ≠ k := fun z => hno m hmj (by rw [List.getElem?_eq_getElem hm', ← z, List.getD_eq_getElem?_getD, List.getElem?_eq_getElem hm']; rfl)
  show (ns.getD m 0 == k) = false
  exact beq_eq_false_iff_ne.mpr hne
 ·exact ⟨.int (j : Int), H, I.tok _, ⟨_, rfl⟩, q⟩
end
end L2
namespace HT
open PySem PyProof.Rows
section
variable {prog : Program} {w : World} {A : Around} {R : Result → Shared → Prop} {I S : Addr} {fp wr : List Addr} {n : Nat} {P : Nat → Value → Prop} {St : Nat → Heap → Prop}
end
end HT
namespace L2
open PySem PySem.Spec PyProof.Rows
section
variable {X : Cx}
end
end L2
namespace HT
open PySem PyProof.Rows PySem.SeqAt PySem.MeetsSeq PySem.MeetsSeq2 PySem.MeetsSeq3
inductive OrdK
 | lt
 | le
 | gt
end HT
namespace L2
open PySem PySem.Spec PyProof.Rows
section
variable {X : Cx}
end
end L2
namespace HT
open PySem PyProof.Rows
section
variable {prog : Program} {w : World} {A : Around} {E : Value → Shared → Prop} {s : Shared}
end
section
variable {prog : Program} {w : World} {A : Around} {R : Result → Shared → Prop} {I S : Addr} {fp wr : List Addr} {n : Nat} {P : Nat → Value → Prop} {St : Nat → Heap → Prop}
end
end HT
namespace L2
open PySem PySem.Spec PyProof.Rows
section
variable {X : Cx}
end
end L2
namespace HT
open PySem PyProof.Rows
def UpP (xs : Array Nat) : Prop := xs.toList.Pairwise (· < ·)
theorem UpP.at {xs : Array Nat} (u : UpP xs) {i k : Nat} (h : i < k) (hk : k < xs.size) : xs.getD i 0 < xs.getD k 0 := by
 have := List.pairwise_iff_getElem.mp u i k (by rw [Array.length_toList]; omega) (by rw [Array.length_toList]; exact hk) h
 rw [Array.getElem_toList, Array.getElem_toList] at this
 rw [Array.getD_eq_getD_getElem?, Array.getD_eq_getD_getElem?, Array.getElem?_eq_getElem (by omega), Array.getElem?_eq_getElem hk]
 exact this
structure BelowAt (xs : Array Nat) (j b : Nat) : Prop where
 le : b ≤ xs.size
 lo : ∀ i < b, xs.getD i 0 < j
 hi : ∀ i, b ≤ i → i < xs.size → j ≤ xs.getD i 0
theorem below_go {xs : Array Nat} (u : UpP xs) (j : Nat) : ∀ (fuel lo hi : Nat), lo ≤ hi → hi ≤ xs.size → hi - lo ≤ fuel → (∀ i < lo, xs.getD i 0 < j) → (∀ i, hi ≤ i → i < xs.size → j ≤ xs.getD i 0) → BelowAt xs j (SetTable.below.go xs j fuel lo hi)
 | 0, lo, hi, h1, h2, h3, h4, h5 => ⟨by show lo ≤ _; omega, h4, fun i a b => h5 i (by have a' : lo ≤ i := a; omega) b⟩
 | fuel + 1, lo, hi, h1, h2, h3, h4, h5 => by
  unfold SetTable.below.go
  by_cases hlt : lo < hi
  ·rw [if_pos hlt]
   have hm : (lo + hi) / 2 < xs.size := by omega
   have em : xs.getD ((lo + hi) / 2) j = xs.getD ((lo + hi) / 2) 0 := by rw [Array.getD_eq_getD_getElem?, Array.getD_eq_getD_getElem?, Array.getElem?_eq_getElem hm]; rfl
   show BelowAt xs j (if xs.getD ((lo + hi) / 2) j < j then SetTable.below.go xs j fuel ((lo + hi) / 2 + 1) hi else SetTable.below.go xs j fuel lo ((lo + hi) / 2))
   rw [em]
   by_cases hc : xs.getD ((lo + hi) / 2) 0 < j
   ·rw [if_pos hc]
    refine below_go u j fuel _ hi (by omega) h2 (by omega) (fun i hi' => ?_) h5
    by_cases e : i = (lo + hi) / 2
    ·rw [e]; exact hc
    ·exact Nat.lt_trans (u.at (show i < (lo + hi) / 2 by omega) hm) hc
   ·rw [if_neg hc]
    refine below_go u j fuel lo _ (by omega) (by omega) (by omega) h4 fun i a b => ?_
    by_cases e : i = (lo + hi) / 2
    ·rw [e]; omega
    ·have := u.at (show (lo + hi) / 2 < i by omega) b
     omega
  ·rw [if_neg hlt]
   exact ⟨by omega, h4, fun i a b => h5 i (by omega) b⟩
theorem below_is {xs : Array Nat} (u : UpP xs) (j : Nat) : BelowAt xs j (SetTable.below xs j) := below_go u j _ 0 xs.size (Nat.zero_le _) (Nat.le_refl _) (by omega) (fun i h => absurd h (Nat.not_lt_zero _)) (fun i h1 h2 => by omega)
theorem has_nil (j : Nat) : SetTable.has #[] j = false := by
 unfold SetTable.has
 rw [show (#[] : Array Nat)[SetTable.below #[] j]? = none by simp]
 rfl
theorem slot_empty {t : SetTable} (u : UpP t.place) {j : Nat} (h : t.slot j = .empty) : ∀ x ∈ t.place.toList, x ≠ j := by
 intro x hx e
 subst e
 obtain ⟨i, hi, ei⟩ := List.mem_iff_getElem.mp hx
 rw [Array.length_toList] at hi
 rw [Array.getElem_toList] at ei
 have gi : t.place.getD i 0 = x := by rw [Array.getD_eq_getD_getElem?, Array.getElem?_eq_getElem hi, ei]; rfl
 have B := below_is u x
 have hbi : SetTable.below t.place x ≤ i := Nat.le_of_not_lt fun z => by have := B.lo i z; omega
 have hb : SetTable.below t.place x < t.place.size := by omega
 have eb : SetTable.below t.place x = i := by
  rcases Nat.lt_or_ge (SetTable.below t.place x) i with z | z
  ·have h1 := B.hi _ (Nat.le_refl _) hb
   have h2 := u.at z hi
   omega
  ·omega
 have e1 : (t.place[SetTable.below t.place x]? == some x) = true := by rw [eb, Array.getElem?_eq_getElem hi, ei]; exact beq_self_eq_true _
 unfold SetTable.slot at h
 dsimp only at h
 rw [if_pos e1] at h
 cases h
theorem slot_nodummy {t : SetTable} (d : t.dummies = #[]) (j : Nat) : t.slot j ≠ .dummy := by
 unfold SetTable.slot
 dsimp only
 rw [d, has_nil]
 split
 ·exact fun z => nomatch z
 ·exact fun z => nomatch z
theorem probe_empty {t : SetTable} (d : t.dummies = #[]) (hashAt : Nat → Int) (h : Int) : ∀ (fuel : Nat) (p : SetTable.Probe) (j : Nat) (dm : Option Nat), SetTable.probe.go t hashAt h fuel p = some (.empty j dm) → t.slot j = .empty ∧ dm = p.dummy
 | 0, _, _, _, e => by cases e
 | fuel + 1, p, j, dm, e => by
  unfold SetTable.probe.go at e
  cases hs : t.slot p.j with
  | empty =>
   rw [hs] at e
   cases e
   exact ⟨hs, rfl⟩
  | dummy => exact absurd hs (slot_nodummy d _)
  | live i =>
   rw [hs] at e
   dsimp only at e
   have adv : (t.advance p).dummy = p.dummy := by
    unfold SetTable.advance
    split <;> rfl
   split at e
   ·cases e
   ·have ih := probe_empty d hashAt h fuel (t.advance p) j dm e
    rw [adv] at ih
    exact ih
theorem free_empty {t : SetTable} (d : t.dummies = #[]) {h : Int} {j : Nat} {wd : Bool} (e : t.freeSlot h = some (j, wd)) : t.slot j = .empty := by
 unfold SetTable.freeSlot at e
 split at e
 ·rename_i j' dm hp
  obtain ⟨h1, h2⟩ := probe_empty d _ _ _ _ _ _ hp
  have h3 : dm = none := h2
  rw [h3] at e
  cases e
  exact h1
 ·cases e
structure TabOk (t : SetTable) (led : Bool) : Prop where
 up : UpP t.place
 dum : t.dummies = #[]
 led : t.led = led
theorem up_range (n : Nat) : UpP (Array.range n) := by
 unfold UpP
 rw [Array.toList_range]
 exact List.pairwise_lt_range
theorem TabOk.standIn {t : SetTable} {led : Bool} (T : TabOk t led) (n : Nat) : TabOk (t.standIn n) led := ⟨up_range n, rfl, T.led⟩
theorem TabOk.layNew {t : SetTable} {led : Bool} (T : TabOk t led) (es : Array (Int × Value)) (h : Int) (x : Value) : TabOk (layNew t es h x).2.1 led := by
 unfold PySem.layNew
 split
 ·rename_i slot wd hf
  have hE := free_empty T.dum hf
  have T' : TabOk (t.put slot).1 led := by
   refine ⟨?_, ?_, T.led⟩
   ·have B := below_is T.up slot
    have ne := slot_empty T.up hE
    show UpP (SetTable.insertAt t.place (SetTable.below t.place slot) slot)
    unfold UpP
    rw [SetTable.toList_insertAt]
    have lt : ∀ a ∈ t.place.toList.take (SetTable.below t.place slot), a < slot := fun a ha => by
     obtain ⟨i, hi, ei⟩ := List.mem_iff_getElem.mp ha
     rw [List.length_take, Array.length_toList] at hi
     rw [List.getElem_take, Array.getElem_toList] at ei
     have := B.lo i (by omega)
     rw [Array.getD_eq_getD_getElem?, Array.getElem?_eq_getElem (by omega), ei] at this
     exact this
    have gt : ∀ a ∈ t.place.toList.drop (SetTable.below t.place slot), slot < a := fun a ha => by
     obtain ⟨i, hi, ei⟩ := List.mem_iff_getElem.mp ha
     rw [List.length_drop, Array.length_toList] at hi
     rw [List.getElem_drop, Array.getElem_toList] at ei
     have := B.hi (SetTable.below t.place slot + i) (by omega) (by omega)
     rw [Array.getD_eq_getD_getElem?, Array.getElem?_eq_getElem (by omega), ei] at this
     have this' : slot ≤ a := this
     have := ne a (List.mem_of_mem_drop ha)
     omega
    refine List.pairwise_append.mpr ⟨T.up.sublist (List.take_sublist _ _), List.pairwise_cons.mpr ⟨gt, T.up.sublist (List.drop_sublist _ _)⟩, fun a ha b hb => ?_⟩
    rcases List.mem_cons.mp hb with z | z
    ·rw [z]; exact lt a ha
    ·exact Nat.lt_trans (lt a ha) (gt b z)
   ·show (if SetTable.has t.dummies slot then SetTable.eraseAt t.dummies (SetTable.below t.dummies slot) else t.dummies) = #[]
    rw [T.dum, has_nil]
    rfl
  show TabOk ((t.put slot).1.orStandIn _) led
  unfold SetTable.orStandIn
  split
  ·exact T'
  ·exact T'.standIn _
 ·exact T.standIn _
theorem TabOk.laid {mask finger moves : Nat} {led plain : Bool} {hs : Array Int} {t : SetTable} {order : Array Nat} (e : SetTable.laid mask finger moves led plain hs = some (t, order)) : TabOk t led := by
 unfold SetTable.laid at e
 cases hl : SetTable.layClean mask hs with
 | none => rw [hl] at e; cases e
 | some owner =>
  rw [hl] at e
  have e' := Option.some.inj e
  have e1 : _ = t := congrArg Prod.fst e'
  rw [← e1]
  refine ⟨?_, rfl, rfl⟩
  show ((((List.range (mask + 1)).filterMap fun j => (owner.getD j none).map (j, ·)).map (·.1)).toArray).toList.Pairwise (· < ·)
  have key : ∀ (l : List Nat), l.Pairwise (· < ·) → ((l.filterMap fun j => (owner.getD j none).map (j, ·)).map (·.1)).Pairwise (· < ·) ∧ ∀ a ∈ (l.filterMap fun j => (owner.getD j none).map (j, ·)).map (·.1), a ∈ l := by
   intro l
   induction l with
   | nil => intro _; exact ⟨List.Pairwise.nil, (fun _ h => nomatch h)⟩
   | cons a r ih =>
    intro hp
    obtain ⟨i1, i2⟩ := ih hp.of_cons
    rw [List.filterMap_cons]
    cases owner.getD a none with
    | none => exact ⟨i1, fun x hx => List.mem_cons_of_mem _ (i2 x hx)⟩
    | some k =>
     refine ⟨List.pairwise_cons.mpr ⟨fun x hx => List.rel_of_pairwise_cons hp (i2 x hx), i1⟩, fun x hx => ?_⟩
     rcases List.mem_cons.mp hx with z | z
     ·rw [z]; exact List.mem_cons_self
     ·exact List.mem_cons_of_mem _ (i2 x z)
  exact (key _ List.pairwise_lt_range).1
theorem TabOk.relayAll {t : SetTable} {led : Bool} (T : TabOk t led) (es : Array (Int × Value)) (n : Nat) : TabOk (relayAll t es n).2.1 led := by
 unfold PySem.relayAll
 split
 ·rename_i t' order hr
  have T' : TabOk t' t.led := TabOk.laid hr
  rw [T.led] at T'
  dsimp only
  split
  ·exact T'
  ·exact T.standIn _
 ·exact T.standIn _
end HT
namespace HT
open PySem PyProof.Rows
def GoodE (e : Int × Value) : Prop := ∃ k t, e = (hashInt k, .int k t)
def keyE (e : Int × Value) : Int := match e.2 with
 | .int k _ => k
 | _ => 0
section
variable {prog : Program} {w : World}
def SetI (h : Heap) (a : Addr) (ks : List Int) (led : Bool) : Prop := ∃ o es ep t, h.get? a = some o ∧ o.ExactSet ∧ o.data = .set es ep t ∧ (∀ e ∈ es.toList, GoodE e) ∧ es.toList.map keyE = ks ∧ ks.Nodup ∧ es.size < scanBound ∧ t.fits es.size = true ∧ TabOk t led
theorem good_elems {es : List (Int × Value)} (h : ∀ e ∈ es, GoodE e) : ElemsOf (intKind prog w) es := fun e he => by
 obtain ⟨k, t, rfl⟩ := h e he
 exact ⟨⟨k, intKind_is _ _ _ _, rfl⟩, rfl⟩
theorem good_is {e : Int × Value} (h : GoodE e) (k : Int) : (intKind prog w).is k e.2 = decide (keyE e = k) := by
 obtain ⟨k', t, rfl⟩ := h
 show Value.isInt k (.int k' t) = decide (k' = k)
 unfold Value.isInt
 rw [Bool.eq_iff_iff, decide_eq_true_iff]
 first | (rw [beq_iff_eq]) | simp
variable {A : Around} {E : Value → Shared → Prop} {s : Shared} {a : Addr} {ks : List Int} {led : Bool}
theorem SetI.store {h : Heap} {o : Obj} {es es' : Array (Int × Value)} {ep : Nat} {t t' : SetTable} (ho : h.get? a = some o) (hx : o.ExactSet) (hd : o.data = .set es ep t) (g : ∀ e ∈ es'.toList, GoodE e) (nd : (es'.toList.map keyE).Nodup) (hb : es'.size < scanBound) (hf : t'.fits es'.size = true) (T : TabOk t' led) :
  (h.update a (Obj.putSet es' t')).get? a = some { o with data := .set es' (ep + 1) t' } ∧ SetI (h.update a (Obj.putSet es' t')) a (es'.toList.map keyE) led := by
 have e := Heap.get?_update_self (Obj.putSet es' t') ho (by rw [putSet_of es' t' hd]; rfl)
 rw [putSet_of es' t' hd] at e
 exact ⟨e, _, es', ep + 1, t', e, hx, rfl, g, rfl, nd, hb, hf, T⟩
theorem setAdd_I {k : Int} {tk : Tok} {Q : Bool → Shared → Prop} (S : SetI s.heap a ks led) (room : ks.length + 1 < scanBound)
  (q : ∀ b h' ks', Heap.SameBut a s.heap h' → SetI h' a ks' led → (k ∈ ks → ks'.Perm ks) → (k ∉ ks → ks'.Perm (ks ++ [k])) → Q b { s with heap := h' }) : wpAny (model prog w) A (setAddHashed a (.int k tk) (hashInt k)) Q E s := by
 obtain ⟨o, es, ep, t, ho, hx, hd, hg, hk, nd, hb, hf, T⟩ := S
 have hel : ElemsOf (intKind prog w) es.toList := good_elems hg
 have sc : (Value.int k tk).scannable = true := rfl
 have isk : (intKind prog w).is k (.int k tk) = true := intKind_is _ _ _ _
 have len : ks.length = es.size := by rw [← hk, List.length_map, Array.length_toList]
 have idx : (k ∈ ks ↔ ∃ e ∈ es.toList, (intKind prog w).is k e.2 = true) := by
  rw [← hk, List.mem_map]
  exact ⟨fun ⟨e, h1, h2⟩ => ⟨e, h1, by rw [good_is (hg e h1)]; exact decide_eq_true h2⟩, fun ⟨e, h1, h2⟩ => ⟨e, h1, by rw [good_is (hg e h1)] at h2; exact of_decide_eq_true h2⟩⟩
 unfold setAddHashed setAddHashedIn
 refine wpAny_holding (wpAny_bind (wpAny_setState_of ho hd hf ?_))
 dsimp only
 rw [byScan_of sc hb hel, if_pos rfl]
 unfold setAddByScan
 refine wpAny_bind (wpAny_bind (wpAny_rule (wpAny_bind (wpAny_setScan_of isk ho hd hf hel ?_))))
 cases hr : List.findIdx? (fun e => (intKind prog w).is k e.2) es.toList with
 | some j =>
  obtain ⟨hj, hpj, _⟩ := List.findIdx?_eq_some_iff_getElem.mp hr
  have hm : k ∈ ks := idx.mpr ⟨_, List.getElem_mem hj, hpj⟩
  dsimp only
  exact wpAny_pure (wpAny_pure (q false s.heap ks (Heap.SameBut.refl a s.heap) ⟨o, es, ep, t, ho, hx, hd, hg, hk, nd, hb, hf, T⟩ (fun _ => List.Perm.refl _) (fun z => absurd hm z)))
 | none =>
  have hn : k ∉ ks := fun z => by
   obtain ⟨e, h1, h2⟩ := idx.mp z
   have := List.findIdx?_eq_none_iff.mp hr e h1
   rw [h2] at this
   cases this
  dsimp only
  have gw : ∀ (b : Bool) {s1 : Shared} {Q' : Unit → Shared → Prop}, Q' () s1 → wpAny (model prog w) A (match b with | true => rule "set.scan.the-table-gave-way" | false => pure ()) Q' E s1 := fun b s1 Q' z => by
   cases b
   ·exact wpAny_pure z
   ·exact wpAny_rule z
  have p1 := layNew_perm t es (hashInt k) (.int k tk)
  have f1 := layNew_fits t es (hashInt k) (.int k tk)
  have T1 := T.layNew es (hashInt k) (.int k tk)
  generalize layNew t es (hashInt k) (.int k tk) = L at p1 f1 T1 ⊢
  obtain ⟨es1, t1, wd, gv⟩ := L
  dsimp only at p1 f1 T1 ⊢
  rw [Array.toList_push] at p1
  have g1 : ∀ e ∈ es1.toList, GoodE e := fun e he => by
   rcases List.mem_append.mp (p1.mem_iff.mp he) with z | z
   ·exact hg e z
   ·rw [List.mem_singleton.mp z]; exact ⟨k, tk, rfl⟩
  have pk : (es1.toList.map keyE).Perm (ks ++ [k]) := by
   have := p1.map keyE
   rw [List.map_append, hk] at this
   exact this
  have nd1 : (es1.toList.map keyE).Nodup := pk.nodup_iff.mpr (List.nodup_append.mpr ⟨nd, List.nodup_cons.mpr ⟨(fun h => nomatch h), List.nodup_nil⟩, fun x hx' y hy e => hn (by rw [← List.mem_singleton.mp hy, ← e]; exact hx')⟩)
  have b1 : es1.size < scanBound := by
   rw [← Array.length_toList, p1.length_eq, List.length_append, Array.length_toList]
   show es.size + 1 < _
   omega
  have fin : ∀ (g : Bool → Sem Unit) (_ : ∀ (b : Bool) (s1 : Shared) (Q' : Unit → Shared → Prop), Q' () s1 → wpAny (model prog w) A (g b) Q' E s1) (t2 : SetTable), t2.fits es1.size = true → TabOk t2 led → wpAny (model prog w) A (do
    storeSet a es1 t2
    if (!wd && t2.tooFull) = true then do
      g (relayAll t2 es1 (SetTable.grown es1.size)).2.2
      storeSet a (relayAll t2 es1 (SetTable.grown es1.size)).1 (relayAll t2 es1 (SetTable.grown es1.size)).2.1
      pure (some true)
     else pure (some true)) (fun r s' => wpAny (model prog w) A (match r with | some added => pure added | none => setAddHashedIn a (.int k tk) (hashInt k) 99999) Q E s') E s := by
   intro g hg2 t2 f2 T2
   refine wpAny_bind (wpAny_storeSet_of ho hd ?_ (fits_of_scanBound b1))
   obtain ⟨e1, S1⟩ := SetI.store (led := led) ho hx hd g1 nd1 b1 f2 T2
   have sb := Heap.SameBut.update s.heap a (Obj.putSet es1 t2)
   by_cases hc : (!wd && t2.tooFull) = true
   ·rw [if_pos hc]
    have p2 := relayAll_perm t2 es1 (SetTable.grown es1.size)
    have f3 := relayAll_fits t2 es1 (SetTable.grown es1.size)
    have T3 := T2.relayAll es1 (SetTable.grown es1.size)
    generalize relayAll t2 es1 (SetTable.grown es1.size) = L at p2 f3 T3 ⊢
    obtain ⟨es2, t3, gv2⟩ := L
    dsimp only at p2 f3 T3 ⊢
    have sz : es2.size = es1.size := by rw [← Array.length_toList, p2.length_eq, Array.length_toList]
    have pk2 := (p2.map keyE).trans pk
    refine wpAny_bind (hg2 _ _ _ (wpAny_bind (wpAny_storeSet_of e1 rfl ?_ (fits_of_scanBound (by rw [sz]; exact b1)))))
    obtain ⟨_, S2⟩ := SetI.store (led := led) (es' := es2) (t' := t3) e1 hx rfl (fun e he => g1 e (p2.mem_iff.mp he)) ((p2.map keyE).nodup_iff.mpr nd1) (by rw [sz]; exact b1) f3 T3
    exact wpAny_pure (wpAny_pure (q true _ _ (sb.trans (Heap.SameBut.update _ a _)) S2 (fun z => absurd z hn) fun _ => pk2))
   ·rw [if_neg hc]
    exact wpAny_pure (wpAny_pure (q true _ _ sb S1 (fun z => absurd z hn) fun _ => pk))
  refine wpAny_bind (gw _ ?_)
  split
  ·refine wpAny_bind ?_
   rw [hashByValue_scannable 8 sc]
   refine wpAny_pure ?_
   exact fin _ (fun b s1 Q' z => by cases b <;> first | exact wpAny_pure z | exact wpAny_rule z) _ (by split; exact f1; exact SetTable.fits_plain_off f1) (by split; exact T1; exact ⟨T1.up, T1.dum, T1.led⟩)
  ·refine wpAny_bind (wpAny_pure ?_)
   exact fin _ (fun b s1 Q' z => by cases b <;> first | exact wpAny_pure z | exact wpAny_rule z) _ f1 T1
end
end HT
namespace HT
open PySem PyProof.Rows
section
variable {prog : Program} {w : World} {A : Around} {E : Value → Shared → Prop} {s : Shared}
def ledW (w : World) : Bool := !w.params.followText "set-order"
def freshSet (w : World) : Obj := { cls := .type "set", dict := none, data := .set #[] 0 (.fresh 0 0 (ledW w)) }
theorem freshSet_I {h : Heap} {a : Addr} (e : h.get? a = some (freshSet w)) : SetI h a [] (ledW w) :=
 ⟨_, #[], 0, .fresh 0 0 (ledW w), e, ⟨rfl, rfl, rfl⟩, rfl, (fun _ h => nomatch h), rfl, List.nodup_nil, by show 0 < scanBound; decide, rfl, ⟨List.Pairwise.nil, rfl, rfl⟩⟩
theorem set_newL (v : Value) {R : Value → Shared → Prop} (q : R (.ref s.heap.objs.size) { s with heap := s.heap.push (freshSet w) }) : codeAny (model prog w) A (.call (.builtin "set.__new__") ⟨[.type "set", v], []⟩) (wants R E) s := by
 refine codeAny_of_tree ?_
 change wpAny _ A.in1 (checkBuiltinCall "set.__new__" ⟨[.type "set", v], []⟩ >>= fun _ => again (.builtin "set.__new__" ⟨[.type "set", v], []⟩)) _ _ s
 refine wpAny_bind (wpAny_of_eq (F.newCall_set_1 v) (wpAny_pure ⟨plainId_quiet F.plain_set_new _, codeAny_builtin F.entry_set_new ?_⟩))
 rw [Around.under_plainId F.plain_set_new _]
 unfold Builtin.«set.__new__» Builtin.Frozenset.newClass
 have sub := sub_set_self
 obtain ⟨h0, g0, d0, t0, o0⟩ := s
 dsimp only
 wp_walk
 refine wpAny_askSetting (wpAny_pure ?_)
 dsimp only
 simp only [newObj]
 exact wpAny_bind (wpAny_alloc (wpAny_pure (wpAny_pure q)))
theorem set_fill {I S : Addr} {fp wr : List Addr} {n : Nat} {P : Nat → Value → Prop} {St : Nat → Heap → Prop} {R : Result → Shared → Prop} {led : Bool} (W : Walks prog w A.in1 I fp wr n P St) (nS : S ∉ fp) (val : Nat → Int) (hv : ∀ i v, P i v → ∃ t, v = .int (val i) t) (hb : ∀ ks : List Int, ks.Nodup → (∀ x ∈ ks, ∃ j < n, val j = x) → ks.length + 1 < scanBound) :
  ∀ (k i : Nat) (s : Shared) (ks : List Int), i + k = n → St i s.heap → SetI s.heap S ks led → ks.length ≤ i → (∀ x, x ∈ ks ↔ ∃ j < i, val j = x) →
   (∀ h' tk ks', SetI h' S ks' led → (∀ x, x ∈ ks' ↔ ∃ j < n, val j = x) → (∀ b o, b ∉ wr → b ≠ S → s.heap.get? b = some o → h'.get? b = some o) → R (.ok (.ret .none)) { s with heap := h', toks := tk }) →
   codeAny (model prog w) A (.builtin "set.update.loop" ⟨[.ref S, .ref I], []⟩) R s := by
 have nW : S ∉ wr := fun z => nS (W.sub S z)
 intro k
 induction k with
 | zero =>
  intro i s ks hi hst hS _ hm q
  have ei : i = n := by omega
  subst ei
  refine codeAny_builtin F.entry_set_update_loop ?_
  rw [Around.under_plainId F.plain_set_update_loop _]
  refine wpAny_bind (m := pyNext (.ref I)) (W.done s _ _ hst fun h' tk kp => ?_)
  obtain ⟨o, es, ep, t, ho, rest⟩ := hS
  exact wpAny_pure (q h' tk ks ⟨o, es, ep, t, kp S _ nW ho, rest⟩ hm fun b o h1 _ h3 => kp b o h1 h3)
 | succ k ih =>
  intro i s ks hi hst hS hlen hm q
  refine codeAny_builtin F.entry_set_update_loop ?_
  rw [Around.under_plainId F.plain_set_update_loop _]
  refine wpAny_bind (m := pyNext (.ref I)) (W.item i s _ _ (by omega) hst fun v h1 t1 hP st1 kp => ?_)
  obtain ⟨tv, rfl⟩ := hv i v hP
  have hS1 : SetI h1 S ks led := by
   obtain ⟨o, es, ep, t, ho, rest⟩ := hS
   exact ⟨o, es, ep, t, kp S _ nW ho, rest⟩
  refine wpAny_bind (m := holding [Value.int (val i) tv] (setAdd S (.int (val i) tv))) (wpAny_holding ?_)
  unfold setAdd
  refine wpAny_holding (wpAny_bind (wpAny_pyHash_int ?_))
  refine setAdd_I (s := { s with heap := h1, toks := t1 + 1 }) hS1 (hb ks (let ⟨_, _, _, _, _, _, _, _, _, nd, _⟩ := hS; nd) fun x hx => let ⟨j, h1, h2⟩ := (hm x).mp hx; ⟨j, by omega, h2⟩) fun b h2 ks2 sb S2 c1 c2 => ?_
  have m2 : ∀ x, x ∈ ks2 ↔ ∃ j < i + 1, val j = x := fun x => by
   by_cases hin : val i ∈ ks
   ·rw [(c1 hin).mem_iff, hm x]
    refine ⟨fun ⟨j, h1, h2⟩ => ⟨j, by omega, h2⟩, fun ⟨j, h1, h2⟩ => ?_⟩
    by_cases e : j = i
    ·rw [e] at h2
     rw [h2] at hin
     exact (hm x).mp hin
    ·exact ⟨j, by omega, h2⟩
   ·rw [(c2 hin).mem_iff, List.mem_append, List.mem_singleton, hm x]
    refine ⟨fun z => z.elim (fun ⟨j, h1, h2⟩ => ⟨j, by omega, h2⟩) fun e => ⟨i, by omega, e.symm⟩, fun ⟨j, h1, h2⟩ => ?_⟩
    by_cases e : j = i
    ·rw [e] at h2
     exact .inr h2.symm
    ·exact .inl ⟨j, by omega, h2⟩
  have l2 : ks2.length ≤ i + 1 := by
   by_cases hin : val i ∈ ks
   ·rw [(c1 hin).length_eq]; omega
   ·rw [(c2 hin).length_eq, List.length_append]
    show ks.length + 1 ≤ _
    omega
  refine wpAny_pure ⟨plainId_quiet F.plain_set_update_loop _, ih (i + 1) _ ks2 (by omega) (W.frame _ _ _ st1 fun c hc o h => ?_) S2 l2 m2 fun h' tk ks' S' m' kp' => q h' tk ks' S' m' fun c o h1' h2' h3' => kp' c o h1' h2' ?_⟩
  ·rw [sb.2 c (fun z : c = S => nS (by rw [← z]; exact hc))]; exact h
  ·show h2.get? c = some o
   rw [sb.2 c h2']; exact kp c o h1' h3'
set_option maxHeartbeats 6400000 in
theorem call_setI {l : Addr} {items : Array Value} {ns : List Int} {Q : Value → Shared → Prop} (hh : A.handled = none) (hl : s.heap.IsList l items) (hi : IntsAre items.toList ns) (hb : ∀ ks : List Int, ks.Nodup → (∀ x ∈ ks, x ∈ ns) → ks.length + 1 < scanBound)
  (q : ∀ h' tk ks, SetI h' s.heap.objs.size ks (ledW w) → (∀ x, x ∈ ks ↔ x ∈ ns) → (∀ b o, b < s.heap.objs.size → s.heap.get? b = some o → h'.get? b = some o) → Q (.ref s.heap.objs.size) { s with heap := h', toks := tk }) : wpAny (model prog w) A (call (.type "set") [.ref l]) Q E s := by
 obtain ⟨c0, tl0, mro0⟩ := F.called_set.mro
 have made0 := F.called_set.made
 have sub0 := F.called_set.sub
 have lt : l < s.heap.objs.size := by obtain ⟨_, e, _⟩ := hl; exact Heap.lt_size e
 refine wpAny_call (codeAny_of_tree ?_)
 change wpAny _ _ (callAny (.type "set") _) _ _ _
 refine wpAny_pure ⟨Code.quiet_builtin _ (by decide +kernel), codeAny_builtin F.entry_type_call ?_⟩
 rw [Around.under_plain (weight_type_call_type "set" [.ref l] []) rfl]
 have nt := F.called_set.notType
 have cc := F.called_set.canCreate
 have tc := F.typeCall_set_1 (.ref l)
 repeat (any_goals (first | assumption | wp_step))
 refine codeAny_mono (set_newL (.ref l) (E := E) (R := fun ob s1 => ob = .ref s.heap.objs.size ∧ s1 = { s with heap := s.heap.push (freshSet w) }) ⟨rfl, rfl⟩) fun r s1 hr => ?_
 cases r with
 | error e => exact hr
 | ok fl =>
  cases fl with
  | ret ob =>
   obtain ⟨rfl, rfl⟩ := hr
   have eS : (s.heap.push (freshSet w)).get? s.heap.objs.size = some (freshSet w) := Heap.get?_push_size _ rfl
   have tS : Shared.TypeIs { s with heap := s.heap.push (freshSet w) } (.ref s.heap.objs.size) "set" := ⟨_, eS, rfl⟩
   have li := F.called_set.init.lookup
   have bi := F.called_set.init.bind (.ref s.heap.objs.size)
   repeat (any_goals (first | assumption | wp_step))
   refine codeAny_mono (codeAny_call_builtin (R := wants (fun r s2 => r = .none ∧ ∃ h' tk ks, s2 = { s with heap := h', toks := tk } ∧ SetI h' s.heap.objs.size ks (ledW w) ∧ (∀ x, x ∈ ks ↔ x ∈ ns) ∧ (∀ b o, b < s.heap.objs.size → s.heap.get? b = some o → h'.get? b = some o)) E) F.called_set.init.plain F.entry_set_init (check_set_init_1 tS ?_)) fun r2 s2 hr2 => ?_
   ·have ll : (s.heap.push (freshSet w)).IsList l items := hl.push _
    obtain ⟨⟨oc, od, odat, osl⟩, ho, hc, nl, hd⟩ := id ll
    simp only at hc hd
    subst hc hd
    have s1 := F.sub_list_set
    have s2 := F.sub_list_frozenset
    have nd : (Value.type "list" == Value.type "dict") = false := by decide
    unfold freshSet at eS
    unfold Builtin.«set.__init__» noKeywords Builtin.Frozenset.updateFrom
    generalize ePI : pyIter = PI
    wp_walk
    subst ePI
    refine wpAny_pyIter_list ll (wpAny_bind (wpAny_runValue ?_))
    have h3 : A.in1.in1.in1.handled = none := by simp [hh]
    have sz : (s.heap.push (freshSet w)).objs.size = s.heap.objs.size + 1 := Heap.size_push ..
    have ne : l ≠ (s.heap.push (freshSet w)).objs.size := by rw [sz]; exact Nat.ne_of_lt (Nat.lt_succ_of_lt lt)
    have nf : s.heap.objs.size ∉ [(s.heap.push (freshSet w)).objs.size, l] := by
     rw [sz, List.mem_cons, List.mem_singleton]
     exact fun z => z.elim (fun y => absurd y (Nat.ne_of_lt (Nat.lt_succ_self _))) fun y => absurd y (Nat.ne_of_gt lt)
    have hsz : ns.length = items.size := by rw [← hi.length, Array.length_toList]
    refine set_fill (Walks.list h3 _ l ne items) nf (fun i => ns.getD i 0) (fun i v hv => IntsAre.int_at hi i v (by rw [Array.getElem?_toList]; exact hv)) (fun ks nd m => hb ks nd fun x hx => by
     obtain ⟨j, hj, rfl⟩ := m x hx
     rw [List.getD_eq_getElem?_getD, List.getElem?_eq_getElem (by omega)]
     exact List.getElem_mem _) items.size 0 _ [] (Nat.zero_add _)
     ⟨⟨_, Heap.get?_push_size _ rfl, rfl, rfl⟩, ll.push _⟩ (freshSet_I (Heap.get?_push_of_some _ eS)) (Nat.zero_le _) (fun x => ⟨(fun z => nomatch z), fun ⟨j, hj, _⟩ => absurd hj (Nat.not_lt_zero _)⟩) fun h' tk ks S' m' kp => ?_
    refine wpAny_pure (wpAny_pure ⟨rfl, h', tk, ks, rfl, S', fun x => ?_, fun b o hb' e => ?_⟩)
    ·rw [m' x]
     constructor
     ·rintro ⟨j, hj, rfl⟩
      rw [List.getD_eq_getElem?_getD, List.getElem?_eq_getElem (by omega)]
      exact List.getElem_mem _
     ·intro hx
      obtain ⟨j, hj, e⟩ := List.mem_iff_getElem.mp hx
      exact ⟨j, by omega, by rw [List.getD_eq_getElem?_getD, List.getElem?_eq_getElem hj]; exact e⟩
    ·refine kp b o (fun z => ?_) (Nat.ne_of_lt hb') (Heap.get?_push_of_some _ (Heap.get?_push_of_some _ e))
     rw [List.mem_singleton, sz] at z
     have y := Nat.lt_succ_of_lt hb'
     rw [z] at y
     exact absurd y (Nat.lt_irrefl _)
   ·cases r2 with
    | error e => exact hr2
    | ok fl2 =>
     cases fl2 with
     | ret r =>
      obtain ⟨rfl, h', tk, ks, rfl, S', m', kp⟩ := hr2
      repeat (any_goals (first | assumption | wp_step))
      exact q _ _ _ S' m' kp
     | _ => exact hr2.elim
  | _ => exact hr.elim
end
end HT
namespace HT
open PySem PyProof.Rows
theorem slot_seti_next : Slot "set_iterator" "__next__" "set_iterator.__next__" :=
 .of (owner := "set_iterator") (n := "__next__") (by rw [typeLookup_type, builtinLookup_eq_fast]; kernel_rfl) (by decide +kernel) (by decide +kernel) (by decide +kernel) (by first | exact .inl (by decide +kernel) | exact .inr (by decide +kernel)) (by rw [isSubtype_type]; kernel_rfl)
theorem entry_seti_next : entryFor table "set_iterator.__next__" = some Builtin.«set_iterator.__next__» := entryFor_of_fast (by kernel_rfl)
theorem args_seti_next (a : Value) : argsOk "set_iterator.__next__" ⟨[a], []⟩ := by unfold argsOk; kernel_rfl
theorem entry_set_iter : entryFor table "set.__iter__" = some Builtin.«frozenset.__iter__» := entryFor_alias (id' := "frozenset.__iter__") (by kernel_rfl) rfl (by decide +kernel) (by kernel_rfl)
theorem choose_wp {M : Model} {A : Around} {E : Value → Shared → Prop} {s : Shared} {src : Source} {n : Nat} {Q : Nat → Shared → Prop} (hn : n ≠ 0) (q : ∀ i d, i < n → Q i { s with drawn := d }) : wpAny M A (choose src n) Q E s :=
 fun _ _ _ => ⟨hn, q _ _ (Nat.mod_lt _ (Nat.pos_of_ne_zero hn))⟩
theorem perm_out {α : Type} : ∀ {l : List α} {i : Nat} (h : i < l.length), (l[i] :: l.eraseIdx i).Perm l
 | _ :: _, 0, _ => List.Perm.refl _
 | a :: r, i + 1, h => ((List.Perm.swap a _ _).trans (List.Perm.cons a (perm_out (l := r) (i := i) (Nat.lt_of_succ_lt_succ h))))
theorem draw_perm {M : Model} {A : Around} {E : Value → Shared → Prop} {α : Type} (n : Nat) : ∀ (xs : List α) (s : Shared) (Q : List α → Shared → Prop), xs.length ≤ n → (∀ ys d, ys.Perm xs → Q ys { s with drawn := d }) → wpAny M A (drawOrder n xs) Q E s := by
 induction n with
 | zero =>
  intro xs s Q hl q
  have e : xs = [] := List.length_eq_zero_iff.mp (by omega)
  subst e
  exact wpAny_pure (q [] s.drawn (List.Perm.refl _))
 | succ n ih =>
  intro xs s Q hl q
  cases xs with
  | nil => exact wpAny_pure (q [] s.drawn (List.Perm.refl _))
  | cons x r =>
   unfold drawOrder
   refine wpAny_bind (choose_wp (by simp) fun i d hi => ?_)
   rw [List.getElem?_eq_getElem hi]
   refine wpAny_bind (ih _ _ _ ?_ fun ys d' hp => wpAny_pure (q _ d' ?_))
   ·rw [List.length_eraseIdx_of_lt hi]
    rw [List.length_cons] at hl ⊢
    omega
   ·exact (List.Perm.cons _ hp).trans (perm_out hi)
theorem pick_go {α : Type} (next : Nat → Nat) : ∀ (fuel k : Nat) (left : List α) (out : Array α), left.length = fuel → (pickOrder.go next fuel k left out).toList.Perm (out.toList ++ left)
 | 0, k, [], out, _ => by show out.toList.Perm _; rw [List.append_nil]
 | fuel + 1, k, left, out, hl => by
  have hi : next k % left.length < left.length := Nat.mod_lt _ (by omega)
  unfold pickOrder.go
  rw [List.getElem?_eq_getElem hi]
  refine (pick_go next fuel (k + 1) _ _ (by rw [List.length_eraseIdx_of_lt hi]; omega)).trans ?_
  rw [Array.toList_push, List.append_assoc]
  exact List.Perm.append_left _ (perm_out hi)
theorem pick_perm {α : Type} (next : Nat → Nat) (xs : Array α) : (pickOrder next xs).toList.Perm xs.toList := pick_go next _ 0 _ #[] (Array.length_toList)
def slotAt (place : Array Nat) (i : Nat) : Nat := if i = 0 then 0 else place.getD (i - 1) 0 + 1
theorem BelowAt.uniq {xs : Array Nat} {j b c : Nat} (B : BelowAt xs j b) (C : BelowAt xs j c) : b = c := by
 rcases Nat.lt_trichotomy b c with z | z | z
 ·have h1 := C.lo b z
  have h2 := B.hi b (Nat.le_refl _) (by have := C.le; omega)
  omega
 ·exact z
 ·have h1 := B.lo c z
  have h2 := C.hi c (Nat.le_refl _) (by have := B.le; omega)
  omega
theorem slotAt_below {xs : Array Nat} (u : UpP xs) {i : Nat} (hi : i ≤ xs.size) : SetTable.below xs (slotAt xs i) = i := by
 refine (below_is u _).uniq ?_
 unfold slotAt
 by_cases h0 : i = 0
 ·rw [if_pos h0, h0]
  exact ⟨Nat.zero_le _, fun k h => absurd h (Nat.not_lt_zero _), fun k _ _ => Nat.zero_le _⟩
 ·rw [if_neg h0]
  refine ⟨hi, fun k hk => ?_, fun k h1 h2 => ?_⟩
  ·by_cases e : k = i - 1
   ·rw [e]; exact Nat.lt_succ_self _
   ·have := u.at (show k < i - 1 by omega) (by omega)
    omega
  ·exact u.at (show i - 1 < k by omega) h2
section
variable {prog : Program} {w : World} {A : Around} {E : Value → Shared → Prop} {s : Shared} {a : Addr} {o : Obj} {es : Array (Int × Value)} {ep : Nat} {t : SetTable}
theorem next_text {slot given : Nat} {Q : Option (Value × Nat) → Shared → Prop} (ho : s.heap.get? a = some o) (hd : o.data = .set es ep t) (hf : t.fits es.size = true) (hT : w.params.followText "set-order" = true)
  (q : Q (((pickOrder (w.params.setOrder a ep) es)[given]?).map fun e => (e.2, slot)) s) : wpAny (model prog w) A (setNext a slot given ep) Q E s := by
 have by_ : ∀ {Q' : Bool → Shared → Prop}, Q' true s → wpAny (model prog w) A setsByText Q' E s := fun z => by
  unfold setsByText
  have z' := z
  rw [← hT] at z'
  exact wpAny_bind (wpAny_askSetting (wpAny_pure z'))
 unfold setNext
 refine wpAny_bind (wpAny_setState_of ho hd hf (wpAny_bind (by_ ?_)))
 rw [if_pos rfl]
 dsimp only
 rw [if_neg (by simp)]
 unfold setWalk
 refine wpAny_bind (wpAny_bind (wpAny_setState_of ho hd hf (wpAny_bind (by_ ?_))))
 rw [if_pos rfl]
 exact wpAny_bind (wpAny_askSetting (wpAny_pure (wpAny_pure q)))
theorem next_led {slot given : Nat} {Q : Option (Value × Nat) → Shared → Prop} (ho : s.heap.get? a = some o) (hd : o.data = .set es ep t) (hf : t.fits es.size = true) (hT : w.params.followText "set-order" = false) (hl : t.led = true) (hp : (!t.plain && decide (es.size > 1)) = false)
  (q : Q (match es[SetTable.below t.place slot]?, t.place[SetTable.below t.place slot]? with | some (_, x), some j => some (x, j + 1) | _, _ => none) s) : wpAny (model prog w) A (setNext a slot given ep) Q E s := by
 have by_ : ∀ {Q' : Bool → Shared → Prop}, Q' false s → wpAny (model prog w) A setsByText Q' E s := fun z => by
  unfold setsByText
  have z' := z
  rw [← hT] at z'
  exact wpAny_bind (wpAny_askSetting (wpAny_pure z'))
 unfold setNext
 refine wpAny_bind (wpAny_setState_of ho hd hf (wpAny_bind (by_ ?_)))
 rw [if_neg Bool.false_ne_true]
 dsimp only
 change wpAny _ _ (if (!t.plain && decide (es.size > 1)) = true then _ else _) _ _ _
 rw [if_neg (by rw [hp]; exact Bool.false_ne_true)]
 change wpAny _ _ ((if (!t.led && !es.isEmpty) = true then _ else _) >>= _) _ _ _
 rw [if_neg (by rw [hl]; exact Bool.false_ne_true)]
 exact wpAny_bind (wpAny_pure (wpAny_pure q))
end
end HT
namespace HT
open PySem PyProof.Rows
def itO (first : Value) (i n ep : Nat) (a : Addr) : Obj := { cls := .type "set_iterator", dict := none, data := .fields #[first, rawInt i, .ref a, rawInt n, rawInt ep], slots := #[] }
section
variable {prog : Program} {w : World} {A : Around} {E : Value → Shared → Prop} {s : Shared} {a I : Addr} {o : Obj} {es : Array (Int × Value)} {ep : Nat} {t : SetTable}
theorem entries_wp {Q : Array (Int × Value) → Shared → Prop} (ho : s.heap.get? a = some o) (hd : o.data = .set es ep t) (hf : t.fits es.size = true) (q : Q es s) : wpAny (model prog w) A (setEntries a) Q E s := by
 unfold setEntries
 exact wpAny_bind (wpAny_setState_of ho hd hf (wpAny_pure q))
theorem stop_wp {Q : Option Value → Shared → Prop} {K : Value → Sem (Option Value)} (hh : A.handled = none) (q : ∀ h', (∀ b o, s.heap.get? b = some o → h'.get? b = some o) → ∀ x, (∃ oo, h'.get? x = some oo ∧ oo.cls = .type "StopIteration") → wpAny (model prog w) A (K (.ref x)) Q E { s with heap := h' }) :
  wpAny (model prog w) A.in1 (newExc (.type "StopIteration") [] >>= fun x => raiseNew (α := Fin) x) (fun _ _ => False) (fun e s' => wpAny (model prog w) A (K e) Q E s') s := by
 refine wpAny_bind ?_
 simp only [newExc, newTuple]
 refine wpAny_bind (wpAny_newObj_type ?_ (by size_fits))
 refine wpAny_bind (m := firstArgMember _ _) (wpAny_of_eq (a := Value.none) (by first | rfl | (simp only [firstArgMember]; rfl)) ?_)
 refine wpAny_newObj_type ?_ (by size_fits)
 simp only [raiseNew]
 refine wpAny_bind (wpAny_handled ?_)
 rw [show A.in1.handled = none from hh]
 refine wpAny_bind (wpAny_pure (wpAny_throw ?_))
 exact q _ (fun b o e => Heap.get?_push_of_some _ (Heap.get?_push_of_some _ e)) _ ⟨_, Heap.get?_push_size _ rfl, rfl⟩
theorem seti_item {sl sl' i n : Nat} {v : Value} {Q : Option Value → Shared → Prop} (hI : s.heap.get? I = some (itO (rawInt sl) i n ep a)) (ho : s.heap.get? a = some o) (hd : o.data = .set es ep t) (hf : t.fits es.size = true) (hz : es.size = n)
  (hn : ∀ (E' : Value → Shared → Prop) (Q' : Option (Value × Nat) → Shared → Prop), Q' (some (v, sl')) s → wpAny (model prog w) A.in1 (setNext a sl i ep) Q' E' s)
  (q : ∀ h', h'.get? I = some (itO (rawInt sl') (i + 1) n ep a) → Heap.SameBut I s.heap h' → Q (some v) { s with heap := h' }) : wpAny (model prog w) A (pyNext (.ref I)) Q E s := by
 have ty : s.TypeIs (.ref I) "set_iterator" := ⟨_, hI, rfl⟩
 unfold pyNext
 refine wpAny_bind (wpAny_attempt (wpAny_callSpecial?_slot (name := Str.ofString "__next__") ty slot_seti_next (wpAny_call_entry slot_seti_next ty entry_seti_next ?_ (args_seti_next _))))
 change wpAny _ _ (fieldsOf (.ref I) >>= _) _ _ s
 refine wpAny_bind (wpAny_fieldsOf hI rfl ?_)
 change wpAny _ _ (setEntries a >>= _) _ _ s
 refine wpAny_bind (entries_wp ho hd hf ?_)
 rw [hz]
 change wpAny _ _ (if (((n : Nat) : Int) != ((n : Nat) : Int)) = true then _ else _) _ _ s
 rw [if_neg (by simp)]
 change wpAny _ _ (setNext a ((sl : Nat) : Int).toNat ((i : Nat) : Int).toNat ((ep : Nat) : Int).toNat >>= _) _ _ s
 rw [Int.toNat_natCast, Int.toNat_natCast, Int.toNat_natCast]
 refine wpAny_bind (hn _ _ ?_)
 change wpAny _ _ (setField (.ref I) 0 (rawInt (sl' : Nat)) >>= _) _ _ s
 refine wpAny_bind (wpAny_setField_rec hI (by simp) fun h1 e1 sb1 => ?_)
 refine wpAny_bind (m := setField (.ref I) 1 (rawInt (((i : Nat) : Int) + 1))) (wpAny_setField_rec e1 (by simp) fun h2 e2 sb2 => wpAny_pure ⟨v, rfl, wpAny_pure (q _ ?_ (sb1.trans sb2))⟩)
 exact e2
theorem seti_end {sl i n : Nat} {Q : Option Value → Shared → Prop} (hh : A.handled = none) (hI : s.heap.get? I = some (itO (rawInt sl) i n ep a)) (ho : s.heap.get? a = some o) (hd : o.data = .set es ep t) (hf : t.fits es.size = true) (hz : es.size = n)
  (hn : ∀ (E' : Value → Shared → Prop) (Q' : Option (Value × Nat) → Shared → Prop), Q' none s → wpAny (model prog w) A.in1 (setNext a sl i ep) Q' E' s)
  (q : ∀ h', Heap.ExtBut I s.heap h' → Q none { s with heap := h' }) : wpAny (model prog w) A (pyNext (.ref I)) Q E s := by
 have ty : s.TypeIs (.ref I) "set_iterator" := ⟨_, hI, rfl⟩
 unfold pyNext
 refine wpAny_bind (wpAny_attempt (wpAny_callSpecial?_slot (name := Str.ofString "__next__") ty slot_seti_next (wpAny_call_entry slot_seti_next ty entry_seti_next ?_ (args_seti_next _))))
 change wpAny _ _ (fieldsOf (.ref I) >>= _) _ _ s
 refine wpAny_bind (wpAny_fieldsOf hI rfl ?_)
 change wpAny _ _ (setEntries a >>= _) _ _ s
 refine wpAny_bind (entries_wp ho hd hf ?_)
 rw [hz]
 change wpAny _ _ (if (((n : Nat) : Int) != ((n : Nat) : Int)) = true then _ else _) _ _ s
 rw [if_neg (by simp)]
 change wpAny _ _ (setNext a ((sl : Nat) : Int).toNat ((i : Nat) : Int).toNat ((ep : Nat) : Int).toNat >>= _) _ _ s
 rw [Int.toNat_natCast, Int.toNat_natCast, Int.toNat_natCast]
 refine wpAny_bind (hn _ _ ?_)
 change wpAny _ _ (setField (.ref I) 2 .none >>= _) _ _ s
 refine wpAny_bind (wpAny_setField_rec hI (by simp) fun h1 e1 sb1 => ?_)
 refine wpAny_mono (stop_wp (A := A) (s := { s with heap := h1 }) hh fun h2 kp x ⟨oo, e2, c2⟩ => ?_) (fun _ _ z => z.elim) fun e s' z => z
 refine wpAny_bind (wpAny_isInstance (T := "StopIteration") (b := true) ⟨oo, e2, c2⟩ isSubtype_stop ?_)
 exact wpAny_pure (q _ fun b ob hb e => kp b ob (sb1.extBut b ob hb e))
theorem drawn_wp {p : Nat} {e : Int × Value} {Q : Value → Shared → Prop} (ho : s.heap.get? a = some o) (hd : o.data = .set es ep t) (hf : t.fits es.size = true) (he : es[p]? = some e) (q : Q e.2 s) : wpAny (model prog w) A (setNextDrawn a p ep) Q E s := by
 unfold setNextDrawn
 refine wpAny_bind (wpAny_setState_of ho hd hf ?_)
 dsimp only
 rw [if_neg (by simp), he]
 exact wpAny_pure q
theorem setd_item {T : Addr} {ps : List Nat} {i n p : Nat} {e : Int × Value} {Q : Option Value → Shared → Prop} (hI : s.heap.get? I = some (itO (.ref T) i n ep a)) (hT : IsTup s.heap T (ps.map fun p : Nat => rawInt p).toArray) (ho : s.heap.get? a = some o) (hd : o.data = .set es ep t) (hf : t.fits es.size = true) (hz : es.size = n)
  (hp : ps[i]? = some p) (he : es[p]? = some e) (q : ∀ h', h'.get? I = some (itO (.ref T) (i + 1) n ep a) → Heap.SameBut I s.heap h' → Q (some e.2) { s with heap := h' }) : wpAny (model prog w) A (pyNext (.ref I)) Q E s := by
 have ty : s.TypeIs (.ref I) "set_iterator" := ⟨_, hI, rfl⟩
 obtain ⟨ot, hot, _, nt, hdt⟩ := hT
 unfold pyNext
 refine wpAny_bind (wpAny_attempt (wpAny_callSpecial?_slot (name := Str.ofString "__next__") ty slot_seti_next (wpAny_call_entry slot_seti_next ty entry_seti_next ?_ (args_seti_next _))))
 change wpAny _ _ (fieldsOf (.ref I) >>= _) _ _ s
 refine wpAny_bind (wpAny_fieldsOf hI rfl ?_)
 change wpAny _ _ (setEntries a >>= _) _ _ s
 refine wpAny_bind (entries_wp ho hd hf ?_)
 rw [hz]
 change wpAny _ _ (if (((n : Nat) : Int) != ((n : Nat) : Int)) = true then _ else _) _ _ s
 rw [if_neg (by simp)]
 change wpAny _ _ (seqItems? (.ref T) >>= _) _ _ s
 refine wpAny_bind (wpAny_seqItems hot hdt ?_)
 have ep' : (ps.map fun p : Nat => rawInt p).toArray[((i : Nat) : Int).toNat]? = some (rawInt p) := by rw [Int.toNat_natCast, List.getElem?_toArray, List.getElem?_map, hp]; rfl
 dsimp only
 rw [ep']
 change wpAny _ _ (setNextDrawn a ((p : Nat) : Int).toNat ((ep : Nat) : Int).toNat >>= _) _ _ s
 rw [Int.toNat_natCast, Int.toNat_natCast]
 refine wpAny_bind (drawn_wp ho hd hf he ?_)
 refine wpAny_bind (m := setField (.ref I) 1 (rawInt (((i : Nat) : Int) + 1))) (wpAny_setField_rec hI (by simp) fun h2 e2 sb2 => wpAny_pure ⟨e.2, rfl, wpAny_pure (q _ ?_ sb2)⟩)
 exact e2
theorem setd_end {T : Addr} {ps : List Nat} {i n : Nat} {Q : Option Value → Shared → Prop} (hh : A.handled = none) (hI : s.heap.get? I = some (itO (.ref T) i n ep a)) (hT : IsTup s.heap T (ps.map fun p : Nat => rawInt p).toArray) (ho : s.heap.get? a = some o) (hd : o.data = .set es ep t) (hf : t.fits es.size = true) (hz : es.size = n)
  (hp : ps[i]? = none) (q : ∀ h', Heap.ExtBut I s.heap h' → Q none { s with heap := h' }) : wpAny (model prog w) A (pyNext (.ref I)) Q E s := by
 have ty : s.TypeIs (.ref I) "set_iterator" := ⟨_, hI, rfl⟩
 obtain ⟨ot, hot, _, nt, hdt⟩ := hT
 unfold pyNext
 refine wpAny_bind (wpAny_attempt (wpAny_callSpecial?_slot (name := Str.ofString "__next__") ty slot_seti_next (wpAny_call_entry slot_seti_next ty entry_seti_next ?_ (args_seti_next _))))
 change wpAny _ _ (fieldsOf (.ref I) >>= _) _ _ s
 refine wpAny_bind (wpAny_fieldsOf hI rfl ?_)
 change wpAny _ _ (setEntries a >>= _) _ _ s
 refine wpAny_bind (entries_wp ho hd hf ?_)
 rw [hz]
 change wpAny _ _ (if (((n : Nat) : Int) != ((n : Nat) : Int)) = true then _ else _) _ _ s
 rw [if_neg (by simp)]
 change wpAny _ _ (seqItems? (.ref T) >>= _) _ _ s
 refine wpAny_bind (wpAny_seqItems hot hdt ?_)
 have ep' : (ps.map fun p : Nat => rawInt p).toArray[((i : Nat) : Int).toNat]? = none := by rw [Int.toNat_natCast, List.getElem?_toArray, List.getElem?_map, hp]; rfl
 dsimp only
 rw [ep']
 change wpAny _ _ (setField (.ref I) 0 (rawInt 0) >>= _) _ _ s
 refine wpAny_bind (wpAny_setField_rec hI (by simp) fun h0 e0 sb0 => ?_)
 change wpAny _ _ (setField (.ref I) 2 .none >>= _) _ _ _
 refine wpAny_bind (wpAny_setField_rec e0 (by simp) fun h1 e1 sb1 => ?_)
 refine wpAny_mono (stop_wp (A := A) (s := { s with heap := h1 }) hh fun h2 kp x ⟨oo, e2, c2⟩ => ?_) (fun _ _ z => z.elim) fun e s' z => z
 refine wpAny_bind (wpAny_isInstance (T := "StopIteration") (b := true) ⟨oo, e2, c2⟩ isSubtype_stop ?_)
 exact wpAny_pure (q _ fun b ob hb e => kp b ob ((sb0.trans sb1).extBut b ob hb e))
theorem iter_set {Q : Value → Shared → Prop} (ho : s.heap.get? a = some o) (hx : o.ExactSet) (hd : o.data = .set es ep t) (hf : t.fits es.size = true)
  (q1 : (w.params.followText "set-order" = true ∨ (!t.plain && decide (es.size > 1)) = false) → Q (.ref s.heap.objs.size) { s with heap := s.heap.push (itO (rawInt 0) 0 es.size ep a) })
  (q2 : ∀ (ps : List Nat) (d : Drawn), ps.Perm (List.range es.size) → Q (.ref (s.heap.objs.size + 1)) { s with heap := (s.heap.push { cls := .type "tuple", data := .seq (ps.map fun p : Nat => rawInt p).toArray }).push (itO (.ref s.heap.objs.size) 0 es.size ep a), drawn := d }) (hsz : es.size ≤ sizeLine) : wpAny (model prog w) A (pyIter (.ref a)) Q E s := by
 have ty : s.TypeIs (.ref a) "set" := ⟨o, ho, hx.1⟩
 refine wpAny_pyIter_slot ty PySem.F.slot_set_iter (wpAny_call_entry PySem.F.slot_set_iter ty entry_set_iter ?_ (PySem.F.args_set_iter_1 _))
 unfold Builtin.«frozenset.__iter__»
 change wpAny _ _ (Builtin.Frozenset.sizeOf a >>= _) _ _ s
 unfold Builtin.Frozenset.sizeOf
 refine wpAny_bind (wpAny_bind (entries_wp ho hd hf (wpAny_pure ?_)))
 unfold setDrawn
 refine wpAny_bind (wpAny_bind (wpAny_setState_of ho hd hf ?_))
 unfold setsByText
 refine wpAny_bind (wpAny_bind (wpAny_askSetting (wpAny_pure (wpAny_pure ?_))))
 change wpAny _ _ (if (!w.params.followText "set-order" && (!t.plain && decide (es.size > 1))) = true then _ else _) _ _ _
 by_cases hc : (!w.params.followText "set-order" && (!t.plain && decide (es.size > 1))) = true
 ·rw [if_pos hc]
  refine wpAny_bind (draw_perm es.size (List.range es.size) s _ (by rw [List.length_range]; exact Nat.le_refl _) fun ps d hp => ?_)
  have hl : (ps.map fun p : Nat => rawInt p).length ≤ sizeLine := by rw [List.length_map, hp.length_eq, List.length_range]; exact hsz
  unfold newTuple
  refine wpAny_bind (wpAny_newObj_type ?_ (by first | exact hl | simpa using hl))
  refine wpAny_bind (m := setEpoch a) (wpAny_setEpoch_of (Heap.get?_push_of_some _ ho) hd hf ?_)
  have sz : (s.heap.push { cls := .type "tuple", data := .seq (ps.map fun p : Nat => rawInt p).toArray }).objs.size = s.heap.objs.size + 1 := Heap.size_push ..
  refine wpAny_bind (wpAny_newObj_type (wpAny_pure ⟨_, rfl, "set_iterator", _, ⟨_, Heap.get?_push_size _ rfl, rfl⟩, slot_seti_next.lookup, ?_⟩))
  have z := q2 ps d hp
  rw [← sz] at z
  exact z
 ·rw [if_neg hc]
  refine wpAny_bind (wpAny_pure ?_)
  refine wpAny_bind (m := setEpoch a) (wpAny_setEpoch_of ho hd hf ?_)
  refine wpAny_bind (wpAny_newObj_type (wpAny_pure ⟨_, rfl, "set_iterator", _, ⟨_, Heap.get?_push_size _ rfl, rfl⟩, slot_seti_next.lookup, q1 ?_⟩))
  cases hT : w.params.followText "set-order" with
  | true => exact .inl rfl
  | false =>
   rw [hT] at hc
   exact .inr (Bool.eq_false_iff.mpr hc)
end
end HT
namespace HT
open PySem PyProof.Rows
structure WalkN (prog : Program) (w : World) (A : Around) (I : Addr) (fp : List Addr) (vs : List Value) (St : Nat → Heap → Prop) : Prop where
 inI : I ∈ fp
 frame : ∀ i h h', St i h → (∀ b ∈ fp, ∀ o, h.get? b = some o → h'.get? b = some o) → St i h'
 item : ∀ (i : Nat) (v : Value) (s : Shared) (Q : Option Value → Shared → Prop) (E : Value → Shared → Prop), vs[i]? = some v → St i s.heap → (∀ h', St (i + 1) h' → (∀ b o, b ≠ I → s.heap.get? b = some o → h'.get? b = some o) → Q (some v) { s with heap := h' }) → wpAny (model prog w) A (pyNext (.ref I)) Q E s
 done : ∀ (s : Shared) (Q : Option Value → Shared → Prop) (E : Value → Shared → Prop), St vs.length s.heap → (∀ h', (∀ b o, b ≠ I → s.heap.get? b = some o → h'.get? b = some o) → Q none { s with heap := h' }) → wpAny (model prog w) A (pyNext (.ref I)) Q E s
section
variable {prog : Program} {w : World} {A : Around} {E : Value → Shared → Prop} {s : Shared} {a I S : Addr}
theorem ext_loop {fp : List Addr} {vs : List Value} {St : Nat → Heap → Prop} {R : Result → Shared → Prop} {res : Value} (W : WalkN prog w A.in1 I fp vs St) (nS : S ∉ fp) (hz : vs.length ≤ sizeLine) : ∀ (k i : Nat) (s : Shared) (acc : Array Value) (c : Nat), i + k = vs.length → St i s.heap →
  s.heap.get? S = some { cls := .type "list", dict := none, data := .seq acc c, slots := #[] } → acc.toList = vs.take i →
  (∀ h' acc' c', acc'.toList = vs → h'.get? S = some { cls := .type "list", dict := none, data := .seq acc' c', slots := #[] } → (∀ b o, b ≠ I → b ≠ S → s.heap.get? b = some o → h'.get? b = some o) → R (.ok (.ret res)) { s with heap := h' }) →
  codeAny (model prog w) A (.builtin "list.extend.loop" ⟨[.ref S, .ref I, res], []⟩) R s := by
 have SI : S ≠ I := fun z => nS (by rw [z]; exact W.inI)
 intro k
 induction k with
 | zero =>
  intro i s acc c hi hst hS ha q
  have ei : i = vs.length := by omega
  subst ei
  refine codeAny_builtin F.entry_extend_loop ?_
  rw [Around.under_plainId F.plain_extend_loop _]
  refine wpAny_bind (m := pyNext (.ref I)) (W.done s _ _ hst fun h' kp => ?_)
  exact wpAny_pure (q h' acc c (by rw [ha, List.take_length]) (kp S _ SI hS) fun b o h1 _ h3 => kp b o h1 h3)
 | succ k ih =>
  intro i s acc c hi hst hS ha q
  have hlt : i < vs.length := by omega
  have sza : acc.size = i := by rw [← Array.length_toList, ha, List.length_take]; omega
  refine codeAny_builtin F.entry_extend_loop ?_
  rw [Around.under_plainId F.plain_extend_loop _]
  refine wpAny_bind (m := pyNext (.ref I)) (W.item i vs[i] s _ _ (List.getElem?_eq_getElem hlt) hst fun h1 st1 kp => ?_)
  have hS1 := kp S _ SI hS
  refine wpAny_bind (m := updateSeq S (·.push vs[i])) (wpAny_updateSeq hS1 rfl (wpAny_pure ⟨plainId_quiet F.plain_extend_loop _, ih (i + 1) _ (acc.push vs[i]) _ (by omega) (W.frame _ _ _ st1 fun b hb o h => ?_) (Heap.get?_update_self _ hS1 rfl) ?_ fun h' acc' c' h1' h2' h3' => q h' acc' c' h1' h2' fun b o b1 b2 b3 => h3' b o b1 b2 ?_⟩) (by rw [sza]; omega) (by show (acc.push vs[i]).size ≤ sizeLine + 1; rw [Array.size_push, sza]; omega))
  ·rw [Heap.get?_update_other _ _ (fun z : S = b => nS (by rw [z]; exact hb))]; exact h
  ·rw [Array.toList_push, ha, List.take_add_one, List.getElem?_eq_getElem hlt]; rfl
  ·rw [Heap.get?_update_other _ _ (Ne.symm b2)]; exact kp b o b1 b3
theorem set_hint {Q : Bool → Shared → Prop} (ty : s.TypeIs (.ref a) "set") (q : Q false s) : wpAny (model prog w) A (Builtin.List.listLengthHint (.ref a)) Q E s := by
 unfold Builtin.List.listLengthHint
 refine wpAny_bind (wpAny_specialOf ty PySem.F.slot_set_len.lookup ?_)
 generalize eid : ("set.__len__" : String) = id1
 wp_delta
 rw [show splitId id1 = some ("set", "__len__") from by subst eid; decide +kernel]
 subst eid
 refine wpAny_bind (wpAny_isInstance (T := "set") (b := true) ty (by rw [isSubtype_type]; kernel_rfl) ?_)
 refine wpAny_ite_split (fun z => absurd z (by decide)) (fun _ => ?_)
 refine wpAny_ite_split (fun _ => ?_) (fun z => absurd (by decide +kernel) z)
 exact wpAny_bind (wpAny_typeOf ty (wpAny_pure q))
theorem set_walk {ks : List Int} {Q : Value → Shared → Prop} (hh : A.handled = none) (hS : SetI s.heap a ks (ledW w))
  (q : ∀ (I : Addr) (fp : List Addr) (vs : List Value) (ks' : List Int) (St : Nat → Heap → Prop) (h' : Heap) (d : Drawn), IntsAre vs ks' → ks'.Perm ks → WalkN prog w A I fp vs St → St 0 h' → s.heap.objs.size ≤ I → (∀ b ∈ fp, b < h'.objs.size) → (∀ b ∈ fp, s.heap.objs.size ≤ b ∨ b = a) → (∀ b o, s.heap.get? b = some o → h'.get? b = some o) → Q (.ref I) { s with heap := h', drawn := d }) :
  wpAny (model prog w) A (pyIter (.ref a)) Q E s := by
 obtain ⟨o, es, ep, t, ho, hx, hd, hg, hk, nd, hb, hf, T⟩ := hS
 have la : a < s.heap.objs.size := Heap.lt_size ho
 have allI : ∀ (l : List (Int × Value)), (∀ e ∈ l, GoodE e) → IntsAre (l.map (·.2)) (l.map keyE) := by
  intro l
  induction l with
  | nil => intro _; exact .nil
  | cons e r ih =>
   intro h
   obtain ⟨k, tk, rfl⟩ := h e List.mem_cons_self
   exact .cons k tk (ih fun e he => h e (List.mem_cons_of_mem _ he))
 have szI : ∀ x : Obj, (s.heap.push x).objs.size = s.heap.objs.size + 1 := fun x => Heap.size_push ..
 refine iter_set ho hx hd hf (fun hm => ?_) (fun ps d hp => ?_) (fits_of_scanBound hb)
 ·have fr : ∀ {sl : Nat → Nat} (i : Nat) (h h' : Heap), (h.get? s.heap.objs.size = some (itO (rawInt (sl i)) i es.size ep a) ∧ h.get? a = some o) → (∀ b ∈ [s.heap.objs.size, a], ∀ o, h.get? b = some o → h'.get? b = some o) → (h'.get? s.heap.objs.size = some (itO (rawInt (sl i)) i es.size ep a) ∧ h'.get? a = some o) := fun i h h' st kp => ⟨kp _ (by simp) _ st.1, kp _ (by simp) _ st.2⟩
  have mk : ∀ (sl : Nat → Nat) (l : List (Int × Value)), sl 0 = 0 → l.Perm es.toList →
    (∀ (s1 : Shared) (i : Nat) (v : Value), (l.map (·.2))[i]? = some v → s1.heap.get? a = some o → ∀ (E' : Value → Shared → Prop) (Q' : Option (Value × Nat) → Shared → Prop), Q' (some (v, sl (i + 1))) s1 → wpAny (model prog w) A.in1 (setNext a (sl i) i ep) Q' E' s1) →
    (∀ (s1 : Shared), s1.heap.get? a = some o → ∀ (E' : Value → Shared → Prop) (Q' : Option (Value × Nat) → Shared → Prop), Q' none s1 → wpAny (model prog w) A.in1 (setNext a (sl l.length) l.length ep) Q' E' s1) →
    Q (.ref s.heap.objs.size) { s with heap := s.heap.push (itO (rawInt 0) 0 es.size ep a) } := by
   intro sl l h0 hp h1 h2
   refine q s.heap.objs.size [s.heap.objs.size, a] (l.map (·.2)) (l.map keyE) (fun i h => h.get? s.heap.objs.size = some (itO (rawInt (sl i)) i es.size ep a) ∧ h.get? a = some o) _ s.drawn (allI l fun e he => hg e (hp.mem_iff.mp he)) (by rw [← hk]; exact hp.map keyE) ⟨by simp, fr, fun i v s1 Q' E' hv st q' => ?_, fun s1 Q' E' st q' => ?_⟩
    ⟨by rw [h0]; exact Heap.get?_push_size _ rfl, Heap.get?_push_of_some _ ho⟩ (Nat.le_refl _) (fun b hb' => ?_) (fun b hb' => ?_) (fun b ob e => Heap.get?_push_of_some _ e)
   ·refine seti_item st.1 st.2 hd hf rfl (fun E' Q'' z => h1 s1 i v hv st.2 E' Q'' z) fun h' e' sb => q' h' ⟨e', ?_⟩ fun b ob hb' e => sb.extBut b ob hb' e
    exact sb.extBut a o (Nat.ne_of_lt la) st.2
   ·have st2 := st
    rw [List.length_map] at st2
    exact seti_end hh st2.1 st2.2 hd hf rfl (fun E' Q'' z => h2 s1 st2.2 E' Q'' z) fun h' eb => q' h' fun b ob hb' e => eb b ob hb' e
   ·rw [szI]
    rcases List.mem_cons.mp hb' with z | z
    ·rw [z]; exact Nat.lt_succ_self _
    ·rw [List.mem_singleton.mp z]; exact Nat.lt_succ_of_lt la
   ·rcases List.mem_cons.mp hb' with z | z
    ·exact .inl (by rw [z]; exact Nat.le_refl _)
    ·exact .inr (List.mem_singleton.mp z)
  cases hT : w.params.followText "set-order" with
  | true =>
   refine mk (fun _ => 0) (pickOrder (w.params.setOrder a ep) es).toList rfl (pick_perm _ _) (fun s1 i v hv e1 E' Q' z => ?_) (fun s1 e1 E' Q' z => ?_)
   ·refine next_text e1 hd hf hT ?_
    rw [List.getElem?_map] at hv
    cases he : (pickOrder (w.params.setOrder a ep) es).toList[i]? with
    | none => rw [he] at hv; cases hv
    | some x =>
     rw [he] at hv
     have he' : (pickOrder (w.params.setOrder a ep) es)[i]? = some x := by rw [← Array.getElem?_toList]; exact he
     rw [he']
     cases hv
     exact z
   ·refine next_text e1 hd hf hT ?_
    have he' : (pickOrder (w.params.setOrder a ep) es)[(pickOrder (w.params.setOrder a ep) es).toList.length]? = none := by rw [← Array.getElem?_toList]; exact List.getElem?_eq_none (Nat.le_refl _)
    rw [he']
    exact z
  | false =>
   have hp : (!t.plain && decide (es.size > 1)) = false := by
    rcases hm with z | z
    ·rw [hT] at z; cases z
    ·exact z
   have hl : t.led = true := by rw [T.led]; unfold ledW; rw [hT]; rfl
   have psz : t.place.size = es.size := by
    have := hf
    simp only [SetTable.fits, Bool.and_eq_true, beq_iff_eq] at this
    exact this.1
   refine mk (slotAt t.place) es.toList rfl (List.Perm.refl _) (fun s1 i v hv e1 E' Q' z => ?_) (fun s1 e1 E' Q' z => ?_)
   ·refine next_led e1 hd hf hT hl hp ?_
    rw [List.getElem?_map] at hv
    cases he : es.toList[i]? with
    | none => rw [he] at hv; cases hv
    | some x =>
     rw [he] at hv
     have hi : i < es.size := by
      have := (List.getElem?_eq_some_iff.mp he).1
      rw [Array.length_toList] at this
      exact this
     have he' : es[i]? = some x := by rw [← Array.getElem?_toList]; exact he
     rw [slotAt_below T.up (by omega), he', Array.getElem?_eq_getElem (by omega)]
     cases hv
     have e2 : slotAt t.place (i + 1) = t.place[i] + 1 := by
      unfold slotAt
      rw [if_neg (Nat.succ_ne_zero _), Nat.add_sub_cancel, Array.getD_eq_getD_getElem?, Array.getElem?_eq_getElem (by omega)]
      rfl
     rw [e2] at z
     exact z
   ·refine next_led e1 hd hf hT hl hp ?_
    rw [Array.length_toList, slotAt_below T.up (by omega)]
    have he' : es[es.size]? = none := Array.getElem?_eq_none (Nat.le_refl _)
    rw [he']
    exact z
 ·have psl : ps.length = es.size := by rw [hp.length_eq, List.length_range]
  have at_ : ∀ {i p : Nat}, ps[i]? = some p → p < es.size := fun h => List.mem_range.mp (hp.mem_iff.mp (List.mem_of_getElem? h))
  have lsp : (ps.filterMap fun p => es[p]?).Perm es.toList := (hp.filterMap _).trans (by rw [filterMap_getElem?_range])
  have lat : ∀ (i : Nat), (ps.filterMap fun p => es[p]?)[i]? = (ps[i]?).bind fun p => es[p]? := by
   have key : ∀ (ps : List Nat), (∀ p ∈ ps, p < es.size) → ∀ i : Nat, (ps.filterMap fun p => es[p]?)[i]? = (ps[i]?).bind fun p => es[p]? := by
    intro ps
    induction ps with
    | nil => intro _ i; rfl
    | cons p r ih =>
     intro h i
     have hpl := h p List.mem_cons_self
     rw [List.filterMap_cons, Array.getElem?_eq_getElem hpl]
     cases i with
     | zero => show some es[p] = es[p]?; rw [Array.getElem?_eq_getElem hpl]
     | succ i => exact ih (fun x hx => h x (List.mem_cons_of_mem _ hx)) i
   exact key ps fun p h => List.mem_range.mp (hp.mem_iff.mp h)
  have tl : (s.heap.push { cls := .type "tuple", data := .seq (ps.map fun p : Nat => rawInt p).toArray }).get? s.heap.objs.size = some { cls := .type "tuple", data := .seq (ps.map fun p : Nat => rawInt p).toArray } := Heap.get?_push_size _ rfl
  refine q (s.heap.objs.size + 1) [s.heap.objs.size + 1, s.heap.objs.size, a] ((ps.filterMap fun p => es[p]?).map (·.2)) ((ps.filterMap fun p => es[p]?).map keyE)
   (fun i h => h.get? (s.heap.objs.size + 1) = some (itO (.ref s.heap.objs.size) i es.size ep a) ∧ h.get? s.heap.objs.size = some { cls := .type "tuple", data := .seq (ps.map fun p : Nat => rawInt p).toArray } ∧ h.get? a = some o) _ d
   (allI _ fun e he => hg e (lsp.mem_iff.mp he)) (by rw [← hk]; exact lsp.map keyE) ⟨by simp, fun i h h' st kp => ⟨kp _ (by simp) _ st.1, kp _ (by simp) _ st.2.1, kp _ (by simp) _ st.2.2⟩, fun i v s1 Q' E' hv st q' => ?_, fun s1 Q' E' st q' => ?_⟩
   ⟨by rw [← szI { cls := .type "tuple", data := .seq (ps.map fun p : Nat => rawInt p).toArray }]; exact Heap.get?_push_size _ rfl, Heap.get?_push_of_some _ tl, Heap.get?_push_of_some _ (Heap.get?_push_of_some _ ho)⟩ (Nat.le_succ _) (fun b hb' => ?_) (fun b hb' => ?_) (fun b ob e => Heap.get?_push_of_some _ (Heap.get?_push_of_some _ e))
  ·rw [List.getElem?_map, lat i] at hv
   cases hpi : ps[i]? with
   | none => rw [hpi] at hv; cases hv
   | some p =>
    rw [hpi] at hv
    have hv' : (es[p]?).map (·.2) = some v := hv
    rw [Array.getElem?_eq_getElem (at_ hpi)] at hv'
    cases hv'
    refine setd_item st.1 ⟨_, st.2.1, rfl, 0, rfl⟩ st.2.2 hd hf rfl hpi (Array.getElem?_eq_getElem (at_ hpi)) fun h' e' sb => q' h' ⟨e', ?_, ?_⟩ fun b ob hb' e => sb.extBut b ob hb' e
    ·exact sb.extBut _ _ (Nat.ne_of_lt (Nat.lt_succ_self _)) st.2.1
    ·exact sb.extBut a o (Nat.ne_of_lt (Nat.lt_succ_of_lt la)) st.2.2
  ·have ln : ((ps.filterMap fun p => es[p]?).map (·.2)).length = ps.length := by rw [List.length_map, lsp.length_eq, Array.length_toList, psl]
   have st2 := st
   rw [ln] at st2
   exact setd_end hh st2.1 ⟨_, st2.2.1, rfl, 0, rfl⟩ st2.2.2 hd hf rfl (List.getElem?_eq_none (Nat.le_refl _)) fun h' eb => q' h' fun b ob hb' e => eb b ob hb' e
  ·rw [Heap.size_push, szI]
   rcases List.mem_cons.mp hb' with z | z
   ·rw [z]; exact Nat.lt_succ_self _
   ·rcases List.mem_cons.mp z with z | z
    ·rw [z]; exact Nat.lt_succ_of_lt (Nat.lt_succ_self _)
    ·rw [List.mem_singleton.mp z]; exact Nat.lt_succ_of_lt (Nat.lt_succ_of_lt la)
  ·rcases List.mem_cons.mp hb' with z | z
   ·exact .inl (by rw [z]; exact Nat.le_succ _)
   ·rcases List.mem_cons.mp z with z | z
    ·exact .inl (by rw [z]; exact Nat.le_refl _)
    ·exact .inr (List.mem_singleton.mp z)
end
end HT
namespace HT
open PySem PyProof.Rows
section
variable {prog : Program} {w : World} {A : Around} {E : Value → Shared → Prop} {s : Shared} {a : Addr}
theorem collect_set {ks : List Int} {R : List Value → Shared → Prop} (hh : A.handled = none) (hS : SetI s.heap a ks (ledW w)) (hz : ks.length ≤ sizeLine)
  (q : ∀ (vs : List Value) (ks' : List Int) (h' : Heap) (d : Drawn), IntsAre vs ks' → ks'.Perm ks → (∀ b o, s.heap.get? b = some o → h'.get? b = some o) → R vs { s with heap := h', drawn := d }) : wpAny (model prog w) A (collect (.ref a)) R E s := by
 have la : a < s.heap.objs.size := by obtain ⟨o, _, _, _, ho, _⟩ := hS; exact Heap.lt_size ho
 unfold collect
 refine wpAny_bind (wpAny_runValue (codeAny_builtin F.entry_proto_collect ?_))
 rw [Around.under_plainId F.plain_proto_collect _]
 refine wpAny_bind (m := newList []) (wpAny_newObj_type ?_)
 refine wpAny_pure ⟨plainId_quiet F.plain_list_iadd _, codeAny_builtin F.entry_list_iadd ?_⟩
 rw [Around.under_plainId F.plain_list_iadd _]
 have e1 : (s.heap.push { cls := .type "list", data := .seq ([] : List Value).toArray }).get? s.heap.objs.size = some { cls := .type "list", dict := none, data := .seq #[] 0, slots := #[] } := Heap.get?_push_size _ rfl
 have sz1 : (s.heap.push { cls := .type "list", data := .seq ([] : List Value).toArray }).objs.size = s.heap.objs.size + 1 := Heap.size_push ..
 have hS1 : SetI (s.heap.push { cls := .type "list", data := .seq ([] : List Value).toArray }) a ks (ledW w) := by
  obtain ⟨o, es, ep, t, ho, r⟩ := hS
  exact ⟨o, es, ep, t, Heap.get?_push_of_some _ ho, r⟩
 have ty : Shared.TypeIs { s with heap := s.heap.push { cls := .type "list", data := .seq ([] : List Value).toArray } } (.ref a) "set" := by
  obtain ⟨o, es, ep, t, ho, hx, _⟩ := hS1
  exact ⟨o, ho, hx.1⟩
 change wpAny _ A.in1 (Builtin.List.listExtendWith (.ref s.heap.objs.size) (.ref a) (.ref s.heap.objs.size)) _ _ _
 unfold Builtin.List.listExtendWith
 refine wpAny_bind (wpAny_typeOf ty ?_)
 have c1 : Builtin.List.listSameRef (.ref s.heap.objs.size) (.ref a) = false := by simp [Builtin.List.listSameRef, Nat.ne_of_gt la]
 have c2 : (Value.type "set" == Value.type "list") = false := by decide
 have c3 : (Value.type "set" == Value.type "tuple") = false := by decide
 simp only [c1, c2, c3, Bool.or_false, Bool.false_eq_true, if_false]
 refine wpAny_bind (set_walk (A := A.in1) (s := { s with heap := s.heap.push { cls := .type "list", data := .seq ([] : List Value).toArray } }) hh hS1 fun I fp vs ks' St h2 d hi hp W st hI hlt hfp kp => ?_)
 have e2 := kp _ _ e1
 have nS : s.heap.objs.size ∉ fp := fun z => by
  rcases hfp _ z with y | y
  ·have y' : s.heap.objs.size + 1 ≤ s.heap.objs.size := by rw [← sz1]; exact y
   exact absurd y' (Nat.not_succ_le_self _)
  ·exact absurd y (Nat.ne_of_gt la)
 have hvl : vs.length ≤ sizeLine := by rw [hi.length, hp.length_eq]; exact hz
 have ty2 : Shared.TypeIs { s with heap := h2, drawn := d } (.ref a) "set" := by
  obtain ⟨o, es, ep, t, ho, hx, _⟩ := hS1
  exact ⟨o, kp _ _ ho, hx.1⟩
 have fin : ∀ (h3 : Heap) (c : Nat), St 0 h3 → h3.get? s.heap.objs.size = some { cls := .type "list", dict := none, data := .seq #[] c, slots := #[] } → (∀ b o, b ≠ s.heap.objs.size → h2.get? b = some o → h3.get? b = some o) →
   codeAny (model prog w) A (.builtin "list.extend.loop" ⟨[.ref s.heap.objs.size, .ref I, .ref s.heap.objs.size], []⟩) (fun r s' => match r with | .ok (.ret v) => wpAny (model prog w) A (match v with | .ref a => (do match (← load a).data with | .seq xs _ => pure xs.toList | _ => unsupported "internal:collect") | _ => unsupported "internal:collect") R E s' | .ok _ => False | .error e => E e s') { s with heap := h3, drawn := d } := by
  intro h3 c st3 e3 k3
  refine ext_loop W nS hvl vs.length 0 _ #[] c (Nat.zero_add _) st3 e3 rfl fun h' acc c' ha e' k' => ?_
  refine wpAny_bind (wpAny_load e' (wpAny_pure ?_))
  rw [ha]
  refine q vs ks' h' d hi hp fun b o hb => ?_
  have lb := Heap.lt_size hb
  have nb : b ≠ s.heap.objs.size := Nat.ne_of_lt lb
  have nI : b ≠ I := fun z => by
   have y : s.heap.objs.size + 1 ≤ I := by rw [← sz1]; exact hI
   rw [← z] at y
   exact absurd (Nat.lt_of_lt_of_le (Nat.lt_succ_self _) y) (Nat.lt_asymm lb)
  exact k' b o nI nb (k3 b o nb (kp b o (Heap.get?_push_of_some _ hb)))
 refine wpAny_bind (wpAny_holding (set_hint ty2 ?_))
 refine wpAny_ite_split (fun _ => ?_) (fun _ => wpAny_pure ⟨plainId_quiet F.plain_extend_loop _, fin h2 0 st e2 fun b o _ e => e⟩)
 refine wpAny_bind (wpAny_rule ?_)
 refine wpAny_bind ?_
 change wpAny _ _ (updateSeq s.heap.objs.size (·.push .none) >>= fun _ => updateSeq s.heap.objs.size (·.pop)) _ _ _
 refine wpAny_bind (wpAny_updateSeq e2 rfl ?_)
 have e3 := Heap.get?_update_self (Obj.mapSeq (·.push Value.none)) e2 rfl
 refine wpAny_updateSeq (hz := by seq_fits) e3 rfl ?_
 have e4 := Heap.get?_update_self (Obj.mapSeq (·.pop)) e3 rfl
 refine wpAny_pure ⟨plainId_quiet F.plain_extend_loop _, fin _ _ (W.frame 0 _ _ st fun b hb o e => ?_) e4 fun b o hb e => ?_⟩
 ·have nb : s.heap.objs.size ≠ b := fun z => nS (by rw [z]; exact hb)
  rw [Heap.get?_update_other _ _ nb, Heap.get?_update_other _ _ nb]; exact e
 ·rw [Heap.get?_update_other _ _ (Ne.symm hb), Heap.get?_update_other _ _ (Ne.symm hb)]; exact e
end
end HT
namespace L2
open PySem PySem.Spec PyProof.Rows
section
variable {X : Cx}
theorem sub_lenI : ∀ {xs ys : List Int}, xs.Nodup → (∀ x ∈ xs, x ∈ ys) → xs.length ≤ ys.length
 | [], _, _, _ => Nat.zero_le _
 | x :: xs, ys, nd, h => by
  obtain ⟨h1, nd'⟩ := List.nodup_cons.mp nd
  have hx := h x List.mem_cons_self
  have ih := sub_lenI (ys := ys.erase x) nd' fun y hy => (List.mem_erase_of_ne (fun e : y = x => h1 (e ▸ hy))).mpr (h y (List.mem_cons_of_mem _ hy))
  rw [List.length_erase_of_mem hx] at ih
  have : 0 < ys.length := List.length_pos_of_mem hx
  rw [List.length_cons]
  omega
def tSortSet (K : PySem.W.Frag) (te : TE) : TE := fun σ H Q => te σ H fun x H1 => ∃ (p : Addr) (ns : List Int), x = .ref p ∧ SqL K H1 p (ns.map V.int) ∧ ns.length < 64 ∧
 ∀ (l : Addr) (ys : List Int), H1 l = none → ys.Pairwise (· < ·) → (∀ y, y ∈ ys ↔ y ∈ ns) → Q (.ref l) (upd H1 l (.lst (ys.map V.int)))
theorem boot_set : bootBuiltins "set" = some (.type "set") := by decide +kernel
theorem pe_sortSet {e : Expr} {te : TE} {p1 p2 pos pos2 : Pos} (hcalm : X.calm = true) (hg1 : Gl X "sorted") (hm1 : X.mg "sorted" = none) (hg2 : Gl X "set") (hm2 : X.mg "set" = none) (he : PE X e te) (hs : starEach (e :: []) X.env = (false, eval e X.env) :: starEach [] X.env := by rfl)
  (hs2 : starEach ((.Call (.Name "set" p2) [e] [] pos2) :: []) X.env = (false, eval (.Call (.Name "set" p2) [e] [] pos2) X.env) :: starEach [] X.env := by rfl) :
  PE X (.Call (.Name "sorted" p1) [.Call (.Name "set" p2) [e] [] pos2] [] pos) (tSortSet X.K te) := by
 intro pins s σ H Q I h
 refine wpAny_Call_Name_kw (ld_blt I hg1 hm1 boot_sorted ?_)
 refine PyProof.Rows.callWith_builtin1 ?_ hs2 rfl
 rw [hs2]
 show wpAny _ _ (spliced ((false, eval (.Call (.Name "set" p2) [e] [] pos2) X.env) :: backTo pos (starEach [] X.env))) _ _ s
 refine Calls.spliced_cons ?_
 refine wpAny_Call_Name_kw (ld_blt I hg2 hm2 boot_set ?_)
 refine PyProof.Rows.callWith_type1 ?_ hs rfl
 rw [hs]
 show wpAny _ _ (spliced ((false, eval e X.env) :: backTo pos2 (starEach [] X.env))) _ _ s
 refine Calls.spliced_cons (thn (he pins s σ H _ I h) fun u s1 ⟨x, H1, I1, r1, q1⟩ => Calls.spliced_nil ?_)
 obtain ⟨p, ns, rfl, hq, h64, q⟩ := q1
 cases r1
 obtain ⟨its, rv, pl, hz⟩ := I1.list hq
 have hi := vals_intsAre rv
 have hlen : its.length = ns.length := hi.length
 refine HT.call_setI (I1.ok.hd hcalm) pl.isList (by simpa using hi) (fun ks nd m => by have := sub_lenI nd m; unfold scanBound; omega) fun h2 tk ks S m kp => Calls.spliced_nil ?_
 have ks64 : ks.length < 64 := by
  obtain ⟨_, _, _, _, _, _, _, _, _, nd, _⟩ := S
  exact Nat.lt_of_le_of_lt (sub_lenI nd fun x hx => (m x).mp hx) h64
 have I2 : Inv X pins σ H1 { s1 with heap := h2, toks := tk } := I1.kept fun b o e => kp b o (Heap.lt_size e) e
 refine Calls.call_function_entry kind_sorted plain_sorted entry_sorted (args_sorted1 _) ?_
 unfold Builtin.«sorted»
 refine wpAny_bind (m := checkCount "sorted" 1 1 _) (wpAny_pure ?_)
 refine wpAny_bind (HT.collect_set (I2.ok.hd hcalm) S (Nat.le_trans (Nat.le_of_lt ks64) (by decide)) fun vs ks' h3 d hv hp k3 => ?_)
 have I3 : Inv X pins σ H1 { s1 with heap := h3, toks := tk, drawn := d } := by
  have I3' : Inv X pins σ H1 { s1 with heap := h3, toks := tk } := I2.kept (t' := tk) k3
  exact ⟨I3'.ok, I3'.os, I3'.bare, I3'.base, I3'.loc, I3'.cell, I3'.free, I3'.freeC, I3'.pin, I3'.hok, I3'.len⟩
 have lv : vs.length = ks.length := by rw [hv.length, hp.length_eq]
 refine wpAny_bind (wpAny_newList ?_ (by rw [lv]; exact Nat.le_trans (Nat.le_of_lt ks64) (by decide)))
 have oL : (h3.push (seqObj "list" vs.toArray 0)).get? h3.objs.size = some (seqObj "list" vs.toArray 0) := Heap.get?_push_size _ rfl
 refine wpAny_bind (wpAny_holding (wpAny_call_entry slot_list_sort ⟨_, oL, rfl⟩ entry_list_sort (list_sort_tree oL hv (by rw [lv]; exact ks64) fun out ys a1 a2 a3 => ⟨_, rfl, ?_⟩) (args_list_sort _)))
 obtain ⟨ee, he'⟩ := sortedHeap_at (out := out) oL
 have sz : (h3.push (seqObj "list" vs.toArray 0)).objs.size = h3.objs.size + 1 := Heap.size_push ..
 have up : ys.Pairwise (· < ·) := by
  have nd : ys.Nodup := by
   obtain ⟨_, _, _, _, _, _, _, _, _, nd, _⟩ := S
   exact (a2.trans hp).nodup_iff.mpr nd
  refine List.Pairwise.imp₂ (fun a b h1 h2 => ?_) a3 nd
  rcases Int.lt_or_eq_of_le h1 with z | z
  ·exact z
  ·exact absurd z h2
 refine wpAny_pure ⟨_, rfl, .ref h3.objs.size, _, I3.laid (t' := tk) (fun b o eb => ?_) (Nat.le_refl _) (show ObjOk X.prog X.w _ _ _ (.lst (ys.map V.int)) from ⟨?_, out.toList, ee, intsAre_vals a1, by simpa using he'⟩), rfl, q _ ys (I3.hok.fresh (Nat.le_refl _)) up fun y => ?_⟩
 ·have hb : b < h3.objs.size := Heap.lt_size eb
  exact (sortedHeap_old (Nat.ne_of_lt hb) (by rw [sz]; exact Nat.lt_succ_of_lt hb)).trans (Heap.get?_push_of_some _ eb)
 ·rw [List.length_map, a2.length_eq, hp.length_eq]
  exact Nat.le_trans (Nat.le_of_lt ks64) (by decide)
 ·rw [(a2.trans hp).mem_iff, m y]
def tSortSetW (K : PySem.W.Frag) (te : TE) : TE := fun σ H Q => te σ H fun x H1 => ∃ (p : Addr) (ns ms : List Int), x = .ref p ∧ SqL K H1 p (ns.map V.int) ∧ (∀ y ∈ ns, y ∈ ms) ∧ ms.length < 64 ∧
 ∀ (l : Addr) (ys : List Int), H1 l = none → ys.Pairwise (· < ·) → (∀ y, y ∈ ys ↔ y ∈ ns) → Q (.ref l) (upd H1 l (.lst (ys.map V.int)))
theorem pe_sortSetW {e : Expr} {te : TE} {p1 p2 pos pos2 : Pos} (hcalm : X.calm = true) (hg1 : Gl X "sorted") (hm1 : X.mg "sorted" = none) (hg2 : Gl X "set") (hm2 : X.mg "set" = none) (he : PE X e te) (hs : starEach (e :: []) X.env = (false, eval e X.env) :: starEach [] X.env := by rfl)
  (hs2 : starEach ((.Call (.Name "set" p2) [e] [] pos2) :: []) X.env = (false, eval (.Call (.Name "set" p2) [e] [] pos2) X.env) :: starEach [] X.env := by rfl) :
  PE X (.Call (.Name "sorted" p1) [.Call (.Name "set" p2) [e] [] pos2] [] pos) (tSortSetW X.K te) := by
 intro pins s σ H Q I h
 refine wpAny_Call_Name_kw (ld_blt I hg1 hm1 boot_sorted ?_)
 refine PyProof.Rows.callWith_builtin1 ?_ hs2 rfl
 rw [hs2]
 show wpAny _ _ (spliced ((false, eval (.Call (.Name "set" p2) [e] [] pos2) X.env) :: backTo pos (starEach [] X.env))) _ _ s
 refine Calls.spliced_cons ?_
 refine wpAny_Call_Name_kw (ld_blt I hg2 hm2 boot_set ?_)
 refine PyProof.Rows.callWith_type1 ?_ hs rfl
 rw [hs]
 show wpAny _ _ (spliced ((false, eval e X.env) :: backTo pos2 (starEach [] X.env))) _ _ s
 refine Calls.spliced_cons (thn (he pins s σ H _ I h) fun u s1 ⟨x, H1, I1, r1, q1⟩ => Calls.spliced_nil ?_)
 obtain ⟨p, ns, ms, rfl, hq, few, h64, q⟩ := q1
 cases r1
 obtain ⟨its, rv, pl, hz⟩ := I1.list hq
 have hi := vals_intsAre rv
 have hlen : its.length = ns.length := hi.length
 refine HT.call_setI (I1.ok.hd hcalm) pl.isList (by simpa using hi) (fun ks nd m => by have := sub_lenI nd (fun x hx => few x (m x hx)); unfold scanBound; omega) fun h2 tk ks S m kp => Calls.spliced_nil ?_
 have ks64 : ks.length < 64 := by
  obtain ⟨_, _, _, _, _, _, _, _, _, nd, _⟩ := S
  exact Nat.lt_of_le_of_lt (sub_lenI nd fun x hx => few x ((m x).mp hx)) h64
 have I2 : Inv X pins σ H1 { s1 with heap := h2, toks := tk } := I1.kept fun b o e => kp b o (Heap.lt_size e) e
 refine Calls.call_function_entry kind_sorted plain_sorted entry_sorted (args_sorted1 _) ?_
 unfold Builtin.«sorted»
 refine wpAny_bind (m := checkCount "sorted" 1 1 _) (wpAny_pure ?_)
 refine wpAny_bind (HT.collect_set (I2.ok.hd hcalm) S (Nat.le_trans (Nat.le_of_lt ks64) (by decide)) fun vs ks' h3 d hv hp k3 => ?_)
 have I3 : Inv X pins σ H1 { s1 with heap := h3, toks := tk, drawn := d } := by
  have I3' : Inv X pins σ H1 { s1 with heap := h3, toks := tk } := I2.kept (t' := tk) k3
  exact ⟨I3'.ok, I3'.os, I3'.bare, I3'.base, I3'.loc, I3'.cell, I3'.free, I3'.freeC, I3'.pin, I3'.hok, I3'.len⟩
 have lv : vs.length = ks.length := by rw [hv.length, hp.length_eq]
 refine wpAny_bind (wpAny_newList ?_ (by rw [lv]; exact Nat.le_trans (Nat.le_of_lt ks64) (by decide)))
 have oL : (h3.push (seqObj "list" vs.toArray 0)).get? h3.objs.size = some (seqObj "list" vs.toArray 0) := Heap.get?_push_size _ rfl
 refine wpAny_bind (wpAny_holding (wpAny_call_entry slot_list_sort ⟨_, oL, rfl⟩ entry_list_sort (list_sort_tree oL hv (by rw [lv]; exact ks64) fun out ys a1 a2 a3 => ⟨_, rfl, ?_⟩) (args_list_sort _)))
 obtain ⟨ee, he'⟩ := sortedHeap_at (out := out) oL
 have sz : (h3.push (seqObj "list" vs.toArray 0)).objs.size = h3.objs.size + 1 := Heap.size_push ..
 have up : ys.Pairwise (· < ·) := by
  have nd : ys.Nodup := by
   obtain ⟨_, _, _, _, _, _, _, _, _, nd, _⟩ := S
   exact (a2.trans hp).nodup_iff.mpr nd
  refine List.Pairwise.imp₂ (fun a b h1 h2 => ?_) a3 nd
  rcases Int.lt_or_eq_of_le h1 with z | z
  ·exact z
  ·exact absurd z h2
 refine wpAny_pure ⟨_, rfl, .ref h3.objs.size, _, I3.laid (t' := tk) (fun b o eb => ?_) (Nat.le_refl _) (show ObjOk X.prog X.w _ _ _ (.lst (ys.map V.int)) from ⟨?_, out.toList, ee, intsAre_vals a1, by simpa using he'⟩), rfl, q _ ys (I3.hok.fresh (Nat.le_refl _)) up fun y => ?_⟩
 ·have hb : b < h3.objs.size := Heap.lt_size eb
  exact (sortedHeap_old (Nat.ne_of_lt hb) (by rw [sz]; exact Nat.lt_succ_of_lt hb)).trans (Heap.get?_push_of_some _ eb)
 ·rw [List.length_map, a2.length_eq, hp.length_eq]
  exact Nat.le_trans (Nat.le_of_lt ks64) (by decide)
 ·rw [(a2.trans hp).mem_iff, m y]
end
end L2
namespace L2
open PySem PySem.Spec PyProof.Rows
section
variable {X : Cx}
theorem op_fdivB : OpR X (binaryOp .FloorDiv) (rI (fun _ j => 0 < j ∧ j < 2 ^ 100) fun i j => .int (i / j)) := opI fun i j _ _ _ _ _ hc q => by
 have h1 : 0 < j := hc.1
 have h2 : j < 2 ^ 100 := hc.2
 refine floordiv_int (by omega) (by rw [Int.fdiv_eq_ediv_of_nonneg i (by omega)]; exact q) (.inl (PyProof.noPylong_of_log2 ((Nat.log2_lt (by omega)).mpr ?_)))
 exact Nat.lt_of_lt_of_le (by omega : j.natAbs < 2 ^ 100) (Nat.pow_le_pow_right (by decide) (by decide))
end
end L2
namespace HT
open PySem PyProof.Rows
section
variable {prog : Program} {w : World} {A : Around} {E : Value → Shared → Prop} {s : Shared} {I l : Addr} {items : Array Value}
theorem rev_walk (hh : A.handled = none) (ne : l ≠ I) : WalkN prog w A I [I, l] items.toList.reverse (fun i h => h.IsRevIter I l ((items.size : Int) - 1 - (i : Int)) ∧ h.IsList l items) where
 inI := List.mem_cons_self
 frame := fun i h h' x k => ⟨x.1.at (k I List.mem_cons_self), let ⟨o, e, r⟩ := x.2; ⟨o, k l (List.mem_cons_of_mem _ List.mem_cons_self) o e, r⟩⟩
 item := fun i v s Q E hv x q => by
  have hi := (List.getElem?_eq_some_iff.mp hv).1
  rw [List.length_reverse, Array.length_toList] at hi
  rw [List.getElem?_reverse (by rw [Array.length_toList]; exact hi), Array.length_toList, Array.getElem?_toList] at hv
  obtain ⟨j, ej⟩ : ∃ j, j = items.size - 1 - i := ⟨_, rfl⟩
  rw [← ej] at hv
  have x1 := x.1
  rw [show (items.size : Int) - 1 - (i : Int) = (j : Int) by omega] at x1
  refine wpAny_pyNext_rev_item x1 x.2 hv fun h' y sb => q h' ⟨?_, ?_⟩ fun b o hb e => (sb.2 b hb).trans e
  ·rw [show (items.size : Int) - 1 - ((i + 1 : Nat) : Int) = (j : Int) - 1 by omega]
   exact y
  ·obtain ⟨o, e, r⟩ := x.2
   exact ⟨o, (sb.2 l ne).trans e, r⟩
 done := fun s Q E x q => by
  have x1 := x.1
  rw [List.length_reverse, Array.length_toList, show (items.size : Int) - 1 - ((items.size : Nat) : Int) = -1 by omega] at x1
  exact wpAny_pyNext_rev_end hh x1 fun h' eb => q h' fun b o hb e => eb b o hb e
theorem rev_hint {i : Int} {Q : Bool → Shared → Prop} (ty : s.TypeIs (.ref I) "list_reverseiterator") (q : Q false s) : wpAny (model prog w) A (Builtin.List.listLengthHint (.ref I)) Q E s := by
 unfold Builtin.List.listLengthHint
 refine wpAny_bind (wpAny_specialOf (r := none) ty (by rw [typeLookup_type, builtinLookup_eq_fast]; kernel_rfl) ?_)
 wp_delta
 refine wpAny_ite_split (fun z => absurd z (by decide)) (fun _ => ?_)
 refine wpAny_ite_split (fun z => absurd z (by decide)) (fun _ => ?_)
 refine wpAny_bind (wpAny_specialOf (r := some (.builtin "list_reverseiterator.__length_hint__")) ty (by rw [typeLookup_type, builtinLookup_eq_fast]; kernel_rfl) ?_)
 generalize eid : ("list_reverseiterator.__length_hint__" : String) = id1
 wp_delta
 rw [show splitId id1 = some ("list_reverseiterator", "__length_hint__") from by subst eid; decide +kernel]
 subst eid
 refine wpAny_bind (wpAny_isInstance (T := "list_reverseiterator") (b := true) ty (by rw [isSubtype_type]; kernel_rfl) ?_)
 refine wpAny_ite_split (fun z => absurd z (by decide)) (fun _ => ?_)
 refine wpAny_ite_split (fun _ => ?_) (fun z => absurd (by decide +kernel) z)
 refine wpAny_ite_split (fun z => absurd z (by decide +kernel)) (fun _ => ?_)
 exact wpAny_pure q
theorem rev_fill {R : Result → Shared → Prop} {S : Addr} {res : Value} {c : Nat} (hh : A.handled = none) (hS : s.heap.get? S = some { cls := .type "list", dict := none, data := .seq #[] c, slots := #[] }) (hit : s.heap.IsRevIter I l ((items.size : Int) - 1)) (hl : s.heap.IsList l items) (ne : l ≠ I) (SI : S ≠ I) (Sl : S ≠ l) (hz : items.size ≤ sizeLine)
  (q : ∀ h' acc' c', acc'.toList = items.toList.reverse → h'.get? S = some { cls := .type "list", dict := none, data := .seq acc' c', slots := #[] } → (∀ b o, b ≠ I → b ≠ S → s.heap.get? b = some o → h'.get? b = some o) → R (.ok (.ret res)) { s with heap := h' }) :
  wpAny (model prog w) A.in1 (Builtin.List.listExtendWith (.ref S) (.ref I) res)
   (fun fin s' => match fin with | .done f => R (.ok f) s' | .again c' => c'.quiet = true ∧ codeAny (model prog w) A c' R s') (fun e s' => R (.error e) s') s := by
 have ty : s.TypeIs (.ref I) "list_reverseiterator" := hit.typeIs
 unfold Builtin.List.listExtendWith
 refine wpAny_bind (wpAny_typeOf (T := "list_reverseiterator") ty ?_)
 have n1 : Builtin.List.listSameRef (.ref S) (.ref I) = false := by simp [Builtin.List.listSameRef, SI]
 have n2 : (Value.type "list_reverseiterator" == Value.type "list") = false := by decide
 have n3 : (Value.type "list_reverseiterator" == Value.type "tuple") = false := by decide
 simp only [n1, n2, n3, Bool.or_false, Bool.false_eq_true, if_false]
 refine wpAny_bind (wpAny_pyIter_revIter hit ?_)
 refine wpAny_bind (wpAny_holding (rev_hint (i := 0) ty ?_))
 refine wpAny_ite_split (fun z => absurd z (by decide)) (fun _ => wpAny_pure ⟨plainId_quiet F.plain_extend_loop _, ?_⟩)
 have W := rev_walk (prog := prog) (w := w) (A := A.in1) (items := items) hh ne
 refine ext_loop W (fun z => ?_) (by rw [List.length_reverse, Array.length_toList]; exact hz) _ 0 s #[] c (Nat.zero_add _) ⟨by simpa using hit, hl⟩ hS rfl fun h' acc' c' e1 e2 e3 => q h' acc' c' e1 e2 e3
 rcases List.mem_cons.mp z with y | y
 ·exact SI y
 ·exact Sl (List.mem_singleton.mp y)
theorem call_list_rev {Q : Value → Shared → Prop} (hh : A.handled = none) (hit : s.heap.IsRevIter I l ((items.size : Int) - 1)) (hl : s.heap.IsList l items) (ne : l ≠ I) (hz : items.size ≤ sizeLine)
  (q : ∀ h' acc' c', acc'.toList = items.toList.reverse → h'.get? s.heap.objs.size = some { cls := .type "list", dict := none, data := .seq acc' c', slots := #[] } → (∀ b o, b ≠ I → s.heap.get? b = some o → h'.get? b = some o) → Q (.ref s.heap.objs.size) { s with heap := h' }) : wpAny (model prog w) A (call (.type "list") [.ref I]) Q E s := by
 have lI : I < s.heap.objs.size := by obtain ⟨_, e, _⟩ := hit; exact Heap.lt_size e
 have ll : l < s.heap.objs.size := by obtain ⟨_, e, _⟩ := hl; exact Heap.lt_size e
 refine callType_codes (Q₁ := fun ob s1 => ob = .ref s.heap.objs.size ∧ s1 = { s with heap := s.heap.push { cls := .type "list", data := .seq #[] } }) F.called_list (F.typeCall_list_1 _) F.entry_list_init (code_list_new _ ⟨rfl, rfl⟩) ?_
 rintro ob s1 ⟨rfl, rfl⟩
 have e0 : (s.heap.push { cls := .type "list", data := .seq #[] }).get? s.heap.objs.size = some { cls := .type "list", data := .seq #[] } := Heap.get?_push_size _ rfl
 refine ⟨⟨_, e0, rfl⟩, F.args_list_init_2 _ _, ?_⟩
 change wpAny _ _ (Builtin.List.listItems (.ref s.heap.objs.size) >>= fun old => Builtin.List.listUpdate (.ref s.heap.objs.size) (fun _ => #[]) >>= fun _ => letGo old.toList.reverse >>= fun _ => Builtin.List.listExtendWith (.ref s.heap.objs.size) (.ref I) .none) _ _ _
 refine wpAny_bind ?_
 unfold Builtin.List.listItems
 refine wpAny_bind (wpAny_seqItems e0 rfl (wpAny_pure ?_))
 change wpAny _ _ (updateSeq s.heap.objs.size (fun _ => #[]) >>= fun _ => letGo (#[] : Array Value).toList.reverse >>= fun _ => Builtin.List.listExtendWith (.ref s.heap.objs.size) (.ref I) .none) _ _ _
 refine wpAny_bind (wpAny_updateSeq e0 rfl (wpAny_bind (wpAny_letGo ?_)))
 have e1 := Heap.get?_update_self (Obj.mapSeq (fun _ => (#[] : Array Value))) e0 rfl
 have kp : ∀ b o, s.heap.get? b = some o → ((s.heap.push { cls := .type "list", data := .seq #[] }).update s.heap.objs.size (Obj.mapSeq (fun _ => (#[] : Array Value)))).get? b = some o := fun b o e =>
  (Heap.get?_update_other _ _ (fun z : s.heap.objs.size = b => absurd (Heap.lt_size e) (by rw [z]; exact Nat.lt_irrefl _))).trans (Heap.get?_push_of_some _ e)
 refine rev_fill (items := items) hh e1 (hit.at (kp I)) (let ⟨o, e, r⟩ := hl; ⟨o, kp l o e, r⟩) ne (Nat.ne_of_gt lI) (Nat.ne_of_gt ll) hz fun h' acc' c' q1 q2 q3 => ?_
 exact ⟨rfl, q h' acc' c' q1 q2 fun b o hb e => q3 b o hb (fun z => absurd (Heap.lt_size e) (by rw [z]; exact Nat.lt_irrefl _)) (kp b o e)⟩
end
end HT
namespace L2
open PySem PySem.Spec PyProof.Rows
section
variable {X : Cx}
def tLRev (ta : TA) : TE := fun σ H Q => ta σ H fun vs H1 => ∃ l xs, vs = [.ref l] ∧ H1 l = some (.lst xs) ∧ ∀ p, H1 p = none → Q (.ref p) (upd H1 p (.lst xs.reverse))
theorem boot_reversed : bootBuiltins "reversed" = some (.type "reversed") := by decide +kernel
theorem pe_list_rev {a : Expr} {ta : TA} {p pos p' pos' : Pos} (hcalm : X.calm = true) (hg : Gl X "reversed") (hm : X.mg "reversed" = none) (hg' : Gl X "list") (hm' : X.mg "list" = none) (ha : PA X [a] ta) (hs : starEach [a] X.env = [(false, eval a X.env)] := by rfl)
  (hs' : starEach [.Call (.Name "reversed" p) [a] [] pos] X.env = [(false, eval (.Call (.Name "reversed" p) [a] [] pos) X.env)] := by rfl) :
  PE X (.Call (.Name "list" p') [.Call (.Name "reversed" p) [a] [] pos] [] pos') (tLRev ta) := by
 intro pins s σ H Q I h
 refine Call_ (ld_blt I hg' hm' boot_list (PyProof.Rows.callWith_type1 ?_ hs' rfl))
 rw [hs']
 show wpAny _ _ (spliced ((false, eval (.Call (.Name "reversed" p) [a] [] pos) X.env) :: [])) _ _ s
 refine Calls.spliced_cons (Call_ (ld_blt I hg hm boot_reversed (PyProof.Rows.callWith_type1 (thn (ha pos pins s σ H _ I h) fun us s1 ⟨vs, H1, I1, r1, q1⟩ => ?_) hs rfl)))
 obtain ⟨l, xs, rfl, hl, q⟩ := q1
 obtain ⟨u, rfl, ru⟩ := r1.one
 cases ru
 obtain ⟨z, its, n, r, len, e⟩ := I1.lstM hl
 have hL : s1.heap.IsList l its.toArray := ⟨_, e, rfl, n, rfl⟩
 refine call_reversed_list hL (Calls.spliced_nil ?_)
 have I2 : Inv X pins σ H1 { s1 with heap := s1.heap.push (revObj l ((its.toArray.size : Int) - 1)) } := I1.kept fun b o e => Heap.get?_push_of_some _ e
 have lt : l < s1.heap.objs.size := Heap.lt_size e
 have e1 : (s1.heap.push (revObj l ((its.toArray.size : Int) - 1))).get? s1.heap.objs.size = some (revObj l ((its.toArray.size : Int) - 1)) := Heap.get?_push_size _ rfl
 refine HT.call_list_rev (items := its.toArray) (I1.ok.hd hcalm) ⟨_, e1, rfl, rfl⟩ ⟨_, Heap.get?_push_of_some _ e, rfl, n, rfl⟩ (Nat.ne_of_lt lt) (by rw [List.size_toArray, ← len]; exact z) fun h' acc' c' q1 q2 q3 => ?_
 have kp : ∀ b o, s1.heap.get? b = some o → h'.get? b = some o := fun b o eb => q3 b o (Nat.ne_of_lt (Heap.lt_size eb)) (Heap.get?_push_of_some _ eb)
 have sz : (s1.heap.push (revObj l ((its.toArray.size : Int) - 1))).objs.size = s1.heap.objs.size + 1 := Heap.size_push ..
 refine ⟨.ref _, _, I1.laid (t' := s1.toks) kp (show s1.heap.objs.size ≤ (s1.heap.push (revObj l ((its.toArray.size : Int) - 1))).objs.size by rw [sz]; exact Nat.le_succ _) (show ObjOk X.prog X.w _ h' _ (.lst xs.reverse) from ⟨by rw [List.length_reverse]; exact z, acc'.toList, c', by rw [q1]; exact r.reverse, by simpa using q2⟩), rfl, q _ (I1.hok.fresh (by rw [sz]; exact Nat.le_succ _))⟩
end
end L2
namespace HT
open PySem PySem.W PyProof.Rows
section
variable {cmp : Nat → Nat → (Bool → Shared → Prop) → Shared → Prop} {key : Nat → Int} {N : Nat} {s : Shared} {p : Array Nat}
variable (hN : 0 < N) (ask : ∀ i j C, i < N → j < N → i ≠ j → C (decide (key i < key j)) s → cmp i j C s) (inj : ∀ i j, i < N → j < N → key i = key j → i = j)
include hN ask inj
end
end HT
namespace HT
open PySem PySem.W PyProof.Rows PySem.SeqAt PySem.MeetsSeq PySem.MeetsSeq2 PySem.MeetsSeq3
section
variable {prog : Program} {w : World} {A : Around} {E : Value → Shared → Prop} {s : Shared}
end
end HT
namespace HT
open PySem PySem.W PyProof.Rows
end HT
namespace L2
open PySem PySem.Spec PyProof.Rows
section
variable {X : Cx}
end
end L2
namespace L2
open PySem PySem.Spec PyProof.Rows
end L2
namespace L2
open PySem PySem.Spec PyProof.Rows
end L2
namespace L2
open PySem PySem.Spec PyProof.Rows
end L2
namespace HT
open PySem PyProof.Rows
section
variable {prog : Program} {w : World} {A : Around} {E : Value → Shared → Prop} {s : Shared} {it d : Addr} {o : Obj} {es : Array DictEntry} {i ep : Nat}
theorem anyIter {Q : Value → Shared → Prop} (nd : (d == sysModules) = false) (od : s.heap.get? d = some o) (ex : o.ExactDict) (dat : o.data = .dict es ep)
  (q : Q (.ref s.heap.objs.size) { s with heap := s.heap.push { cls := .type "dict_keyiterator", data := .fields #[.ref d, .int 0 0, .int es.size 0, .int ep 0] } }) : wpAny (model prog w) A (pyIter (.ref d)) Q E s := by
 have ty : s.TypeIs (.ref d) "dict" := ⟨o, od, ex.1⟩
 refine wpAny_pyIter_slot ty PySem.F.slot_dict_iter (wpAny_call_entry PySem.F.slot_dict_iter ty PySem.F.entry_dict_iter ?_ (PySem.F.args_dict_iter_1 _))
 unfold Builtin.«dict.__iter__» Builtin.Dict.dictSlotNone
 refine wpAny_bind (wpAny_bind (wpAny_notOrdered_dict ty ?_))
 refine wpAny_pure (show wpAny _ _ (Builtin.Dict.showsAll d >>= _) _ _ s from ?_)
 unfold Builtin.Dict.showsAll
 rw [if_neg (by rw [nd]; decide)]
 refine wpAny_bind (wpAny_pure (wpAny_bind (wpAny_dictEntries od dat (wpAny_bind (wpAny_dictEpoch od dat (wpAny_bind (wpAny_newObj_type (wpAny_pure ⟨_, rfl, "dict_keyiterator", _, ⟨_, Heap.get?_push_size _ rfl, rfl⟩, PySem.F.slot_dict_keyiterator_next.lookup, ?_⟩))))))))
 simpa [rawInt] using q
theorem anyNext {Q : Option Value → Shared → Prop} (hit : s.heap.IsKeyIter it d i es.size ep) (od : s.heap.get? d = some o) (dat : o.data = .dict es ep) (lt : i < es.size)
  (q : ∀ h', h'.IsKeyIter it d (i + 1) es.size ep → Heap.SameBut it s.heap h' → Q (some es[i].key) { s with heap := h' }) : wpAny (model prog w) A (pyNext (.ref it)) Q E s := by
 obtain ⟨oi, q1, q2, q3⟩ := id hit
 have ti := hit.typeIs
 unfold pyNext
 refine wpAny_bind (wpAny_attempt (wpAny_callSpecial?_slot (name := Str.ofString "__next__") ti PySem.F.slot_dict_keyiterator_next (wpAny_call_entry PySem.F.slot_dict_keyiterator_next ti PySem.F.entry_dict_keyiterator_next ?_ (PySem.F.args_dict_keyiterator_next_1 _))))
 refine wpAny_bind (wpAny_pure (wpAny_bind (wpAny_bind ?_)))
 first | refine wpAny_bind (wpAny_typeNameOfWhole_keyiter ti (wpAny_pure (wpAny_bind (wpAny_fieldsOf q1 q3 ?_)))) | refine wpAny_bind (wpAny_typeNameOf_keyiter ti (wpAny_pure (wpAny_bind (wpAny_fieldsOf q1 q3 ?_))))
 have ow : Builtin.Dict_items.ownsTuple "dict_keyiterator" = false := by decide
 simp only [ow, Bool.false_eq_true, if_false]
 show wpAny _ _ (if (Value.ref d == Value.none) = true then _ else _) _ _ _
 rw [if_neg (show ¬ ((Value.ref d == Value.none) = true) by exact Bool.false_ne_true)]
 refine wpAny_bind (wpAny_pure (wpAny_bind (wpAny_dictEntries od dat ?_)))
 rw [if_neg (by simp)]
 refine wpAny_bind (wpAny_pure (wpAny_bind (wpAny_dictEpoch od dat ?_)))
 rw [if_neg (by simp)]
 refine wpAny_pure ?_
 simp only [show ¬ ((i : Int) < 0) by omega, if_false, Int.toNat_natCast, Array.getElem?_eq_getElem lt]
 refine wpAny_bind ?_
 first | refine wpAny_bind (wpAny_typeNameOfWhole_keyiter ti (wpAny_pure (wpAny_bind (wpAny_isOneOf_keyiter ti ?_)))) | refine wpAny_bind (wpAny_typeNameOf_keyiter ti (wpAny_pure (wpAny_bind (wpAny_isOneOf_keyiter ti ?_))))
 show wpAny _ _ (setField (.ref it) 1 (rawInt ((i : Int) + 1)) >>= _) _ _ _
 refine wpAny_bind (wpAny_setField q1 q3 (by simp) ?_)
 have h2 : (s.heap.update it (Obj.mapFields (·.setIfInBounds 1 (rawInt ((i : Int) + 1))))).IsKeyIter it d (i + 1) es.size ep :=
  ⟨_, Heap.get?_update_self _ q1 (Obj.isFreed_of_fields (Obj.data_mapFields q3 _)), (Obj.cls_mapFields ..).trans q2, by rw [Obj.data_mapFields q3]; simp [rawInt]⟩
 refine wpAny_bind (wpAny_holding (wpAny_bind (wpAny_isOneOf_keyiter (s := { s with heap := s.heap.update it (Obj.mapFields (·.setIfInBounds 1 (rawInt ((i : Int) + 1)))) }) h2.typeIs ?_)))
 refine show wpAny _ _ (pure es[i].key) _ _ _ from ?_
 exact wpAny_pure (wpAny_pure ⟨_, rfl, wpAny_pure (q _ h2 (Heap.SameBut.update ..))⟩)
theorem anyEnd {Q : Option Value → Shared → Prop} (hh : A.handled = none) (hit : s.heap.IsKeyIter it d i es.size ep) (od : s.heap.get? d = some o) (dat : o.data = .dict es ep) (ge : es.size ≤ i)
  (q : ∀ h', Heap.ExtBut it s.heap h' → Q none { s with heap := h' }) : wpAny (model prog w) A (pyNext (.ref it)) Q E s := by
 obtain ⟨oi, q1, q2, q3⟩ := id hit
 have ti := hit.typeIs
 unfold pyNext
 refine wpAny_bind (wpAny_attempt (wpAny_callSpecial?_slot (name := Str.ofString "__next__") ti PySem.F.slot_dict_keyiterator_next (wpAny_call_entry PySem.F.slot_dict_keyiterator_next ti PySem.F.entry_dict_keyiterator_next ?_ (PySem.F.args_dict_keyiterator_next_1 _))))
 refine wpAny_bind (wpAny_pure (wpAny_bind (wpAny_bind ?_)))
 first | refine wpAny_bind (wpAny_typeNameOfWhole_keyiter ti (wpAny_pure (wpAny_bind (wpAny_fieldsOf q1 q3 ?_)))) | refine wpAny_bind (wpAny_typeNameOf_keyiter ti (wpAny_pure (wpAny_bind (wpAny_fieldsOf q1 q3 ?_))))
 have ow : Builtin.Dict_items.ownsTuple "dict_keyiterator" = false := by decide
 simp only [ow, Bool.false_eq_true, if_false]
 show wpAny _ _ (if (Value.ref d == Value.none) = true then _ else _) _ _ _
 rw [if_neg (show ¬ ((Value.ref d == Value.none) = true) by exact Bool.false_ne_true)]
 refine wpAny_bind (wpAny_pure (wpAny_bind (wpAny_dictEntries od dat ?_)))
 rw [if_neg (by simp)]
 refine wpAny_bind (wpAny_pure (wpAny_bind (wpAny_dictEpoch od dat ?_)))
 rw [if_neg (by simp)]
 refine wpAny_pure ?_
 simp only [show ¬ ((i : Int) < 0) by omega, if_false, Int.toNat_natCast, Array.getElem?_eq_none ge]
 refine wpAny_bind ?_
 first | refine wpAny_bind (wpAny_typeNameOfWhole_keyiter ti (wpAny_pure ?_)) | refine wpAny_bind (wpAny_typeNameOf_keyiter ti (wpAny_pure ?_))
 refine show wpAny _ _ (setField (.ref it) 0 .none >>= _) _ _ s from ?_
 refine wpAny_bind (wpAny_setField q1 q3 (by simp) (show wpAny _ _ (newExc (.type "StopIteration") [] >>= _) _ _ _ from wpAny_bind ?_))
 simp only [newExc, newTuple]
 refine wpAny_bind (wpAny_newObj_type (wpAny_bind (m := firstArgMember _ _) (wpAny_of_eq (a := Value.none) (by first | rfl | (simp only [firstArgMember]; rfl)) (wpAny_newObj_type ?_ (by size_fits)))) (by size_fits))
 simp only [raiseNew]
 refine wpAny_bind (wpAny_handled ?_)
 rw [show A.in1.handled = none by exact hh]
 refine id (wpAny_bind (wpAny_pure (wpAny_throw ?_)))
 exact wpAny_bind (wpAny_isInstance (T := "StopIteration") (b := true) ⟨_, Heap.get?_push_size _ rfl, rfl⟩ isSubtype_stop (wpAny_pure (q _ (((Heap.SameBut.update ..).extBut.push _).push _))))
end
end HT
namespace L2
open PySem PySem.Spec PyProof.Rows
section
variable {X : Cx}
def rPop0 : V → List V → Hp → VK → Prop := fun x vs H Q => ∃ l xs y, x = .ref l ∧ vs = [] ∧ H l = some (.lst (xs ++ [y])) ∧ Q y (upd H l (.lst xs))
theorem mt_pop0 : MtM X "list.pop" rPop0 := by
 intro pins s σ H x vs v us Q I rx rv h
 obtain ⟨l, xs, y, rfl, rfl, hH, q⟩ := h
 cases rx
 have hus := rv.zero
 subst hus
 obtain ⟨z, its, n, r, hl, e⟩ := I.lstM hH
 have hlen : its.length = xs.length + 1 := by rw [← hl, List.length_append]; rfl
 obtain ⟨u, hu, ru⟩ := r.get (i := xs.length) (x := y) (by rw [List.getElem?_append_right (Nat.le_refl _), Nat.sub_self]; rfl)
 refine call_meets PySem.F.slot_list_pop ⟨_, e, rfl⟩ PySem.F.entry_list_pop (PySem.F.args_list_pop_1 _)
  (MeetsSeq.list_pop_last l its.toArray n u (by rw [List.size_toArray, hlen, ← Array.getElem?_toList]; exact hu) (by rw [List.size_toArray]; omega)) ⟨e, ?_⟩
 refine ⟨y, _, I.lset (its' := its.eraseIdx xs.length) hH e ?_ ?_ ?_, ru, q⟩
 ·show its.toArray.eraseIdxIfInBounds (its.toArray.size - 1) = (its.eraseIdx xs.length).toArray
  rw [List.eraseIdxIfInBounds_toArray, List.size_toArray, hlen]
  rfl
 ·have := r.eraseIdx xs.length
  rw [List.eraseIdx_append_of_length_le (Nat.le_refl _), Nat.sub_self] at this
  simpa using this
 ·rw [List.length_append] at z
  have : xs.length + 1 ≤ sizeLine := z
  omega
def tDispT (tk tv : TE) : TE := fun σ H Q => ∀ p, H p = none → tk σ (upd H p (.dT [])) fun y H1 => tv σ H1 fun x H2 => H2 p = some (.dT []) ∧ ∃ b ks, y = .ref b ∧ H2 b = some (.tup (ks.map kV)) ∧ Q (.ref p) (upd H2 p (.dT [(ks, x)]))
theorem pe_dispT {k v : Expr} {tk tv : TE} {pos : Pos} (hu : X.A.units + 1 < cLine) (hk : PE X k tk) (hv : PE X v tv) : PE X (.Dict [some k] [v] pos) (tDispT tk tv) := by
 intro pins s σ H Q I q
 have hn := I.hok.fresh (Nat.le_refl s.heap.objs.size)
 have I1 := I.laid (a := s.heap.objs.size) (o := .dT []) (h' := s.heap.push { cls := .type "dict", data := .dict #[] }) (t' := s.toks) (fun _ _ q => Heap.get?_push_of_some _ q) (Nat.le_refl _) (dt_empty s.heap I.big)
 rw [arm_eval_Dict, zip_pairTrees [some k] [v] X.env pos rfl rfl, dictDisplay_pairs (pairTrees [some k] [v] X.env pos) (fun z => nomatch z) (by show 1 < 17; decide)]
 refine wpAny_bind (wpAny_standAt (wpAny_bind ?_))
 unfold subDict
 refine wpAny_bind (wpAny_alloc (wpAny_bind (wpAny_holding ?_)))
 rw [if_pos (show (pairTrees [some k] [v] X.env pos).length ≤ 15 by show 1 ≤ 15; decide)]
 refine wpAny_bind (pairTrees_cons_walk (thn (hk pins _ σ _ _ I1 (q _ hn)) fun kv s1 ⟨y, H1, I2, ry, q1⟩ => thn (hv pins s1 σ H1 _ I2 q1) fun vv s2 ⟨x, H2, I3, rx, e, b, ks, ey, eb, q2⟩ => pairTrees_nil_walk (wpAny_holding ?_)))
 subst ey
 cases (show kv = Value.ref b from ry)
 obtain ⟨z, hd, xs, rel, dd⟩ := dt_of I3.hok e
 have hz : xs.length ≤ sizeLine := by rw [← Paired.length rel]; exact z
 rw [List.forIn_cons]
 have hroom : (tupleKind (mixKind X.prog X.w)).room X.A := Nat.lt_of_le_of_lt (Nat.le_succ _) hu
 refine wpAny_bind (wpAny_bind ?_)
 refine show wpAny _ _ (dictSet _ (Value.ref b) vv >>= fun _ => pure (ForInStep.yield PUnit.unit)) _ _ _ from wpAny_bind (wpAny_dictSet_heap (hsz := hz) hroom (key_of I3.hok eb) dd fun h' dd' hs => wpAny_pure ?_)
 show wpAny _ _ (forIn ([] : List (Value × Value)) _ _) _ _ _
 rw [List.forIn_nil]
 refine wpAny_pure (wpAny_pure (wpAny_pure (wpAny_pure ⟨.ref s.heap.objs.size, _, ?_, rfl, q2⟩)))
 obtain ⟨o, es, ep, hq, h2, h3, h4, _, h5⟩ := dd'
 refine d_write I3 (by rw [e]; exact True.intro) hs ⟨o, hq⟩ ⟨by show 1 ≤ sizeLine; decide, hd, _, (rel.put ks eb rx).keeps fun c ys ec => ?_, o, es, ep, hq, h2, h3, h4, h5⟩
 rw [upd_ne (ne_of ec e (fun z => nomatch z))]
 exact ec
def tHoldT (t : TE) : TE := fun σ H Q => ∃ d kvs, H d = some (.dT kvs) ∧ ∀ o, t σ (upd H d (.frz o (.dT kvs))) fun v H' => H' d = some (.frz o (.dT kvs)) ∧ Q v (upd H' d (.dT kvs))
theorem pe_holdT {e : Expr} {t : TE} (he : PE X e t) : PE X e (tHoldT t) := by
 intro pins s σ H Q I ⟨d, kvs, h, q⟩
 have nf : ∀ o' u, X.H₀ d ≠ some (.frz o' u) := fun o' u q => by
  have := I.base.frzs d o' u q
  rw [h] at this; cases this
 obtain ⟨z, y, xs, r, o, es, ep, eo, c⟩ := (show ObjOk X.prog X.w H s.heap d (.dT kvs) from I.hok d _ h)
 have I1 : Inv X pins σ (upd H d (.frz o (.dT kvs))) s := I.ghost (d := d) ⟨_, h, (fun _ z => nomatch z), (fun _ z => nomatch z), (fun _ z => nomatch z)⟩ (fun b hb => upd_ne hb) (fun o' u q => absurd q (nf o' u)) ⟨_, upd_same, (fun _ z => nomatch z), eo, z, y, xs, Paired.mapP r fun p q z => ⟨z.1, by rw [upd_ne (ne_of z.2.1 h (fun z => nomatch z))]; exact z.2.1, z.2.2⟩, o, es, ep, eo, c⟩
 refine thn (he pins s σ _ _ I1 (q o)) fun v s1 ⟨x, H1, I2, rv, eH, q1⟩ => ?_
 obtain ⟨eo', z, y, xs, r, o2, es, ep, e2, c⟩ := (show ObjOk X.prog X.w H1 s1.heap d (.frz o (.dT kvs)) from I2.hok d _ eH)
 exact ⟨x, _, I2.ghost (d := d) (H' := upd H1 d (.dT kvs)) ⟨_, eH, (fun _ z => nomatch z), (fun _ z => nomatch z), (fun _ z => nomatch z)⟩ (fun b hb => upd_ne hb) (fun o' u q => absurd q (nf o' u)) ⟨_, upd_same, (fun _ z => nomatch z), z, y, xs, Paired.mapP r fun p q z => ⟨z.1, by rw [upd_ne (ne_of z.2.1 eH (fun z => nomatch z))]; exact z.2.1, z.2.2⟩, o2, es, ep, e2, c⟩, rv, q1⟩
end
def Itdt (d : Addr) (o : Obj) (kvs : List (List Key × V)) : It :=
 ⟨fun i H => H d = some (.frz o (.dT kvs)) ∧ i < kvs.length, fun i H x H' => H' = H ∧ ∃ k b, (kvs.map (·.1))[i]? = some k ∧ x = .ref b ∧ H b = some (.tup (k.map kV)), fun i H => H d = some (.frz o (.dT kvs)) ∧ kvs.length ≤ i⟩
theorem KT_get {H : Hp} {f : List Key × V → List Key × Addr × Value → Prop} : ∀ {kvs : List (List Key × V)} {xs : List (List Key × Addr × Value)} {i : Nat}, Paired f kvs xs → i < kvs.length → ∃ p q, kvs[i]? = some p ∧ xs[i]? = some q ∧ f p q
 | _, _, _, .nil, h => absurd h (Nat.not_lt_zero _)
 | p :: _, q :: _, 0, .cons r _, _ => ⟨p, q, rfl, rfl, r⟩
 | _ :: _, _ :: _, i + 1, .cons _ t, h => by
  obtain ⟨p, q, h1, h2, h3⟩ := KT_get (H := H) (i := i) t (by simpa using h)
  exact ⟨p, q, by simpa using h1, by simpa using h2, h3⟩
theorem turn_dictT {P : Program} {w : World} {K : PySem.W.Frag} {tg : Expr} (d it : Addr) {o : Obj} {kvs : List (List Key × V)} {es0 : Array DictEntry} {ep : Nat} (hd : o.data = .dict es0 ep) (hz : es0.size = kvs.length) : Turn P w K tg (Itdt d o kvs) [it] it (fun i h => h.IsKeyIter it d i kvs.length ep) where
 mem := by simp
 obj := fun i h st b hb => by
  have e : b = it := by simpa using hb
  subst e
  obtain ⟨o, e, c, d⟩ := st
  exact ⟨o, e, fun v z => by rw [d] at z; cases z⟩
 keep := fun i h h' st k => by
  obtain ⟨o, e, r⟩ := st
  exact ⟨o, k it (by simp) o e, r⟩
 item := by
  intro X hP hw hK hc i pins s σ H E I hf st hg
  subst hP hw hK
  obtain ⟨hq, hx⟩ := hg
  obtain ⟨eo, z, y, xs, r, o2, es, ep2, e2, c1, c2, c3, c4⟩ := (show ObjOk X.prog X.w H s.heap d (.frz o (.dT kvs)) from I.hok d _ hq)
  rw [eo] at e2
  cases e2
  rw [hd] at c2
  cases c2
  obtain ⟨p, q, hp1, hq1, r1, r2, r3⟩ := KT_get (H := H) r hx
  have lt : i < es0.size := by rw [hz]; exact hx
  have ek : es0[i].key = .ref q.2.1 := by
   have h1 : es0.toList[i]? = some es0[i] := by rw [Array.getElem?_toList]; exact Array.getElem?_eq_getElem lt
   rw [c3, List.getElem?_map, hq1] at h1
   have := Option.some.inj h1
   rw [← this]
   rfl
  obtain ⟨f0, f1, f2, f3, f4, f5⟩ := hf it (by simp)
  rw [← hz] at st
  refine HT.anyNext st eo hd lt fun h' st' sb => ?_
  rw [ek]
  have I1 : Inv X pins σ H { s with heap := h' } := I.turned (t' := s.toks) (fun b o hb e => (sb.2 b hb).trans e) f0 f1 f3 f4 f5
  obtain ⟨ob, e, c, dd⟩ := id st'
  rw [hz] at st'
  exact ⟨_, rfl, go_of (s := { s with heap := h' }) e c dd (by decide) ⟨.ref q.2.1, H, I1, rfl, ⟨rfl, p.1, q.2.1, by rw [List.getElem?_map, hp1]; rfl, rfl, r2⟩, st', fun b hb => (hf b hb).1⟩⟩
 done := by
  intro X hP hw hK hc i pins s σ H E I hf st hg
  subst hP hw hK
  obtain ⟨hq, hx⟩ := hg
  obtain ⟨eo, z, y, xs, r, o2, es, ep2, e2, c1, c2, c3, c4⟩ := (show ObjOk X.prog X.w H s.heap d (.frz o (.dT kvs)) from I.hok d _ hq)
  obtain ⟨f0, f1, f2, f3, f4, f5⟩ := hf it (by simp)
  rw [← hz] at st
  exact HT.anyEnd (I.ok.hd hc) st eo hd (by rw [hz]; exact hx) fun h' eb => ⟨rfl, I.turned (t' := s.toks) (fun b o hb e => eb b o hb e) f0 f1 f3 f4 f5⟩
 self := fun _ _ _ _ _ st h => by
  obtain ⟨o, e, c, dd⟩ := id st
  exact wpAny_pyIter_keyiter st h
section
variable {X : Cx} {tg : Expr}
def iDictT (tl : TE) : TI := fun σ H R => tl σ H fun x H1 => ∃ d o kvs, x = .ref d ∧ H1 d = some (.frz o (.dT kvs)) ∧ R (Itdt d o kvs) H1
theorem pi_dictT {l : Expr} {tl : TE} (hl : PE X l tl) : PI X tg l (iDictT tl) := by
 intro pins s σ H R I h
 refine thn (hl pins s σ H _ I h) fun v s1 ⟨x, H1, I1, r1, q1⟩ => ?_
 obtain ⟨d, o, kvs, e, hq, q⟩ := q1
 subst e
 cases r1
 obtain ⟨eo, z, y, xs, r, o2, es, ep, e2, c1, c2, c3, c4⟩ := (show ObjOk X.prog X.w H1 s1.heap d (.frz o (.dT kvs)) from I1.hok d _ hq)
 rw [eo] at e2
 cases e2
 have hz : es.size = kvs.length := by rw [← Array.length_toList, c3, List.length_map, Paired.length r]
 refine HT.anyIter y eo c1 c2 ?_
 refine ⟨s1.heap.objs.size, [s1.heap.objs.size], _, _, H1, rfl, I1.kept (t' := s1.toks) fun b o e => Heap.get?_push_of_some _ e, turn_dictT d _ c2 hz, ⟨_, Heap.get?_push_size _ rfl, rfl, by rw [hz]; rfl⟩, fun b hb => ?_, q⟩
 have e : b = s1.heap.objs.size := by simpa using hb
 subst e
 exact I1.fpOk (Nat.le_refl _) (I1.hok.fresh (Nat.le_refl _))
end
end L2
namespace L2
open PySem PySem.Spec PyProof.Rows
theorem ObjOk.there {P : Program} {w : World} {H : Hp} {h : Heap} {a : Addr} {o : HO} (x : ObjOk P w H h a o) : ∃ ob, h.get? a = some ob := by
 cases o with
 | lst xs => obtain ⟨_, _, _, _, e⟩ := x; exact ⟨_, e⟩
 | tup xs => obtain ⟨_, _, _, ob, e, _⟩ := x; exact ⟨_, e⟩
 | dK kvs => obtain ⟨_, _, _, _, o, _, _, e, _⟩ := x; exact ⟨_, e⟩
 | dT kvs => obtain ⟨_, _, _, _, o, _, _, e, _⟩ := x; exact ⟨_, e⟩
 | set S n => obtain ⟨o, _, _, _, e, _⟩ := x; exact ⟨_, e⟩
 | ins C dx fs => obtain ⟨_, _, _, e, _⟩ := x; exact ⟨_, e⟩
 | own y => exact x
 | xd fs => obtain ⟨_, ⟨_, _, _, e, _⟩, _⟩ := x; exact ⟨_, e⟩
 | rng lo hi => obtain ⟨_, _, _, e⟩ := x; exact ⟨_, e⟩
 | frz ob u => obtain ⟨e, _⟩ := x; exact ⟨_, e⟩
 | tbl ps => exact ⟨_, show h.get? a = some _ from x⟩
 | met f y => exact ⟨_, show h.get? a = some _ from x⟩
 | ext φ => exact x.2.1
def InB (B : Heap) (fs : List Addr) (H' : Hp) (h h' : Heap) : Prop := ∀ b o, h'.get? b = some o → ((∃ o', h.get? b = some o') ∧ b ∉ fs) ∨ (∃ u, H' b = some u) → B.get? b = some o
def CX1 (P : Program) (w : World) : CXT := fun outer H s E e s' => ∃ (ea : Addr) (C a0 : Value) (H' : Hp) (B : Heap),
 e = .ref ea ∧ s'.os = s.os ∧ AllBare s'.gens ∧ Un (frs outer) [] H H' s.heap s'.heap ∧ HOk P w H' s'.heap ∧ Heap.FlyingW B outer ea C a0 s'.heap ∧ InB B (frs outer) H' s.heap s'.heap ∧ H' ea = none ∧ E C none H'
section
variable {X : Cx} {pins : List (Addr × Obj)} {σ : St} {H H' : Hp} {s s' : Shared} {B h'' : Heap}
theorem Inv.flown (I : Inv X pins σ H s) (os : s'.os = s.os) (bare : AllBare s'.gens) (un : Un (frs X.stack) [] H H' s.heap s'.heap) (hok : HOk X.prog X.w H' s'.heap)
  (hB : InB B (frs X.stack) H' s.heap s'.heap) (st : B.StaysIn h'') (up : s'.heap.UpToSlots h'') : Inv X pins σ H' { s' with heap := h'' } := by
 have ff := I.stack
 have slot : ∀ b o, s.heap.get? b = some o → H b = none → b ∈ frs X.stack → ∃ sl, h''.get? b = some { o with slots := sl } := fun b o q n m => by
  obtain ⟨sl, e1⟩ := un.slot b o q n m (by simp)
  obtain ⟨_, o', q', nf⟩ := ff.mem m
  rw [q] at q'
  cases q'
  obtain ⟨sl', e2⟩ := up b _ e1 nf
  exact ⟨sl', e2⟩
 refine I.call' (s' := { s' with heap := h'' }) (ch := []) os ⟨fun b o q n m _ => st b o (hB b o (un.keep b o q n m (by simp)) (.inl ⟨⟨o, q⟩, m⟩)), fun b o q n m _ => slot b o q n m, fun b o q n m => un.free b o q n m, fun b o q _ => ?_, un.tups, un.frzs, un.tbls⟩ (fun a o e => ?_) bare (fun b z => absurd z (by simp))
 ·by_cases m : b ∈ frs X.stack
  ·obtain ⟨sl, e⟩ := slot b o q (I.stkFree b m) m
   exact ⟨_, e⟩
  ·obtain ⟨o', e⟩ := un.there b o q (by simp)
   exact ⟨o', st b o' (hB b o' e (.inl ⟨⟨o, q⟩, m⟩))⟩
 ·refine (hok a o e).stay (fun b u z q => st b u (hB b u q (.inr ?_))) (fun _ z => z) fun _ _ z => z
  rcases z with z | z
  ·subst z; exact ⟨_, e⟩
  ·exact ⟨_, z⟩
theorem Inv.gone {ea : Addr} {C a0 : Value} {E : XK} (I : Inv X pins σ H s) (os : s'.os = s.os) (bare : AllBare s'.gens) (un : Un (frs X.stack) [] H H' s.heap s'.heap) (hok : HOk X.prog X.w H' s'.heap)
  (hB : InB B (frs X.stack) H' s.heap s'.heap) (fl : Heap.FlyingW B X.outer ea C a0 h'') (up : s'.heap.UpToSlots h'') (hn : H' ea = none) (hE : E C none H')
  (hst : X.stack = X.env :: X.outer) (hfr : X.env.frame = some X.env.locals) (hex : X.ex = []) : CX1 X.prog X.w X.outer X.H₀ X.s₀ E (.ref ea) { s' with heap := h'' } := by
 have J := I.flown os bare un hok hB fl.1 up
 have jb := J.base
 have ib := I.base
 rw [hex] at jb ib
 refine ⟨ea, C, a0, H', B, rfl, J.os, J.bare, jb, J.hok, fl, fun b o q z => ?_, hn, hE⟩
 rcases z with ⟨⟨o₀, q₀⟩, m⟩ | ⟨u, z⟩
 ·have m2 : b ∉ frs X.stack := fun z => by
   rw [hst] at z
   unfold frs at z
   rw [List.filterMap_cons, hfr] at z
   rcases List.mem_cons.mp z with z | z
   ·have := I.ok.above
    rw [← z] at this
    exact absurd (Heap.lt_size q₀) (Nat.not_lt.mpr this)
   ·exact m z
  obtain ⟨o1, q1⟩ := ib.there b o₀ q₀ (by simp)
  obtain ⟨o2, q2⟩ := un.there b o1 q1 (by simp)
  have e := hB b o2 q2 (.inl ⟨⟨o1, q1⟩, m2⟩)
  have e2 := fl.1 b o2 e
  have q' : h''.get? b = some o := q
  rw [q'] at e2
  cases e2
  exact e
 ·obtain ⟨o2, q2⟩ := (hok b u z).there
  have e := hB b o2 q2 (.inr ⟨u, z⟩)
  have e2 := fl.1 b o2 e
  have q' : h''.get? b = some o := q
  rw [q'] at e2
  cases e2
  exact e
end
section
variable {P : Program} {w : World} {K : PySem.W.Frag} {mg : Str → Option Value} {base : Heap} {N : List Str} {qual : Str} {scope : Scope} {f : Addr} {cd : Value} {A : Around} {outer : List Env} {s₀ : Shared} {H₀ : Hp} {E : XK}
theorem pass1 : Passes (CX1 P w) (cxOf (CX1 P w) P w K mg base N qual scope f cd A outer s₀ H₀ E) E := by
 intro pins σ H s e s' I h
 obtain ⟨ea, C, a0, H', B, rfl, os, bare, un, hok, fl, hB, hn, hE⟩ := h
 refine wpAny_leaves_onW (outer := outer) I.ok.frames rfl fl fun h'' fl2 up => ?_
 exact I.gone os bare un hok hB fl2 up hn hE rfl rfl rfl
def RaisesIn (X : Cx) (E : XK) : Prop := ∀ (pins : List (Addr × Obj)) (σ : St) (H : Hp) (s : Shared) (h' : Heap) (ea : Addr) (C : Value) (vs : List Value), Inv X pins σ H s → Heap.MadeExcOf s.heap h' ea C vs → E C none H → X.xe (.ref ea) { s with heap := h' }
theorem raises1 : RaisesIn (cxOf (CX1 P w) P w K mg base N qual scope f cd A outer s₀ H₀ E) E := by
 intro pins σ H s h' ea C vs I hx hE
 have hin : ∀ env ∈ (envOfC qual scope s₀.heap.objs.size f cd :: outer), ∀ b, env.frame = some b → b ∈ (envOfC qual scope s₀.heap.objs.size f cd :: outer).filterMap (·.frame) := fun env he b hb => List.mem_filterMap.mpr ⟨env, he, hb⟩
 refine wpAny_leaves_madeW (base := PySem.W.hideAll s.heap ((envOfC qual scope s₀.heap.objs.size f cd :: outer).filterMap (·.frame))) (outer := outer) I.ok.frames rfl (fun b o q => PySem.W.of_hideAll _ q) (PySem.W.funFrames_hide I.stack hin) hx fun h'' t x1 x2 x3 x4 => ?_
 have hn : H ea = none := by
  cases q : H ea with
  | none => rfl
  | some u =>
   obtain ⟨o, e⟩ := (I.hok ea u q).there
   rw [hx.new] at e
   cases e
 refine I.gone (s' := { s with heap := h' }) (H' := H) rfl I.bare (Un.kept hx.keeps) (I.hok.kept hx.keeps) (fun b o q z => ?_) x1 x4 hn hE rfl rfl rfl
 have q' : h'.get? b = some o := q
 have key : ∃ o', s.heap.get? b = some o' ∧ b ∉ (envOfC qual scope s₀.heap.objs.size f cd :: outer).filterMap (·.frame) := by
  rcases z with ⟨⟨o', e⟩, m⟩ | ⟨u, z⟩
  ·exact ⟨o', e, m⟩
  ·obtain ⟨o', e⟩ := (I.hok b u z).there
   exact ⟨o', e, fun m => by have := I.stkFree b m; rw [z] at this; cases this⟩
 obtain ⟨o', e, m⟩ := key
 have e2 := hx.keeps b o' e
 rw [q'] at e2
 cases e2
 exact PySem.W.hideAll_get _ e m
theorem Fun.ok1 {x qual : Str} {st : Stmt} {f : Addr} {fd : FuncData} {N ps : List Str} {k : Nat} {sp : Sp} (F : Fun K x qual st f fd) (S : FnScope N ps (defScope st)) (len : ∀ vs H Q E, sp vs H Q E → vs.length = ps.length)
  (hbody : ∀ (cdv : Value) (A : Around) (outer : List Env) (s : Shared) (H : Hp) (vs : List V) (Q : VK) (E : XK), Room k (A.deeper (envOfC qual (defScope st) s.heap.objs.size f cdv)) → sp vs H Q E →
   ∃ t, PSs (cxOf (CX1 P w) P w K mg base N qual (defScope st) f cdv A outer s H E) (defBody st) t ∧ t { nx := fun _ H' => Q .non H', rt := Q } (start N vs) H) : FnOk P w K mg base (CX1 P w) (k + 1) f fd ps sp := by
 obtain ⟨oc, od, kV, doc, pm, an, cdv, ct, osl, rfl, lk, hcd⟩ := F.ex
 exact fn_of lk hcd S len fun A outer s H vs Q E hr hsp => hbody cdv A outer s H vs Q E hr hsp
end
theorem own_obj {K : PySem.W.Frag} {h : Heap} {C : Addr} {bmB : List Value} {newId : String} (X : K.In h) (q : PySem.W.excIn K C bmB newId = true) :
  ∃ bm N nm q bs hdct sn sub ab col dd k0 k1 k2 k3 k5 mN, h.get? C = some (excClassObj nm q C N bs bm hdct sn sub ab col dd k0 k1 k2 k3 k5 newId) ∧ h.Ns N mN ∧ mN "__init__" = none ∧ OwnTail h bmB bm := by
 unfold PySem.W.excIn at q
 split at q
 ·rename_i dd cd sl ho
  split at q
  ·rename_i C' bm k0 k1 k2 k3 n k5 hm hs
   simp only [Bool.and_eq_true, beq_iff_eq, Bool.not_eq_true'] at q
   obtain ⟨⟨⟨⟨⟨rfl, rfl⟩, hdel⟩, ht⟩, hok⟩, hni⟩ := q
   obtain ⟨nm, bs, mro, ns, qn, hd, sn, sub, ab, col, del⟩ := cd
   dsimp only at hm hdel hok hni
   subst hm hdel
   have hsl : sl = #[k0, k1, k2, k3, some (.builtin n), k5] := by
    obtain ⟨l⟩ := sl
    simp only at hs
    rw [hs]
   subst hsl
   exact ⟨bm, ns, nm, qn, bs, hd, sn, sub, ab, col, dd, k0, k1, k2, k3, k5, _, X _ _ ho, .of_isNs (PySem.W.isNs_of_in X hok), PySem.W.nsMap_none_of_in X hok hni, PySem.W.tail_of_in X ht⟩
  ·cases q
 ·cases q
section
variable {X : Cx} {E : XK} {x : Str} {C : Addr} {B newId initId : String} {bm : List Value} {np cpos pos : Pos} {e : Expr} {es : List Expr} {t : TA}
def tRaise (C : Addr) (E : XK) (t : TA) : TS := fun _ σ H => t σ H fun vs H1 => vs.length ≤ 1000 ∧ E (.ref C) none H1
theorem ps_raise (hr : RaisesIn X E) (hc : X.calm = true) (FB : ExcBaseFacts B newId initId bm) (hq : PySem.W.excIn X.K C bm newId = true) (hg : Gl X x) (hm : X.mg x = some (.ref C)) (ha : PA X (e :: es) t)
  (hd : (x == ("__debug__" : Str)) = false := by decide) (he : starEach (e :: es) X.env = (false, eval e X.env) :: starEach es X.env := by rfl) (hpl : (backTo cpos (starEach es X.env)).any (·.1) = false := by rfl) :
  PS X (.Raise (some (.Call (.Name x np) (e :: es) [] cpos)) none pos) (tRaise C E t) := by
 intro pins s σ H D I h
 obtain ⟨tl, N, nm, q, bs, hdct, sn, sub, ab, col, dd, k0, k1, k2, k3, k5, mN, hC, hN, hni, T⟩ := own_obj I.mod.kin hq
 refine wpAny_Raise_call_subT (C := C) (nm := nm) (q := q) (N := N) (bs := bs) (bm := tl) (hdct := hdct) (sn := sn) (sub := sub) (ab := ab) (col := col) (dd := dd) (k0 := k0) (k1 := k1) (k2 := k2) (k3 := k3) (k5 := k5)
  FB (mN := mN) (T.hasType FB.hasBase) (I.ok.hd hc) (by rw [he]; show (false || (backTo cpos (starEach es X.env)).any (·.1)) = false; rw [hpl]; rfl) hni (ld_glob I hg hm ⟨rfl, ?_⟩ hd)
 have ha' := ha cpos pins s σ H _ I h
 rw [he] at ha' ⊢
 refine Calls.evalArgs_plain (wpAny_mono ha' (fun us s₂ ⟨vs, H1, I1, r, l, q⟩ => ?_) fun _ _ y => y)
 exact ⟨rfl, by rw [← r.length]; exact Nat.le_trans l (by decide), I1.bk _ _ hC, hN.keeps I1.bk, T.keeps I1.bk, fun h' ea hx => hr pins σ H1 s₂ h' ea _ _ I1 hx q⟩
end
def PB (X : Cx) (st : List Stmt) (tb : XK → TS) : Prop := ∀ (pins : List (Addr × Obj)) (s : Shared) (σ : St) (H : Hp) (D : Ends) (E : XK) (F : Value → Shared → Prop), Inv X pins σ H s →
 (∀ H1 s1 e s', Inv X pins σ H1 s1 → CX1 X.prog X.w X.stack H1 s1 E e s' → F e s') → tb E D σ H → wpAny (model X.prog X.w) X.A (execs st X.env) (SP X pins D) F s
section
variable {X : Cx} {k : Nat} {f : Addr} {fd : FuncData} {ps : List Str} {sp : Sp} {dvs : List V} {ds : List Value} {x : Str} {p pos cpos : Pos} {e : Expr} {es : List Expr} {t : TA}
def tbCall (sp : Sp) (dvs : List V) (t : TA) : XK → TS := fun E D σ H => t σ H fun vs H1 => sp (vs ++ dvs) H1 (fun _ H2 => D.nx σ H2) E
theorem pb_call (hx : ∀ e s, ¬ X.xe e s) (Fn : FnOk X.prog X.w X.K X.mg X.base (CX1 X.prog X.w) k f fd ps sp) (hr : Room k X.A) (hg : Gl X x) (hm : X.mg x = some (.ref f)) (hk : PySem.W.keepIn X.K (.ref f) = true) (hb : Binds X.K fd ps ds) (hd : Vals dvs ds)
  (ha : PA X (e :: es) t) (hdb : (x == ("__debug__" : Str)) = false := by decide) (he : starEach (e :: es) X.env = (false, eval e X.env) :: starEach es X.env := by rfl) (hpl : (backTo cpos (starEach es X.env)).any (·.1) = false := by rfl)
  (hs : swapsWith (.Call (.Name x p) (e :: es) [] cpos) none pos.line X.env = pure false := by rfl) :
  PB X [.Expr (.Call (.Name x p) (e :: es) [] cpos) pos] (tbCall sp dvs t) := by
 intro pins s σ H D E F I hF h
 have hq : wpAny (model X.prog X.w) X.A (eval (.Call (.Name x p) (e :: es) [] cpos) X.env) (EP X pins σ fun _ H2 => D.nx σ H2) F s := by
  refine wpAny_Call_Name_kw (ld_glob I hg hm ?_ hdb)
  refine PySem.W.callWith_K (h₀ := X.base) I.ok.mod.kin hk (wpAny_mono (ha cpos pins s σ H _ I h) (fun us s1 ⟨vs, H1, I1, r, q⟩ => ⟨I1.kIn, ?_⟩) fun _ _ z => (hx _ _ z).elim) he hpl
  have r2 : Vals (vs ++ dvs) (us ++ ds) := r.append hd
  have hl : (us ++ ds).length = ps.length := by rw [← r2.length]; exact Fn.len _ _ _ _ q
  refine wpAny_call (codeAny_mono (Fn.run X.A X.stack s1 H1 ⟨us, []⟩ (us ++ ds) (vs ++ dvs) _ E hr I1.env0 (hb s1 us I1.kIn hl) r2 q) fun r s' hq => ?_)
  cases r with
  | error e => exact hF H1 s1 e s' I1 hq
  | ok fl =>
   cases fl with
   | ret u => exact I1.after hq
   | next => exact False.elim hq
   | brk => exact False.elim hq
   | cont => exact False.elim hq
 refine wpAny_execs_cons ?_
 exact wpAny_Expr_any (thn hq fun v s1 ⟨x, H1, I1, r1, q1⟩ => wpAny_execs_nil ⟨σ, H1, I1, q1⟩) I.quiet hs
def tbIf (c : TT) (t u : XK → TS) : XK → TS := fun E D σ H => c σ H fun b H1 => if b = true then t E D σ H1 else u E D σ H1
theorem pb_if {c : Expr} {a b : List Stmt} {tc : TT} {ta tb : XK → TS} (hx : ∀ e s, ¬ X.xe e s) (hc : PT X c tc) (ha : PB X a ta) (hb : PB X b tb) : PB X [.If c a b pos] (tbIf tc ta tb) := by
 intro pins s σ H D E F I hF h
 refine wpAny_execs_cons (wpAny_If (wpAny_mono (hc pins s σ H _ I h) (fun d s1 ⟨H1, I1, q1⟩ => ?_) fun _ _ z => (hx _ _ z).elim))
 cases d with
 | true => exact wpAny_mono (ha pins s1 σ H1 D E F I1 hF q1) (fun fl s2 q => by cases fl <;> first | exact wpAny_execs_nil q | exact q) fun _ _ z => z
 | false => exact wpAny_mono (hb pins s1 σ H1 D E F I1 hF q1) (fun fl s2 q => by cases fl <;> first | exact wpAny_execs_nil q | exact q) fun _ _ z => z
end
def ExcAt (ea : Addr) (C : Value) : Heap → Prop := fun h => ∃ o vs, h.get? ea = some o ∧ o.cls = C ∧ o.data = .fields vs
abbrev Cx.mark (X : Cx) (v : Value) : Cx := { X with A := X.A.mark (some v), calm := false, xe := fun _ _ => False }
section
variable {X : Cx} {pins : List (Addr × Obj)} {σ : St} {H : Hp} {s : Shared} {v : Value}
theorem Inv.mark (I : Inv X pins σ H s) (v : Value) : Inv (X.mark v) pins σ H s :=
 ⟨⟨I.ok.mod, I.ok.kind, I.ok.glob, I.ok.blt, I.ok.above, I.ok.inj, I.ok.has, I.ok.cab, fun z => Bool.noConfusion z, I.ok.frames, I.ok.stk, I.ok.exf, I.ok.bs, I.ok.bsz, I.ok.noex, I.ok.exfs, I.ok.funs, I.ok.frf⟩, I.os, I.bare, I.base, I.loc, I.cell, I.free, I.freeC, I.pin, I.hok, I.len⟩
theorem Inv.unmark (ok : X.Ok) (I : Inv (X.mark v) pins σ H s) : Inv X pins σ H s := ⟨ok, I.os, I.bare, I.base, I.loc, I.cell, I.free, I.freeC, I.pin, I.hok, I.len⟩
end
section
variable {X : Cx} {pins : List (Addr × Obj)} {σ : St} {H : Hp} {s : Shared}
theorem goes_ok {M : Model} {A : Around} {E : Value → Shared → Prop} {i : Nat} {x : Str} {pos : Pos} {Q : Unit → Shared → Prop} (I : Inv X pins σ H s) (hN : X.N.Nodup) (hi : X.N[i]? = some x) (hk : X.env.scope.names.lookup x = some .local)
  (h : ∀ s', Inv X pins (σ.set i none) H s' → Q () s') : wpAny M A (do bindName X.env x .none; unbindBehindTheSuite X.env x pos) Q E s := by
 obtain ⟨m, hn, hl⟩ := id I.loc
 have hcls : (X.env.scope.kind == .class || (X.env.scope.kind == .module && X.env.locals != X.env.globals)) = false := by rw [I.ok.kind]; rfl
 have hiσ : i < σ.length := by rw [I.len]; exact (List.getElem?_eq_some_iff.mp hi).1
 have cne := I.cne
 refine wpAny_nameGoes_keeps hk hn hcls (fun h' vv hn' hs => ?_)
 obtain ⟨oL, _, _, hoL, _⟩ := id hn
 have tracked : HOk X.prog X.w H h' := fun b ob e => by
  refine (I.hok b ob e).stay (fun c w' hc q => (hs.2 c ?_).trans q) (fun _ q => q) fun _ _ q => q
  rintro rfl
  rcases hc with rfl | hc
  ·rw [I.free] at e; cases e
  ·rw [I.free] at hc; cases hc
 refine h _ ⟨I.ok, I.os, I.bare, ⟨fun b o e n hb hx => ?_, fun b o e n hb hx => ?_, I.base.free, fun b o e hx => ?_, I.base.tups, I.base.frzs, I.base.tbls⟩, ⟨_, hn', fun j y v' e1 e2 e3 => ?_⟩, fun y c e => ?_, I.free, I.freeC, fun p hp => ?_, tracked, by simpa using I.len⟩
 ·exact (hs.2 b (Nat.ne_of_lt (Nat.lt_of_lt_of_le (Heap.lt_size e) I.ok.above))).trans (I.base.keep b o e n hb hx)
 ·obtain ⟨sl, e1⟩ := I.base.slot b o e n hb hx
  exact ⟨sl, (hs.2 b (Nat.ne_of_lt (Nat.lt_of_lt_of_le (Heap.lt_size e) I.ok.above))).trans e1⟩
 ·obtain ⟨o', e1⟩ := I.base.there b o e hx
  exact ⟨o', (hs.2 b (Nat.ne_of_lt (Nat.lt_of_lt_of_le (Heap.lt_size e) I.ok.above))).trans e1⟩
 ·by_cases hj : j = i
  ·subst hj
   rw [List.getElem?_set_self hiσ] at e2
   cases e2
  ·rw [List.getElem?_set_ne (Ne.symm hj)] at e2
   obtain ⟨u', r', q⟩ := hl j y v' e1 e2 e3
   refine ⟨u', r', ?_⟩
   rcases q with ⟨k, e⟩ | ⟨k, c, e, z⟩
   ·refine .inl ⟨k, ?_⟩
    have : y ≠ x := fun e => hj (nodup_ix hN e1 (e ▸ hi))
    simp [this, e]
   ·exact .inr ⟨k, c, e, z.sameBut hs (cne y c e)⟩
 ·obtain ⟨w', z⟩ := I.cell y c e
  exact ⟨w', z.sameBut hs (cne y c e)⟩
 ·obtain ⟨e, n, ne, nf, d⟩ := I.pin p hp
  exact ⟨(hs.2 p.1 ne).trans e, n, ne, nf, d⟩
theorem Inv.track {a : Addr} {o : HO} (I : Inv X pins σ H s) (hn : H a = none) (new : X.s₀.heap.get? a = none) (hL : X.env.locals ≠ a) (hC : ∀ x c, X.env.cells.lookup x = some c → c ≠ a) (hp : ∀ p ∈ X.pn ++ pins, p.1 ≠ a)
  (hO : ObjOk X.prog X.w (upd H a o) s.heap a o) : Inv X pins σ (upd H a o) s := by
 have ne : ∀ b u, H b = some u → b ≠ a := fun b u q z => by rw [z, hn] at q; cases q
 have nw : ∀ b u, X.s₀.heap.get? b = some u → b ≠ a := fun b u q z => by rw [z, new] at q; cases q
 refine ⟨I.ok, I.os, I.bare, ⟨I.base.keep, I.base.slot, fun b u q n hx => by rw [upd_ne (nw b u q)]; exact I.base.free b u q n hx, I.base.there, fun b xs q => ?_, fun b u xs q => ?_, fun b ps q => ?_⟩, I.loc, I.cell, by rw [upd_ne hL]; exact I.free, fun x c e => by rw [upd_ne (hC x c e)]; exact I.freeC x c e, fun p z => ?_, fun b u e => ?_, I.len⟩
 ·have := I.base.tups b xs q
  rw [upd_ne (ne _ _ this)]; exact this
 ·have := I.base.frzs b u xs q
  rw [upd_ne (ne _ _ this)]; exact this
 ·obtain ⟨m, this⟩ := I.base.tbls b ps q
  exact ⟨m, by rw [upd_ne (ne _ _ this)]; exact this⟩
 ·obtain ⟨e, n, ne', nf, d⟩ := I.pin p z
  exact ⟨e, by rw [upd_ne (hp p z)]; exact n, ne', nf, d⟩
 ·by_cases h : b = a
  ·subst h
   rw [upd_same] at e
   cases e
   exact hO
  ·rw [upd_ne h] at e
   exact (I.hok b u e).stay (fun _ _ _ q => q) (fun c q => by rw [upd_ne (ne _ _ q)]; exact q) fun c xs q => by rw [upd_ne (ne _ _ q)]; exact q
end
section
variable {X : Cx} {S : Addr} {cls n c : Str} {i j : Nat} {np cp np2 apos hpos pos : Pos} {body : List Stmt} {tb : XK → TS}
def tTry (K : PySem.W.Frag) (S : Addr) (i j : Nat) (tb : XK → TS) : TS := fun D σ H =>
 tb (fun C _ H' => PySem.W.exmOne K C (.ref S) = some true ∧ ∀ ea : Addr, H' ea = none → D.nx ((σ.set i (some (.ref ea))).set j none) (upd H' ea (.ext (ExcAt ea C)))) D σ H
theorem ps_try (hb : PB X body tb) (hst : X.stack = X.env :: X.outer) (hfr : X.env.frame = some X.env.locals) (hex : X.ex = []) (hN : X.N.Nodup) (hg : Gl X cls) (hm : X.mg cls = some (.ref S)) (hi : X.N[i]? = some c) (hc : Loc X.env.scope c)
  (hj : X.N[j]? = some n) (hn : X.env.scope.names.lookup n = some .local) (hij : i ≠ j)
  (hd : (cls == ("__debug__" : Str)) = false := by decide) (hnd : (n == ("__debug__" : Str)) = false := by decide) (hcd : (n == ("__classdict__" : Str)) = false := by decide)
  (hs : swapsWith (.Name n np2) (some (.Name c cp)) apos.line X.env = pure false := by rfl) (hf : X.fn c = true ∨ X.env.scope.names.lookup c = some .local := by first | exact .inl rfl | exact .inr rfl | assumption) :
  PS X (.Try body [.ExceptHandler (some (.Name cls np)) (some n) [.Assign [.Name c cp] (.Name n np2) apos] hpos] [] [] pos) (tTry X.K S i j tb) := by
 intro pins s σ H D I h
 refine wpAny_Try_except (wpAny_mono (hb pins s σ H D _ (fun e s₁ => wpAny (model X.prog X.w) X.A (noteFrame e X.env) (fun _ s₂ => wpAny (model X.prog X.w) X.A (setFlight e none) (fun _ s₃ => wpAny (model X.prog X.w) X.A (handleBy e X.env [.ExceptHandler (some (.Name cls np)) (some n) [.Assign [.Name c cp] (.Name n np2) apos] hpos]) (SP X pins D) X.xe s₃) X.xe s₂) X.xe s₁) I (fun H1 s1 e s' I1 hx => ?_) h) (fun fl s1 q => ?_) fun _ _ z => z)
 ·obtain ⟨ea, C, a0, H', B, rfl, os, bare, un, hok, fl, hB, hn', hE, hk⟩ := hx
  rw [hst] at fl
  refine wpAny_looks_onW (outer := X.outer) (by rw [I1.ok.frames, hst]) hfr fl fun h₄ held₄ up₄ => ?_
  refine wpAny_landsW held₄ fun h₅ fl₅ up₅ => ?_
  have J := I1.flown os bare un hok hB fl₅.1 (up₄.trans up₅)
  have LT : PySem.W.Looks (model X.prog X.w) h₅ (typeOf (.ref ea)) C := by
   obtain ⟨ob, hob, hobc⟩ := fl₅.there
   exact hobc ▸ (PySem.W.Looks.ld hob).andThen .now
  refine wpAny_handleBy_cons (codeAny_handlers_test (ld_glob (J.mark (.ref ea)) hg hm ?_ hd)) (by intro q; cases q)
  refine PySem.W.Looks.here (PySem.W.exm_one (K := X.K) J.kIn LT hE) ?_
  refine codeAny_handlers_suite_as (lands_againW fl₅ fun h₆ fl₆ up₆ => ?_)
  have J6 := I1.flown os bare un hok hB fl₆.1 ((up₄.trans up₅).trans up₆)
  obtain ⟨oe, ws, hoe, hoec, hoed, _⟩ := fl₆.first
  have nofr : ea ∉ frs X.stack := fun m => by
   rw [hst] at m
   obtain ⟨_, o, q, nf⟩ := fl₆.2.2.1.mem m
   rw [hoe] at q
   cases q
   exact nf _ hoed
  have inB : ∀ b o, s1.heap.get? b = some o → b ∉ frs X.stack → b ≠ ea := fun b o q m z => by
   obtain ⟨o', q'⟩ := un.there b o q (by simp)
   have e := hB b o' q' (.inl ⟨⟨o, q⟩, m⟩)
   rw [z, fl₆.2.1] at e
   cases e
  have hLs : X.env.locals ∈ frs X.stack := by
   rw [hst]
   unfold frs
   rw [List.filterMap_cons, hfr]
   exact List.mem_cons_self
  have T : Inv X pins σ (upd H' ea (.ext (ExcAt ea C))) { s' with heap := h₆ } := by
   refine J6.track hn' ?_ (fun z => nofr (z ▸ hLs)) (fun x c e z => ?_) (fun p hp => ?_) ⟨⟨oe, ws, hoe, hoec, hoed⟩, ⟨oe, hoe⟩, fun a b ⟨o, us, q1, q2⟩ k => ⟨o, us, k o q1, q2⟩⟩
   ·cases q : X.s₀.heap.get? ea with
    | none => rfl
    | some o =>
     have ib := I1.base
     rw [hex] at ib
     obtain ⟨o1, q1⟩ := ib.there ea o q (by simp)
     exact absurd rfl (inB ea o1 q1 nofr)
   ·obtain ⟨v, o, q, d⟩ := J6.cell x c e
    have q' : h₆.get? c = some o := q
    rw [z, hoe] at q'
    cases q'
    rw [hoed] at d
    cases d
   ·obtain ⟨e, n, ne, nf, d⟩ := I1.pin p hp
    refine inB p.1 p.2 e fun m => ?_
    rw [hst] at m
    unfold frs at m
    rw [List.filterMap_cons, hfr] at m
    rcases List.mem_cons.mp m with z | z
    ·exact ne z
    ·exact nf z
  have hjσ : j < σ.length := by rw [I1.len]; exact (List.getElem?_eq_some_iff.mp hj).1
  refine store_ok T hN hj (.inl hn) (show RelV (.ref ea) (.ref ea) from rfl) (fun s7 I7 => ?_) (.inr hn)
  refine wpAny_mono (pss_one (ps_set (X := X.mark (.ref ea)) hN hi hc (pe_var hj (.inl hn) hnd hcd) hs hf) pins s7 _ _ { nx := fun σ' H'' => σ' = (σ.set j (some (.ref ea))).set i (some (.ref ea)) ∧ H'' = upd H' ea (.ext (ExcAt ea C)), rt := fun _ _ => False } (I7.mark (.ref ea)) ⟨.ref ea, List.getElem?_set_self hjσ, rfl, rfl⟩) (fun fl s8 q => ?_) (fun _ _ z => z.elim)
  cases fl with
  | next =>
   obtain ⟨σ', H'', I8, rfl, rfl⟩ := q
   refine goes_ok (Inv.unmark I1.ok I8) hN hj hn fun s9 I9 => ⟨_, _, I9, ?_⟩
   have e : ((σ.set j (some (V.ref ea))).set i (some (.ref ea))).set j none = (σ.set i (some (.ref ea))).set j none := by
    rw [List.set_comm _ _ (Ne.symm hij), List.set_set]
   rw [e]
   exact hk ea hn'
  | ret v => obtain ⟨_, _, _, _, _, z⟩ := q; exact z.elim
  | brk => obtain ⟨_, _, _, z⟩ := q; exact z.elim
  | cont => obtain ⟨_, _, _, z⟩ := q; exact z.elim
 ·cases fl with
  | next => exact wpAny_execs_nil q
  | ret v => exact q
  | brk => exact q
  | cont => exact q
end
end L2
namespace L2
open PySem PySem.Spec PyProof.Rows PySem.W PySem.Builtin PySem.Builtin.ObjectAttr PySem.Builtin.Getset_descriptor
section
variable {prog : Program} {w : World} {A : Around} {E : Value → Shared → Prop} {h : Heap} {g : Array GenState} {d : Drawn} {t : Nat} {os : OsState} {K : PySem.W.Frag} {a C : Addr} {o : Obj}
theorem exc_class_get {tp : Value} {R : Result → Shared → Prop} (X : K.In h) (hx : h.get? a = some o) (hc : o.cls = .ref C) (hm : mroIn K C (.type "object") = some true)
  (q : R (.ok (.ret (.ref C))) ⟨h, g, d, t, os⟩) : codeAny (model prog w) A (.call (.builtin "getset_descriptor.__get__") ⟨[.builtin "object.__class__", .ref a, tp], []⟩) R ⟨h, g, d, t, os⟩ := by
 have L0 : Looks (model prog w) h (typeOf (.ref a)) (.ref C) := hc ▸ (Looks.ld hx).andThen .now
 have L1 := looks_mroIn (M := model prog w) X hm
 refine codeAny_call_builtin KF.slot_gs.plain KF.entry_gs (KF.slot_gs.check _ _ _ _ _ _ _ _ KF.type_class (KF.args_gs _ _ _) ?_)
 unfold Builtin.«getset_descriptor.__get__» descrGet
 rw [dga_obj]
 refine wpAny_bind (wpAny_pure ?_)
 unfold descrGetter descrCheckInstance descrNameAndClass isInstance
 simp only [KF.owner_class]
 repeat lk
 refine ⟨Code.quiet_builtin _ (by decide +kernel), codeAny_builtin KF.entry_class ?_⟩
 unfold Builtin.«object.__class__» shownTypeOf
 repeat lk
 exact q
structure ExcCls (K : PySem.W.Frag) (C : Addr) : Prop where
 ga : findIn K (.ref C) "__getattribute__" = some (some (.builtin "BaseException.__getattribute__"))
 gh : findIn K (.ref C) "__getattr__" = some none
 ca : findIn K (.ref C) "__class__" = some (some (.builtin "object.__class__"))
 ob : mroIn K C (.type "object") = some true
 be : mroIn K C (.type "BaseException") = some true
 cl : (clsIn K C).isSome = true
 hn : specialIn K (.builtin "object.__class__") "__get__" = some (some (.builtin "getset_descriptor.__get__"))
 htk : takesIn K (.builtin "object.__class__") = some true
theorem exc_find {M : Model} (X : K.In h) (c : ExcCls K C) : Looks M h (find (.ref a) (.ref C) "__class__") (.bind (.builtin "getset_descriptor.__get__") (.builtin "object.__class__")) := by
 refine (looks_findIn X c.ca).andThen ((looks_specialIn X c.hn).andThen ?_)
 exact (show Looks M h (dataDescriptor? (some (.builtin "object.__class__")) (some (.builtin "getset_descriptor.__get__"))) _ from (looks_takesIn X c.htk).andThen .now).andThen (Looks.tag .now)
theorem exc_entry {tk : Tok} {Q : Fin → Shared → Prop} (X : K.In h) (c : ExcCls K C) (hx : h.get? a = some o) (hc : o.cls = .ref C) (q : Q (.done (.ret (.ref C))) ⟨h, g, d, t, os⟩) :
  wpAny (model prog w) A (Builtin.«object.__getattribute__» ⟨[.ref a, .str "__class__" tk], []⟩) Q E ⟨h, g, d, t, os⟩ := by
 have L0 : Looks (model prog w) h (typeOf (.ref a)) (.ref C) := hc ▸ (Looks.ld hx).andThen .now
 have L1 := exc_find (M := model prog w) (a := a) X c
 unfold Builtin.«object.__getattribute__»
 refine wpAny_bind (wpAny_pure (wpAny_bind (wpAny_pure (wpAny_bind (L0.at (wpAny_bind (L1.at ?_)))))))
 refine wpAny_bind (wpAny_holding (wpAny_call (exc_class_get X hx hc c.ob ?_)))
 exact wpAny_pure q
theorem exc_check {M : Model} {nameV : Value} {Q : Unit → Shared → Prop} (X : K.In h) (c : ExcCls K C) (hx : h.get? a = some o) (hc : o.cls = .ref C) (q : Q () ⟨h, g, d, t, os⟩) : wpAny M A (checkBuiltinCall "BaseException.__getattribute__" ⟨[.ref a, nameV], []⟩) Q E ⟨h, g, d, t, os⟩ := by
 have hk : builtinKind "BaseException.__getattribute__" = some .slot := by decide +kernel
 have hsplit : splitId "BaseException.__getattribute__" = some ("BaseException", "__getattribute__") := by decide +kernel
 have ha := F.args_bexc_ga (.ref a) nameV
 have L0 : Looks M h (typeOf (.ref a)) (.ref C) := hc ▸ (Looks.ld hx).andThen .now
 have LI : Looks M h (isInstance (.ref a) (.type "BaseException")) true := L0.andThen (looks_mroIn X c.be)
 simp only [checkBuiltinCall, hk, hsplit]
 refine wpAny_bind (LI.at ?_)
 repeat (first | wp_step)
 exact q
theorem exc_by {tk : Tok} {Q : Value → Shared → Prop} (X : K.In h) (c : ExcCls K C) (hx : h.get? a = some o) (hc : o.cls = .ref C) (q : Q (.ref C) ⟨h, g, d, t, os⟩) :
  wpAny (model prog w) A (getAttrBy (.ref a) (.str "__class__" tk) false) Q E ⟨h, g, d, t, os⟩ := by
 have L0 : Looks (model prog w) h (typeOf (.ref a)) (.ref C) := hc ▸ (Looks.ld hx).andThen .now
 have L1 := looks_findIn (M := model prog w) X c.ga
 have L2 := looks_findIn (M := model prog w) X c.gh
 have hb : bindSpecial (.builtin "BaseException.__getattribute__") (.ref a) = pure (.builtin "BaseException.__getattribute__", [.ref a]) := by
  have hop : withoutEnding? "BaseException.__getattribute__" "#opaque" = none := by decide +kernel
  have hdat : withoutEnding? "BaseException.__getattribute__" "#data" = none := by decide +kernel
  have hk : builtinKind "BaseException.__getattribute__" = some .slot := by decide +kernel
  simp only [bindSpecial, typeOf, builtinType, hop, hdat, hk]; rfl
 have hx2 : (Value.builtin "BaseException.__getattribute__" == Value.builtin "object.__getattribute__") = false := by decide +kernel
 have hx1 : (onTheHeap (Value.ref C) && Value.builtin "BaseException.__getattribute__" == Value.builtin "object.__getattribute__") = false := by rw [hx2]; rfl
 unfold getAttrBy
 refine wpAny_holding (wpAny_bind (L0.at (wpAny_bind (L1.at ?_))))
 dsimp only
 rw [hx1, if_neg Bool.false_ne_true]
 unfold getAttrByItsOwn hookBefore
 rw [show onTheHeap (Value.ref C) = true from rfl, if_pos rfl]
 refine wpAny_bind (L2.at (wpAny_bind (wpAny_attempt (wpAny_holding ?_))))
 unfold callGetattribute
 rw [Bool.false_and, if_neg Bool.false_ne_true]
 unfold boundAndCalled
 rw [hb]
 refine wpAny_bind (wpAny_pure ?_)
 refine wpAny_call (codeAny_call_builtin (by decide +kernel) F.entry_bexc_ga (exc_check X c hx hc (exc_entry X c hx hc ?_)))
 exact wpAny_pure q
theorem kitx_exc (c : ExcCls K C) : KitX K (.ref a) (.ref C) (ExcAt a (.ref C)) where
 ty := fun _ _ _ ⟨_, _, hx, hc, _⟩ => hc ▸ (Looks.ld hx).andThen .now
 it := fun _ _ X _ => by
  have hcD := c.cl
  unfold clsIn at hcD
  split at hcD
  ·rename_i c' d' cd' sl' ho
   intro A' Q' E' s' k q
   unfold isType loadHead
   exact wpAny_bind (wpAny_loadPart (k _ _ (X _ _ ho)) (wpAny_pure q))
  ·cases hcD
 ne := fun h tp dd its n sl X htp => by
  have hcD := c.cl
  refine Bool.eq_false_iff.mpr fun q => ?_
  have e : C = tp := Value.ref.inj (beq_iff_eq.mp q)
  subst e
  unfold clsIn at hcD
  split at hcD
  ·rename_i c' d' cd' sl' ho
   have z := (X _ _ ho).symm.trans htp
   cases z
  ·cases hcD
 ca := fun {_ _ _ _ _ s} X ⟨_, _, hx, hc, _⟩ k => by
  obtain ⟨h, g, d, t, os⟩ := s
  unfold getAttr? getAttrBy?
  refine wpAny_bind (wpAny_mkText (wpAny_bind (wpAny_attempt (exc_by X c hx hc ?_))))
  exact wpAny_pure k
end
end L2
namespace L2
open PySem PySem.Spec PyProof.Rows
def rIsiE (K : PySem.W.Frag) : List V → Hp → VK → Prop := fun vs H Q => ∃ (ea D : Addr) (c : V) (cv : Value) (b : Bool), vs = [.ref ea, c] ∧ H ea = some (.ext (ExcAt ea (.ref D))) ∧ ExcCls K D ∧ (∀ u, RelV c u → u = cv) ∧ PySem.W.kitOne K (.ref D) cv = some b ∧ Q (.bl b) H
theorem call_isiE {X : Cx} : CallR X (.builtin "isinstance") (rIsiE X.K) := by
 intro pins s σ H vs us Q I r ⟨ea, D, c, cv, b, e, h, hc, hu, hk, q⟩
 subst e
 obtain ⟨u, v, rfl, h1, h2⟩ := r.two
 cases h1
 cases hu _ h2
 have ho : ExcAt ea (.ref D) s.heap := (I.hok ea _ h).1
 exact PySem.W.kia_one (kitx_exc hc) I.kIn ho hk (fun z => nomatch z) fun tk => ⟨.bl b, H, I.tok tk, rfl, q⟩
end L2
namespace N36
open PySem PySem.Spec PyProof.Rows L2
abbrev Kee (K : PySem.W.Frag) (f : Addr) : Prop := PySem.W.keepIn K (.ref f) = true
theorem two_le : 2 ≤ sizeLine := by decide
variable {P : Program} {w : World} {K : PySem.W.Frag} {mg : Str → Option Value} {base : Heap}
def top (i : Nat) : Stmt := PySem.Challenge.pw_nearsums_k36_no_parts_and_no_places.main.body.getD i (.Pass ⟨0, 0, 0, 0⟩)
structure Bt (mg : Str → Option Value) : Prop where
 len : mg "len" = none
 max : mg "max" = none
 min : mg "min" = none
 range : mg "range" = none
 list : mg "list" = none
 int : mg "int" = none
structure Dk (H : Hp) (d p : Addr) (qs : List Addr) : Prop where
 dk : ∃ c : Int, H d = some (.lst [.ref p, .int c])
 pl : H p = some (.lst (qs.map V.ref))
 ne : 0 < qs.length
 le : qs.length ≤ 63
 q : ∀ q ∈ qs, ∃ a b c : Int, H q = some (.lst [.int a, .int b, .int c])
theorem small {n : Nat} (h : n ≤ 1000) : n ≤ sizeLine := Nat.le_of_lt (small1000 h)
structure Bt2 (mg : Str → Option Value) : Prop extends Bt mg where
 all : mg "all" = none
 isinstance : mg "isinstance" = none
 bool : mg "bool" = none
 str : mg "str" = none
 tuple : mg "tuple" = none
 sorted : mg "sorted" = none
theorem none_of_same {H H' : Hp} {p : Addr} (g : Same H H') (h : H' p = none) : H p = none := by
 cases e : H p with
 | none => rfl
 | some o => rw [g _ _ e] at h; cases h
structure Rise (xs : List Int) : Prop where
 up : xs.Pairwise (· < ·)
 bd : ∀ x ∈ xs, 0 ≤ x
structure PlanOk (ns ss : List Int) : Prop where
 n : Rise ns
 s : Rise ss
 n1 : 1 ≤ ns.length
 n2 : ns.length ≤ 10
 s2 : ss.length ≤ 10
theorem comp_true {x : V} {σ : L2.St} {H : Hp} {A B : L2.St → Hp → Prop} (h : A (σ.set 0 (some x)) H) : gName 0 x σ H fun σ2 H2 => tTrue σ2 H2 fun b H3 => if b = true then A σ2 H3 else B σ2 H3 := by
 have z : (if true = true then A (σ.set 0 (some x)) H else B (σ.set 0 (some x)) H) := iteT h
 exact z
theorem erase_map {α β : Type} (f : α → β) : ∀ (l : List α) (i : Nat), (l.map f).eraseIdx i = (l.eraseIdx i).map f
 | [], _ => rfl
 | _ :: _, 0 => rfl
 | x :: r, i + 1 => by
  rw [List.map_cons, List.eraseIdx_cons_succ, List.eraseIdx_cons_succ, List.map_cons, erase_map f r i]
theorem strict {xs : List Int} (h : xs.Pairwise (· ≤ ·)) (n : xs.Nodup) : xs.Pairwise (· < ·) := by
 induction xs with
 | nil => exact .nil
 | cons x r ih =>
  rw [List.pairwise_cons] at h ⊢
  rw [List.nodup_cons] at n
  refine ⟨fun y hy => ?_, ih h.2 n.2⟩
  have h1 := h.1 y hy
  have h2 : x ≠ y := fun e => n.1 (e ▸ hy)
  omega
structure Bt3 (mg : Str → Option Value) : Prop extends Bt2 mg where
 enumerate : mg "enumerate" = none
abbrev sCell : Stmt := top 33
abbrev sSto : Stmt := top 34
abbrev sTkT : Stmt := top 35
abbrev sNuT : Stmt := top 36
def StT (H : Hp) (d : Addr) : Prop := ∃ g c k : Int, H d = some (.lst [.int g, .int c, .int k])
def OffT (d : Addr) (H H' : Hp) : Prop := ∀ b, b ≠ d → H' b = H b
theorem OffT.ex {d : Addr} {H H' : Hp} (o : OffT d H H') : Ex (· = d) H H' := fun b u n h => (o b n).trans h
theorem StT.ex {H H' : Hp} {d : Addr} (S : StT H d) (g : Same H H') : StT H' d := let ⟨a, b, c, h⟩ := S; ⟨a, b, c, g _ _ h⟩
theorem StT.out {H : Hp} {d x : Addr} (S : StT H d) (h : H x = none) : x ≠ d := fun z => by
 obtain ⟨a, b, c, e⟩ := S
 rw [z, e] at h
 cases h
theorem StT.off {H : Hp} {d x : Addr} {o : HO} (S : StT H d) (h : x ≠ d) : StT (upd H x o) d := let ⟨a, b, c, e⟩ := S; ⟨a, b, c, by rw [upd_ne (Ne.symm h)]; exact e⟩
theorem exT {d x : Addr} {H H' : Hp} (S : StT H' d) (o : Ex (· = d) H H') (h : H' x = none) : H x = none := by
 cases e : H x with
 | none => rfl
 | some u =>
  have z := o x u (S.out h) e
  rw [h] at z; cases z
def spCell (K : PySem.W.Frag) : Sp := fun vs H Q _ => ∃ (a : Addr) (ns : List Int) (k : Int), vs = [.ref a, .int k] ∧ SqL K H a (ns.map V.int) ∧ 0 ≤ k ∧ k < 100 ∧ ∀ r : Int, Q (.int r) H
def spStT : Sp := fun vs H Q _ => ∃ cell : Int, vs = [.int cell] ∧ ∀ (d : Addr) (H' : Hp), Same H H' → H d = none → StT H' d → Q (.ref d) H'
def spTkT : Sp := fun vs H Q _ => ∃ (d : Addr) (many : Int), vs = [.ref d, .int many] ∧ StT H d ∧ 0 < many ∧ many < 2 ^ 100 ∧ ∀ (r : Int) (H' : Hp), 0 ≤ r → r < many → StT H' d → OffT d H H' → Q (.int r) H'
def spNuT : Sp := fun vs H Q _ => ∃ d : Addr, vs = [.ref d] ∧ StT H d ∧ ∀ (l : Addr) (ns : List Int) (H' : Hp), Ex (· = d) H H' → StT H' d → H l = none → H' l = some (.lst (ns.map V.int)) → Rise ns → 1 ≤ ns.length → ns.length ≤ 10 → (∀ x ∈ ns, x < 5 * 10 ^ 25) → Q (.ref l) H'
theorem rise_on0 {low : Int} (h0 : 0 ≤ low) (n : Nat) : Rise ((List.range n).map fun k : Nat => low + (k : Int)) := by
 refine ⟨?_, fun x hx => ?_⟩
 ·rw [List.pairwise_map]
  exact List.pairwise_lt_range.imp fun h => by omega
 ·obtain ⟨k, _, rfl⟩ := List.mem_map.mp hx
  omega
theorem set_len {ys xs : List Int} (up : ys.Pairwise (· < ·)) (m : ∀ y, y ∈ ys ↔ y ∈ xs) : ys.length ≤ xs.length := by
 have nd : ys.Nodup := up.imp fun h => by omega
 exact sub_lenI nd fun y hy => (m y).mp hy
section
variable {f tk : Addr} {fd tkd : FuncData}
theorem scCell : FnScope ["script", "k"] ["script", "k"] (defScope sCell) := ⟨rfl, rfl, rfl, by decide +kernel, rfl, by decide +kernel, by decide +kernel⟩
theorem ok_cell (F : Fun K "_law_cell" "_law_cell" sCell f fd) (B : Bt3 mg) : FnOk P w K mg base CX0 1 f fd ["script", "k"] (spCell K) := by
 refine F.ok scCell (fun vs H Q E h => ?_) (fun cdv A outer s H vs Q E hr h => ?_)
 ·obtain ⟨a, ns, k, rfl, _⟩ := h
  rfl
 obtain ⟨a, ns, k, rfl, hS, k0, k1, q⟩ := h
 refine ⟨_, (@pss_cons _ _ _ _ _ (ps_if (pt_cmpR op_lt (pv 1) (pe_callB call_len_seq rfl B.len PySem.boot_len (pa_cons (pv 0) pa_nil)) (nomark _)) (@pss_one _ _ _ (ps_ret (pe_ix ix_list (pv 0) (pv 1) (fun _ _ => rfl)))) pss_nil) (@pss_one _ _ _ (ps_ret (pe_op op_add (pe_op op_add (pe_op op_mul (pe_op op_mul pe_int (pv 1)) (pv 1)) (pe_op op_mul pe_int (pv 1))) pe_int)))), ?_⟩
 have nml : (ns.map V.int).length = ns.length := List.length_map _
 refine ⟨_, rfl, _, rfl, a, _, rfl, .inl hS, _, _, rfl, rfl, _, rfl, ite2 (fun c => ?_) (fun c => ?_)⟩
 ·have h1 : k < ((ns.map V.int).length : Nat) := of_decide_eq_true c
  rw [nml] at h1
  obtain ⟨v, hv, _⟩ := pick_int ns k0 h1
  exact ⟨_, rfl, _, rfl, a, _, _, _, rfl, rfl, hS, hv, q _⟩
 ·exact ⟨_, rfl, _, _, rfl, rfl, .inl ⟨by decide, by decide⟩, _, rfl, _, _, rfl, rfl, .inr ⟨by omega, by omega⟩, _, rfl, _, _, rfl, rfl, .inl ⟨by decide, by decide⟩, _, _, rfl, rfl, _, _, rfl, rfl, q _⟩
theorem scSto : FnScope ["cell", "great"] ["cell"] (defScope sSto) := ⟨rfl, rfl, rfl, by decide +kernel, rfl, by decide +kernel, by decide +kernel⟩
theorem ok_stT (F : Fun K "_law_store" "_law_store" sSto f fd) : FnOk P w K mg base CX0 1 f fd ["cell"] spStT := by
 refine F.ok scSto (fun vs H Q E h => ?_) (fun cdv A outer s H vs Q E hr h => ?_)
 ·obtain ⟨c, rfl, _⟩ := h
  rfl
 obtain ⟨c, rfl, q⟩ := h
 refine ⟨_, (@pss_cons _ _ _ _ _ (ps_set (i := 1) scSto.nd rfl (Or.inl rfl) pe_int) (@pss_cons _ _ _ _ _ (ps_if (pt_cmpR op_ge (pv 0) (pe_op op_pow pe_int pe_int) (nomark _)) (@pss_one _ _ _ (ps_set (i := 1) scSto.nd rfl (Or.inl rfl) (pv 0))) pss_nil) (@pss_one _ _ _ (ps_ret (pe_lst (pa_cons (pv 1) (pa_cons (pe_op op_mod (pv 0) pe_int) (pa_cons pe_int pa_nil)))))))), ?_⟩
 refine ⟨_, rfl, _, _, rfl, rfl, ⟨by decide, by decide, by decide⟩, _, _, rfl, rfl, _, rfl, ite2 (fun _ => ?_) (fun _ => ?_)⟩
 ·exact ⟨_, rfl, _, rfl, _, rfl, _, _, rfl, rfl, (by show (0 : Int) < 2147483629; decide), (by show 3 ≤ sizeLine; decide), fun d hd => q d _ (Same.new hd _) hd ⟨_, _, _, upd_same⟩⟩
 ·exact ⟨_, rfl, _, rfl, _, _, rfl, rfl, (by show (0 : Int) < 2147483629; decide), (by show 3 ≤ sizeLine; decide), fun d hd => q d _ (Same.new hd _) hd ⟨_, _, _, upd_same⟩⟩
theorem scTkT : FnScope ["store", "many", "told", "one"] ["store", "many"] (defScope sTkT) := ⟨rfl, rfl, rfl, by decide +kernel, rfl, by decide +kernel, by decide +kernel⟩
theorem ok_tkT (F : Fun K "_law_take" "_law_take" sTkT f fd) : FnOk P w K mg base CX0 1 f fd ["store", "many"] spTkT := by
 refine F.ok scTkT (fun vs H Q E h => ?_) (fun cdv A outer s H vs Q E hr h => ?_)
 ·obtain ⟨d, many, rfl, _⟩ := h
  rfl
 obtain ⟨d, many, rfl, ⟨g, c, k, hd⟩, m0, m1, q⟩ := h
 refine ⟨_, (@pss_cons _ _ _ _ _ (ps_if (pt_cmpR op_gt (pe_ix ix_list (pv 0) pe_int (fun _ _ => rfl)) pe_int (nomark _)) (@pss_cons _ _ _ _ _ (ps_set (i := 2) scTkT.nd rfl (Or.inl rfl) (pe_op op_mod (pe_ix ix_list (pv 0) pe_int (fun _ _ => rfl)) (pv 1))) (@pss_cons _ _ _ _ _ (ps_asg (pe_op op_fdivB (pe_ix ix_list (pv 0) pe_int (fun _ _ => rfl)) (pv 1)) (pg_sub (pv 0) pe_int set_list)) (@pss_one _ _ _ (ps_ret (pv 2))))) pss_nil) (@pss_cons _ _ _ _ _ (ps_asg (pe_op op_add (pe_ix ix_list (pv 0) pe_int (fun _ _ => rfl)) pe_int) (pg_sub (pv 0) pe_int set_list)) (@pss_cons _ _ _ _ _ (ps_set (i := 3) scTkT.nd rfl (Or.inl rfl) (pe_op op_mod (pe_op op_mul (pe_op op_add (pe_ix ix_list (pv 0) pe_int (fun _ _ => rfl)) (pe_op op_mul pe_int (pe_ix ix_list (pv 0) pe_int (fun _ _ => rfl)))) pe_int) pe_int)) (@pss_cons _ _ _ _ _ (ps_set (i := 3) scTkT.nd rfl (Or.inl rfl) (pe_op op_mod (pe_op op_mul (pv 3) (pv 3)) pe_int)) (@pss_cons _ _ _ _ _ (ps_set (i := 3) scTkT.nd rfl (Or.inl rfl) (pe_op op_mod (pe_op op_mul (pe_op op_add (pv 3) (pe_op op_mul pe_int (pe_ix ix_list (pv 0) pe_int (fun _ _ => rfl)))) pe_int) pe_int)) (@pss_one _ _ _ (ps_ret (pe_op op_mod (pe_op op_fdiv (pv 3) pe_int) (pv 1))))))))), ?_⟩
 refine ⟨_, rfl, d, _, 0, _, rfl, rfl, SqL.of hd, rfl, _, _, rfl, rfl, _, rfl, ite2 (fun _ => ?_) (fun _ => ?_)⟩
 ·refine ⟨_, rfl, d, _, 0, _, rfl, rfl, SqL.of hd, rfl, _, rfl, _, _, rfl, rfl, m0, ?_⟩
  refine ⟨_, rfl, d, _, 0, _, rfl, rfl, SqL.of hd, rfl, _, rfl, _, _, rfl, rfl, ⟨m0, m1⟩, _, rfl, d, _, 0, 0, rfl, rfl, hd, rfl, ?_⟩
  exact ⟨_, rfl, q _ _ (Int.emod_nonneg _ (by omega)) (Int.emod_lt_of_pos _ m0) ⟨_, _, _, upd_same⟩ fun b hb => upd_ne hb⟩
 ·refine ⟨_, rfl, d, _, 2, _, rfl, rfl, SqL.of hd, rfl, _, _, rfl, rfl, _, rfl, d, _, 2, 2, rfl, rfl, hd, rfl, ?_⟩
  have hd1 : (upd H d (.lst [.int g, .int c, .int (k + 1)])) d = some (.lst [.int g, .int c, .int (k + 1)]) := upd_same
  have o1 : OffT d H (upd H d (.lst [.int g, .int c, .int (k + 1)])) := fun b hb => upd_ne hb
  refine ⟨_, rfl, d, _, 1, _, rfl, rfl, SqL.of hd1, rfl, _, rfl, d, _, 2, _, rfl, rfl, SqL.of hd1, rfl, _, _, rfl, rfl, .inl ⟨by decide, by decide⟩, _, _, rfl, rfl, _, _, rfl, rfl, .inr ⟨by decide, by decide⟩, _, _, rfl, rfl, (by show (0 : Int) < 2147483647; decide), ?_⟩
  have b1 := Int.emod_nonneg ((c + 7919 * (k + 1)) * 48271) (show (2147483647 : Int) ≠ 0 by decide)
  have b2 := Int.emod_lt_of_pos ((c + 7919 * (k + 1)) * 48271) (show (0 : Int) < 2147483647 by decide)
  refine ⟨_, rfl, _, rfl, _, _, rfl, rfl, .inl ⟨by omega, by omega⟩, _, _, rfl, rfl, (by show (0 : Int) < 2147483629; decide), ?_⟩
  refine ⟨_, rfl, _, rfl, d, _, 2, _, rfl, rfl, SqL.of hd1, rfl, _, _, rfl, rfl, .inl ⟨by decide, by decide⟩, _, _, rfl, rfl, _, _, rfl, rfl, .inr ⟨by decide, by decide⟩, _, _, rfl, rfl, (by show (0 : Int) < 2147483587; decide), ?_⟩
  exact ⟨_, rfl, _, _, rfl, rfl, ⟨by decide, by decide⟩, _, rfl, _, _, rfl, rfl, m0, q _ _ (Int.emod_nonneg _ (by omega)) (Int.emod_lt_of_pos _ m0) ⟨_, _, _, hd1⟩ o1⟩
theorem scNuT : FnScope ["store", "many", "low", "wide"] ["store"] (defScope sNuT) := ⟨rfl, rfl, rfl, by decide +kernel, rfl, by decide +kernel, by decide +kernel⟩
theorem ok_nuT (F : Fun K "_law_numbers" "_law_numbers" sNuT f fd) (B : Bt3 mg) (zset : mg "set" = none)
  (GT : FnOk P w K mg base CX0 1 tk tkd ["store", "many"] spTkT) (bT : Binds K tkd ["store", "many"] []) (kT : Kee K tk) (mT : mg "_law_take" = some (.ref tk)) : FnOk P w K mg base CX0 2 f fd ["store"] spNuT := by
 refine F.ok scNuT (fun vs H Q E h => ?_) (fun cdv A outer s H vs Q E hr h => ?_)
 ·obtain ⟨d, rfl, _⟩ := h
  rfl
 obtain ⟨d, rfl, S0, q⟩ := h
 refine ⟨_, (@pss_cons _ _ _ _ _ (ps_set (i := 1) scNuT.nd rfl (Or.inl rfl) (pe_ix ix_list (pe_lst (pa_cons (pe_op op_add pe_int (pe_call GT hr rfl mT kT bT .nil pass0 (pa_cons (pv 0) (pa_cons pe_int pa_nil)))) (pa_cons (pe_op op_add pe_int (pe_call GT hr rfl mT kT bT .nil pass0 (pa_cons (pv 0) (pa_cons pe_int pa_nil)))) (pa_cons (pe_op op_add pe_int (pe_call GT hr rfl mT kT bT .nil pass0 (pa_cons (pv 0) (pa_cons pe_int pa_nil)))) (pa_cons pe_int pa_nil))))) (pe_call GT hr rfl mT kT bT .nil pass0 (pa_cons (pv 0) (pa_cons pe_int pa_nil))) (fun _ _ => rfl))) (@pss_cons _ _ _ _ _ (ps_set (i := 2) scNuT.nd rfl (Or.inr rfl) (pe_ix ix_list (pe_lst (pa_cons (pe_call GT hr rfl mT kT bT .nil pass0 (pa_cons (pv 0) (pa_cons pe_int pa_nil))) (pa_cons (pe_call GT hr rfl mT kT bT .nil pass0 (pa_cons (pv 0) (pa_cons pe_int pa_nil))) (pa_cons (pe_call GT hr rfl mT kT bT .nil pass0 (pa_cons (pv 0) (pa_cons (pe_op op_pow pe_int pe_int) pa_nil))) pa_nil)))) (pe_call GT hr rfl mT kT bT .nil pass0 (pa_cons (pv 0) (pa_cons pe_int pa_nil))) (fun _ _ => rfl))) (@pss_cons _ _ _ _ _ (ps_set (i := 3) scNuT.nd rfl (Or.inr rfl) (pe_ix ix_list (pe_lst (pa_cons (pv 1) (pa_cons (pv 1) (pa_cons pe_int (pa_cons pe_int (pa_cons (pe_op op_pow pe_int pe_int) pa_nil)))))) (pe_call GT hr rfl mT kT bT .nil pass0 (pa_cons (pv 0) (pa_cons pe_int pa_nil))) (fun _ _ => rfl))) (@pss_cons _ _ _ _ _ (ps_if (pt_cmpR op_eq (pv 3) (pv 1) (nomark _)) (@pss_one _ _ _ (ps_ret (pe_comp ["k"] rfl (blk_ok (defScope sNuT) ["store", "many", "low", "wide"] rfl rfl (by decide +kernel)) (pi_range1 rfl B.range (pa_cons (pv 1) pa_nil)) (fun pins C fp s3 H3 => ⟨(pg_name (i := 0) (show (blkN ["k"] ["store", "many", "low", "wide"]).Nodup by decide +kernel) rfl (Or.inl rfl)), pif_nil, (pe_op op_add (pv 3) (pv 0))⟩)))) pss_nil) (@pss_one _ _ _ (ps_ret (pe_sortSet rfl rfl B.sorted rfl zset (pe_comp ["k"] rfl (blk_ok (defScope sNuT) ["store", "many", "low", "wide"] rfl rfl (by decide +kernel)) (pi_range1 rfl B.range (pa_cons (pv 1) pa_nil)) (fun pins C fp s3 H3 => ⟨(pg_name (i := 0) (show (blkN ["k"] ["store", "many", "low", "wide"]).Nodup by decide +kernel) rfl (Or.inl rfl)), pif_nil, (pe_op op_add (pv 3) (pe_call GT hr rfl mT kT bT .nil pass0 (pa_cons (pv 1) (pa_cons (pv 4) pa_nil))))⟩))))))))), ?_⟩
 refine ⟨_, rfl, d, 3, rfl, S0, by decide, by decide, fun r1 H1 a1 b1 S1 o1 => ⟨_, _, rfl, rfl, ?_⟩⟩
 refine ⟨_, rfl, d, 4, rfl, S1, by decide, by decide, fun r2 H2 a2 b2 S2 o2 => ⟨_, _, rfl, rfl, ?_⟩⟩
 refine ⟨_, rfl, d, 4, rfl, S2, by decide, by decide, fun r3 H3 a3 b3 S3 o3 => ⟨_, _, rfl, rfl, (by show 4 ≤ sizeLine; decide), fun l4 hl4 => ?_⟩⟩
 refine ⟨_, rfl, d, 4, rfl, S3.ex (Same.new hl4 _), by decide, by decide, fun r4 H4 a4 b4 S4 o4 => ?_⟩
 obtain ⟨many, hmany, mmany⟩ := pick_int [1 + r1, 3 + r2, 5 + r3, 10] a4 b4
 refine ⟨l4, _, _, _, rfl, rfl, SqL.of ((o4 l4 (S3.out hl4)).trans upd_same), hmany, ?_⟩
 have mb : 1 ≤ many ∧ many ≤ 10 := by
  simp only [List.mem_cons, List.not_mem_nil, or_false] at mmany
  omega
 have E4 : Ex (· = d) H H4 := o1.ex.trans (o2.ex.trans (o3.ex.trans ((Ex.new _ hl4).trans o4.ex)))
 clear o1 o2 o3 o4 hl4 hmany mmany S0 S1 S2 S3 a1 b1 a2 b2 a3 b3 a4 b4
 refine ⟨_, rfl, d, 3, rfl, S4, by decide, by decide, fun r1 H1 a1 b1 S1 o1 => ?_⟩
 refine ⟨_, rfl, d, 3, rfl, S1, by decide, by decide, fun r2 H2 a2 b2 S2 o2 => ?_⟩
 refine ⟨_, rfl, _, _, rfl, rfl, ⟨by decide, by decide, by decide⟩, d, _, rfl, S2, by decide, by decide, fun r3 H3 a3 b3 S3 o3 => ⟨(by show 3 ≤ sizeLine; decide), fun l5 hl5 => ?_⟩⟩
 refine ⟨_, rfl, d, 3, rfl, S3.ex (Same.new hl5 _), by decide, by decide, fun r5 H5 a5 b5 S5 o5 => ?_⟩
 obtain ⟨low, hlow, mlow⟩ := pick_int [r1, r2, r3] a5 b5
 refine ⟨l5, _, _, _, rfl, rfl, SqL.of ((o5 l5 (S3.out hl5)).trans upd_same), hlow, ?_⟩
 have b3' : r3 < 10000000000000000000000000 := b3
 have lb : 0 ≤ low ∧ low < 10000000000000000000000000 := by
  simp only [List.mem_cons, List.not_mem_nil, or_false] at mlow
  omega
 have E5 : Ex (· = d) H H5 := E4.trans (o1.ex.trans (o2.ex.trans (o3.ex.trans ((Ex.new _ hl5).trans o5.ex))))
 clear o1 o2 o3 o5 hl5 hlow mlow S1 S2 S3 a1 b1 a2 b2 a3 b3 a5 b5 b3' E4 S4
 refine ⟨_, rfl, _, rfl, _, _, rfl, rfl, ⟨by decide, by decide, by decide⟩, (by show 5 ≤ sizeLine; decide), fun l6 hl6 => ?_⟩
 refine ⟨_, rfl, d, 5, rfl, S5.ex (Same.new hl6 _), by decide, by decide, fun r6 H6 a6 b6 S6 o6 => ?_⟩
 obtain ⟨wide, hwide, mwide⟩ := pick_int [many, many, 12, 40, 10 ^ (25 : Int).toNat] a6 b6
 refine ⟨l6, _, _, _, rfl, rfl, SqL.of ((o6 l6 (S5.out hl6)).trans upd_same), hwide, ?_⟩
 have wb : 1 ≤ wide ∧ wide ≤ 10000000000000000000000000 := by
  have e : (10 : Int) ^ (25 : Int).toNat = 10000000000000000000000000 := by decide
  rw [e] at mwide
  simp only [List.mem_cons, List.not_mem_nil, or_false] at mwide
  omega
 have E6 : Ex (· = d) H H6 := E5.trans ((Ex.new _ hl6).trans o6.ex)
 clear o6 hl6 hwide mwide a6 b6 E5 S5
 refine ⟨_, rfl, _, rfl, rfl, _, rfl, ite2 (fun _ => ?_) (fun _ => ?_)⟩
 ·refine ⟨_, rfl, many, rfl, by omega, by omega, fun D hD => ?_⟩
  refine turns_range (lo := 0) (n := many.toNat) (σ := [some (.ref d), some (.int many), some (.int low), some (.int wide)]) (fun _ => true) (fun k => .int (low + (k : Int))) hD (by omega) (fun i H' hi g => tells_true) (fun i H' hi _ g P hP => ?_) fun H7 g7 e7 => ?_
  ·have e : low + (0 + (i : Int)) = low + (i : Int) := by rw [Int.zero_add]
   rw [← e] at hP
   exact ⟨_, rfl, _, rfl, _, _, rfl, rfl, hP _ Same.rfl'⟩
  refine q D ((List.range many.toNat).map fun k : Nat => low + (k : Int)) H7 (E6.trans (Ex.same g7)) (S6.ex g7) (exT S6 E6 hD) (by rw [e7, fltT, List.map_map]; rfl) (rise_on0 lb.1 _) (by rw [List.length_map, List.length_range]; omega) (by rw [List.length_map, List.length_range]; omega) fun x hx => ?_
  obtain ⟨k, hk, rfl⟩ := List.mem_map.mp hx
  have hk' := List.mem_range.mp hk
  omega
 ·refine ⟨_, rfl, many, rfl, by omega, by omega, fun D hD => ?_⟩
  have oD : D ≠ d := S6.out hD
  refine turns_any (n := many.toNat) (fun i σ' H' => ∃ (y : Option V) (rs : List Int), σ' = y :: [some (.ref d), some (.int many), some (.int low), some (.int wide)] ∧ StT H' d ∧ Ex (fun b => b = d ∨ b = D) H6 H' ∧ H' D = some (.lst (rs.map V.int)) ∧ rs.length = i ∧ ∀ x ∈ rs, 0 ≤ x ∧ x < 5 * 10 ^ 25)
   ⟨none, [], rfl, S6.ex (Same.new hD _), Ex.new _ hD, upd_same, rfl, fun _ h => nomatch h⟩ ?_ ?_
  ·rintro i σ' HE hi ⟨y, rs, rfl, SE, EE, dE, hrs, hb⟩
   refine ⟨hi, fun x' H' yl => ?_⟩
   obtain ⟨rfl, rfl⟩ := yl
   refine comp_true ?_
   refine ⟨_, rfl, _, rfl, _, rfl, d, wide, rfl, SE, by omega, by omega, fun r HF r0 r1 SF oF => ⟨_, _, rfl, rfl, rs.map V.int, (oF D oD).trans dE, by rw [List.length_map, hrs]; exact small1000 (by omega), ?_⟩⟩
   refine ⟨_, rs ++ [low + r], rfl, SF.off oD, EE.trans ((oF.ex.wide fun b h => .inl h).trans (Ex.put _ (.inr rfl))), by rw [upd_same, List.map_append]; rfl, by rw [List.length_append, hrs]; rfl, fun x hx => ?_⟩
   rcases List.mem_append.mp hx with z | z
   ·exact hb x z
   ·rw [List.mem_singleton.mp z]
    omega
  ·rintro σ' H7 ⟨y, rs, rfl, S7, E7, e7, hrs, hb⟩
   refine ⟨Nat.le_refl _, ?_⟩
   refine ⟨D, rs, rfl, SqL.of e7, by omega, fun l ys hl up m => ?_⟩
   have g8 := Same.new hl (.lst (ys.map V.int))
   have E67 : Ex (· = d) H H7 := fun c o hc ho => E7 c o (fun z => z.elim hc fun z => by
    have := E6 c o hc ho
    rw [z, hD] at this
    cases this) (E6 c o hc ho)
   have len := set_len up m
   have ne : 1 ≤ ys.length := by
    match rs, hrs, m with
    | [], h, _ => have : 0 = many.toNat := h; omega
    | x :: r, _, m =>
     have := (m x).mpr List.mem_cons_self
     exact List.length_pos_of_mem this
   exact q l ys _ (E67.trans (Ex.same g8)) (S7.ex g8) (exT S7 E67 hl) upd_same ⟨up, fun x hx => (hb x ((m x).mp hx)).1⟩ ne (by omega) fun x hx => (hb x ((m x).mp hx)).2
end
abbrev sPlT : Stmt := top 37
def spPlT : Sp := fun vs H Q _ => ∃ d : Addr, vs = [.ref d] ∧ StT H d ∧
 ∀ (t a b : Addr) (ns ss : List Int) (H' : Hp), StT H' d → Ex (· = d) H H' → H t = none → H a = none → H b = none → a ≠ b → H' t = some (.tup [.ref a, .ref b]) → H' a = some (.lst (ns.map V.int)) → H' b = some (.lst (ss.map V.int)) → PlanOk ns ss → (∀ x ∈ ns, x < 5 * 10 ^ 25) → (∀ x ∈ ss, x < 10 ^ 26) → Q (.ref t) H'
def triN : Nat → Nat
 | 0 => 0
 | i + 1 => triN i + (9 - i)
theorem triN_le : ∀ i < 11, triN i ≤ 45 := by decide +kernel
theorem last_inT {R : List Int} (h : 1 ≤ R.length) : ∃ x, atI (R.map V.int) (-1) = some (.int x) ∧ x ∈ R := by
 have h' : R ≠ [] := fun z => by rw [z] at h; exact absurd h (by decide)
 refine ⟨R.getLast h', ?_, List.getLast_mem h'⟩
 have e : R = R.dropLast ++ [R.getLast h'] := (List.dropLast_concat_getLast h').symm
 have e2 : R.map V.int = R.dropLast.map V.int ++ [.int (R.getLast h')] := by
  conv => lhs; rw [e]
  rw [List.map_append]
  rfl
 rw [e2]
 exact atI_last _ _
theorem cut_from (ns : List Int) (i : Nat) : cutV (ns.map V.int) (some ((i : Int) + 1)) none = (ns.drop (i + 1)).map V.int := by
 unfold cutV
 have h1 : HT.sIx (ns.map V.int).length 0 (some ((i : Int) + 1)) = min (i + 1) ns.length := by
  have h3 := HT.sIx_nat (ns.map V.int).length 0 (i + 1)
  rw [List.length_map] at h3 ⊢
  exact h3
 have h2 : HT.sIx (ns.map V.int).length (ns.map V.int).length none = ns.length := by
  show (ns.map V.int).length = _
  rw [List.length_map]
 rw [h1, h2, List.map_drop]
 rcases Nat.le_total (i + 1) ns.length with z | z
 ·rw [Nat.min_eq_left z, List.take_of_length_le (by rw [List.length_drop, List.length_map]; exact Nat.le_refl _)]
 ·rw [Nat.min_eq_right z, List.drop_of_length_le (by rw [List.length_map]; exact Nat.le_refl _), List.drop_of_length_le (by rw [List.length_map]; exact z), List.take_nil]
section
variable {f tk nu : Addr} {fd tkd nud : FuncData}
theorem scPlT : FnScope ["store", "numbers", "pairs", "k", "one", "left", "sums"] ["store"] (defScope sPlT) := ⟨rfl, rfl, rfl, by decide +kernel, rfl, by decide +kernel, by decide +kernel⟩
theorem ok_plT (F : Fun K "_law_plan" "_law_plan" sPlT f fd) (B : Bt3 mg) (zset : mg "set" = none)
  (GT : FnOk P w K mg base CX0 2 tk tkd ["store", "many"] spTkT) (bT : Binds K tkd ["store", "many"] []) (kT : Kee K tk) (mT : mg "_law_take" = some (.ref tk))
  (GN : FnOk P w K mg base CX0 2 nu nud ["store"] spNuT) (bN : Binds K nud ["store"] []) (kN : Kee K nu) (mN : mg "_law_numbers" = some (.ref nu)) : FnOk P w K mg base CX0 3 f fd ["store"] spPlT := by
 refine F.ok scPlT (fun vs H Q E h => ?_) (fun cdv A outer s H vs Q E hr h => ?_)
 ·obtain ⟨d, rfl, _⟩ := h
  rfl
 obtain ⟨d, rfl, S0, q⟩ := h
 refine ⟨_, (@pss_cons _ _ _ _ _ (ps_set (i := 1) scPlT.nd rfl (Or.inl rfl) (pe_call GN hr rfl mN kN bN .nil pass0 (pa_cons (pv 0) pa_nil))) (@pss_cons _ _ _ _ _ (ps_set (i := 2) scPlT.nd rfl (Or.inl rfl) (pe_lst pa_nil)) (@pss_cons _ _ _ _ _ (ps_for PassesOwn.never rfl (pi_enum rfl B.enumerate (pa_cons (pv 1) pa_nil)) (pg_tup rfl (pgs_cons (pg_name (i := 3) scPlT.nd rfl (Or.inl rfl)) (pgs_cons (pg_name (i := 4) scPlT.nd rfl (Or.inr rfl)) pgs_nil))) (@pss_one _ _ _ (ps_expr (pe_bm PySem.F.plainAttrs_list PySem.F.slot_list_extend PySem.F.type_list_extend mt_extend (pv 2) (pa_cons (pe_comp ["other"] rfl (blk_ok (defScope sPlT) ["store", "numbers", "pairs", "k", "one", "left", "sums"] rfl rfl (by decide +kernel)) (pi_list (pe_slice sl_list (pv 1) (po_some (pe_op op_add (pv 3) pe_int)) po_none)) (fun pins C fp s3 H3 => ⟨(pg_name (i := 0) (show (blkN ["other"] ["store", "numbers", "pairs", "k", "one", "left", "sums"]).Nodup by decide +kernel) rfl (Or.inl rfl)), pif_nil, (pe_op op_add (pv 5) (pv 0))⟩)) pa_nil))))) (@pss_cons _ _ _ _ _ (ps_set (i := 5) scPlT.nd rfl (Or.inl rfl) (pe_sortSet rfl rfl B.sorted rfl zset (pv 2))) (@pss_cons _ _ _ _ _ (ps_set (i := 6) scPlT.nd rfl (Or.inl rfl) (pe_lst pa_nil)) (@pss_cons _ _ _ _ _ (ps_for PassesOwn.never rfl (pi_range1 rfl B.range (pa_cons (pe_ix ix_list (pe_lst (pa_cons (pe_call GT hr rfl mT kT bT .nil pass0 (pa_cons (pv 0) (pa_cons pe_int pa_nil))) (pa_cons (pe_call GT hr rfl mT kT bT .nil pass0 (pa_cons (pv 0) (pa_cons pe_int pa_nil))) (pa_cons (pe_call GT hr rfl mT kT bT .nil pass0 (pa_cons (pv 0) (pa_cons pe_int pa_nil))) (pa_cons pe_int pa_nil))))) (pe_call GT hr rfl mT kT bT .nil pass0 (pa_cons (pv 0) (pa_cons pe_int pa_nil))) (fun _ _ => rfl)) pa_nil)) (pg_name (i := 3) scPlT.nd rfl (Or.inl rfl)) (@pss_one _ _ _ (ps_if (PW.pt (pw_and (pt_cmpR (op_neD hr.units) (pv 5) (pe_lst pa_nil) (nomark _)) (pw_and1 (pt_cmpR op_gt (pe_call GT hr rfl mT kT bT .nil pass0 (pa_cons (pv 0) (pa_cons pe_int pa_nil))) pe_int (nomark _))))) (@pss_one _ _ _ (ps_expr (pe_bm PySem.F.plainAttrs_list PySem.F.slot_list_append PySem.F.type_list_append mt_append (pv 6) (pa_cons (pe_bm PySem.F.plainAttrs_list PySem.F.slot_list_pop PySem.F.type_list_pop mt_popAt (pv 5) (pa_cons (pe_call GT hr rfl mT kT bT .nil pass0 (pa_cons (pv 0) (pa_cons (pe_callB call_len_seq rfl B.len PySem.boot_len (pa_cons (pv 5) pa_nil)) pa_nil))) pa_nil)) pa_nil)))) (@pss_one _ _ _ (ps_expr (pe_bm PySem.F.plainAttrs_list PySem.F.slot_list_append PySem.F.type_list_append mt_append (pv 6) (pa_cons (pe_call GT hr rfl mT kT bT .nil pass0 (pa_cons (pv 0) (pa_cons (pe_ix ix_list (pe_lst (pa_cons pe_int (pa_cons (pe_op op_add (pe_op op_mul pe_int (pe_ix ix_list (pv 1) (pe_un un_neg pe_int) (fun _ _ => rfl))) pe_int) pa_nil))) (pe_call GT hr rfl mT kT bT .nil pass0 (pa_cons (pv 0) (pa_cons pe_int pa_nil))) (fun _ _ => rfl)) pa_nil))) pa_nil))))))) (@pss_one _ _ _ (ps_ret (pe_tup (pa_cons (pv 1) (pa_cons (pe_sortSet rfl rfl B.sorted rfl zset (pv 6)) pa_nil))))))))))), ?_⟩
 refine ⟨_, rfl, d, rfl, S0, fun a ns H1 E1 S1 na ea rise n1 n10 nb => ?_⟩
 have ad : a ≠ d := S0.out na
 have nml : (ns.map V.int).length = ns.length := List.length_map _
 refine ⟨(by show 0 ≤ sizeLine; decide), fun pr hpr => ?_⟩
 have g2 : Same H1 (upd H1 pr (.lst [])) := Same.new hpr _
 have e2 : upd H1 pr (.lst []) pr = some (.lst (([] : List Int).map V.int)) := upd_same
 have apr : a ≠ pr := ne_of_none ea hpr
 have ea2 := g2 _ _ ea
 have prd : pr ≠ d := S1.out hpr
 have S2 := S1.ex g2
 generalize upd H1 pr (.lst []) = H2 at g2 e2 ea2 S2 ⊢
 refine ⟨_, rfl, a, _, rfl, ea2, ?_⟩
 refine for_enum (xs := ns.map V.int) (fun i σ H' => ∃ (x3 x4 : Option V) (ps : List Int), σ = [some (.ref d), some (.ref a), some (.ref pr), x3, x4, none, none] ∧ Ex (· = pr) H2 H' ∧ H' pr = some (.lst (ps.map V.int)) ∧ ps.length ≤ triN i ∧ ∀ x ∈ ps, 0 ≤ x ∧ x < 10 ^ 26)
  ⟨none, none, [], rfl, Ex.refl, e2, Nat.le_refl _, fun _ h => nomatch h⟩ (fun i σ H' _ ⟨_, _, _, _, ex, _⟩ => ex _ _ apr ea2) ?_ ?_
 ·rintro i x σ H3 T hx ⟨x3, x4, ps, rfl, ex, ep, hl, hn⟩ hT
  have hi : i < ns.length := by rw [← nml]; exact (List.getElem?_eq_some_iff.mp hx).1
  rw [List.getElem?_map, List.getElem?_eq_getElem hi] at hx
  cases hx
  have gT : Same H3 (upd H3 T (.tup [.int (i : Int), .int ns[i]])) := Same.new hT _
  have exT' := ex.trans (Ex.same gT)
  have epT := gT _ _ ep
  have eT : (upd H3 T (.tup [.int (i : Int), .int ns[i]])) T = some (.tup [.int (i : Int), .int ns[i]]) := upd_same
  generalize upd H3 T (.tup [.int (i : Int), .int ns[i]]) = H4 at exT' epT eT ⊢
  have ea4 := exT' _ _ apr ea2
  refine ⟨T, _, rfl, SqT.of eT, rfl, _, _, rfl, _, _, rfl, rfl, ?_⟩
  refine ⟨_, rfl, .inl ⟨rfl, _, SqL.of epT⟩, _, rfl, _, rfl, _, _, rfl, rfl, _, rfl, a, _, rfl, SqL.of ea4, fun c hc => ?_⟩
  rw [cut_from ns i]
  have g5 := Same.new hc (.lst ((ns.drop (i + 1)).map V.int))
  have ec5 : upd H4 c (.lst ((ns.drop (i + 1)).map V.int)) c = some (.lst ((ns.drop (i + 1)).map V.int)) := upd_same
  have dml : ((ns.drop (i + 1)).map V.int).length = (ns.drop (i + 1)).length := List.length_map _
  have dl : (ns.drop (i + 1)).length ≤ 9 - i := by rw [List.length_drop]; omega
  have dn : ∀ x ∈ ns.drop (i + 1), 0 ≤ x ∧ x < 5 * 10 ^ 25 := fun x hx => ⟨rise.bd x (List.mem_of_mem_drop hx), nb x (List.mem_of_mem_drop hx)⟩
  generalize upd H4 c (.lst ((ns.drop (i + 1)).map V.int)) = H5 at g5 ec5 ⊢
  generalize ns.drop (i + 1) = ds at ec5 dml dl dn ⊢
  refine ⟨c, rfl, ⟨_, SqL.of ec5⟩, fun D hD => ?_⟩
  have tri := triN_le i (by omega)
  refine turns_list (σ := [some (.ref d), some (.ref a), some (.ref pr), some (.int (i : Int)), some (.int ns[i]), none, none]) (xs := ds.map V.int) (fun _ => true) (fun j => .int (ns[i] + ds.getD j 0)) (SqL.of ec5) hD (by omega) (fun i H' hi g => tells_true) (fun j H' hj _ g P hP => ?_) fun H6 g6 e6 => ?_
  ·rw [getD_map_int _ (by rw [dml] at hj; exact hj)]
   exact ⟨_, rfl, _, rfl, _, _, rfl, rfl, hP _ Same.rfl'⟩
  have em : ((List.range ds.length).filter fun _ => true).map (fun j => V.int (ns[i] + ds.getD j 0)) = (ds.map fun y => ns[i] + y).map V.int := by
   have e := range_getD_filter (fun _ => true) (0 : Int) ds
   rw [List.filter_eq_self.mpr (fun _ _ => rfl)] at e ⊢
   rw [List.filter_eq_self.mpr (fun _ _ => rfl)] at e
   conv => rhs; rw [← e]
   rw [List.map_map, List.map_map]
   rfl
  rw [dml, em] at e6
  have g46 := g5.trans g6
  have ep6 := g46 _ _ epT
  refine ⟨pr, D, _, _, rfl, rfl, ep6, e6, by rw [List.length_map, List.length_map, List.length_map]; exact Nat.le_trans (by omega : _ ≤ 1000) (by decide), ?_⟩
  refine ⟨_, _, ps ++ ds.map (fun y => ns[i] + y), rfl, exT'.trans ((Ex.same g46).trans (Ex.put _ rfl)), by rw [upd_same, List.map_append], ?_, fun x hx => ?_⟩
  ·rw [List.length_append, List.length_map]
   show _ ≤ triN i + (9 - i)
   omega
  ·rcases List.mem_append.mp hx with z | z
   ·exact hn x z
   ·obtain ⟨y, hy, rfl⟩ := List.mem_map.mp z
    have h1 := rise.bd ns[i] (List.getElem_mem hi)
    have h2 := dn y hy
    have h3 := nb ns[i] (List.getElem_mem hi)
    omega
 rintro σ H3 ⟨x3, x4, ps, rfl, ex3, ep3, hl3, hn3⟩
 rw [nml] at hl3
 have tri := triN_le ns.length (by omega)
 have E3 : Ex (· = d) H H3 := fun c o hc ho => by
  have h1 := E1 c o hc ho
  exact ex3 c o (fun z => by rw [z, hpr] at h1; cases h1) (g2 _ _ h1)
 have ea3 := ex3 _ _ apr ea2
 have S3 : StT H3 d := by
  obtain ⟨x, y, z, e⟩ := S2
  exact ⟨x, y, z, ex3 _ _ (Ne.symm prd) e⟩
 refine ⟨_, rfl, pr, ps, rfl, SqL.of ep3, by omega, fun lf ls hlf up m => ?_⟩
 have lfd : lf ≠ d := S3.out hlf
 have alf : a ≠ lf := ne_of_none ea3 hlf
 have g4 := Same.new hlf (.lst (ls.map V.int))
 have el4 : upd H3 lf (.lst (ls.map V.int)) lf = some (.lst (ls.map V.int)) := upd_same
 have hlH : H lf = none := exT S3 E3 hlf
 have E4 := E3.trans (Ex.same (S := (· = d)) g4)
 have S4 := S3.ex g4
 have ea4 := g4 _ _ ea3
 have lsn : ∀ x ∈ ls, 0 ≤ x ∧ x < 10 ^ 26 := fun x hx => hn3 x ((m x).mp hx)
 have lsl : ls.length ≤ 100 := Nat.le_trans (set_len up m) (by omega)
 generalize upd H3 lf (.lst (ls.map V.int)) = H4 at g4 el4 E4 S4 ea4 ⊢
 clear ex3 ep3 hl3 hn3 tri E3 S3 ea3 g2 e2 ea2 S2 up m g4 hlf
 refine ⟨(by show 0 ≤ sizeLine; decide), fun su hsu => ?_⟩
 have g5 : Same H4 (upd H4 su (.lst [])) := Same.new hsu _
 have e5 : upd H4 su (.lst []) su = some (.lst (([] : List Int).map V.int)) := upd_same
 have sud : su ≠ d := S4.out hsu
 have asu : a ≠ su := ne_of_none ea4 hsu
 have lsu : lf ≠ su := ne_of_none el4 hsu
 have hsH : H su = none := exT S4 E4 hsu
 have S5 := S4.ex g5
 have ea5 := g5 _ _ ea4
 have el5 := g5 _ _ el4
 have E5 := E4.trans (Ex.same (S := (· = d)) g5)
 generalize upd H4 su (.lst []) = H5 at g5 e5 S5 ea5 el5 E5 ⊢
 clear g5 S4 ea4 el4 E4 hsu
 refine ⟨_, rfl, d, 4, rfl, S5, by decide, by decide, fun r1 H6 a1 b1 S6 o6 => ?_⟩
 refine ⟨_, rfl, d, 8, rfl, S6, by decide, by decide, fun r2 H7 a2 b2 S7 o7 => ?_⟩
 refine ⟨_, rfl, d, 11, rfl, S7, by decide, by decide, fun r3 H8 a3 b3 S8 o8 => ⟨(by show 4 ≤ sizeLine; decide), fun l hl => ?_⟩⟩
 refine ⟨_, rfl, d, 4, rfl, S8.ex (Same.new hl _), by decide, by decide, fun r4 H9 a4 b4 S9 o9 => ?_⟩
 obtain ⟨cv, hcv, mcv⟩ := pick_int [r1, r2, r3, 10] a4 b4
 have cb : 0 ≤ cv ∧ cv ≤ 10 := by
  simp only [List.mem_cons, List.not_mem_nil, or_false] at mcv
  omega
 refine ⟨l, _, _, .int cv, rfl, rfl, SqL.of ((o9 l (S8.out hl)).trans upd_same), hcv, _, rfl, by omega, by omega, ?_⟩
 have E59 : Ex (· = d) H5 H9 := o6.ex.trans (o7.ex.trans (o8.ex.trans ((Ex.new _ hl).trans o9.ex)))
 have ea9 := E59 _ _ ad ea5
 have el9 := E59 _ _ lfd el5
 have es9 := E59 _ _ sud e5
 have E9 := E5.trans E59
 clear o6 o7 o8 o9 hl hcv mcv S6 S7 S8 a1 b1 a2 b2 a3 b3 a4 b4 E59 ea5 el5 e5 E5 S5
 obtain ⟨v, hv, mv⟩ := last_inT n1
 have v0 := rise.bd v mv
 have v1 := nb v mv
 refine for_range (lo := 0) (n := cv.toNat) (fun i σ H' => ∃ (x3 x4 : Option V) (ls ss : List Int), σ = [some (.ref d), some (.ref a), some (.ref pr), x3, x4, some (.ref lf), some (.ref su)] ∧ StT H' d ∧ Ex (fun b => b = d ∨ b = lf ∨ b = su) H9 H' ∧ H' lf = some (.lst (ls.map V.int)) ∧ H' su = some (.lst (ss.map V.int)) ∧ ls.length ≤ 100 ∧ ss.length = i ∧ (∀ x ∈ ls, 0 ≤ x ∧ x < 10 ^ 26) ∧ ∀ x ∈ ss, 0 ≤ x ∧ x < 10 ^ 26)
  ⟨_, _, ls, [], rfl, S9, Ex.refl, el9, es9, lsl, rfl, lsn, fun _ h => nomatch h⟩ ?_ ?_
 ·rintro i σ HA hi ⟨x3, x4, ls, ss, rfl, SA, EA, elA, esA, hl, hs, ln, sn⟩
  have lml : (ls.map V.int).length = ls.length := List.length_map _
  have sml : (ss.map V.int).length = ss.length := List.length_map _
  have ss10 : ss.length < 10 := by omega
  have eaA := EA _ _ (fun z => z.elim ad fun z => z.elim alf asu) ea9
  have put : ∀ (x : Int) (ls' : List Int) (HZ : Hp), 0 ≤ x ∧ x < 10 ^ 26 → StT HZ d → Ex (fun b => b = d ∨ b = lf ∨ b = su) H9 HZ → HZ lf = some (.lst (ls'.map V.int)) → HZ su = some (.lst (ss.map V.int)) → ls'.length ≤ 100 → (∀ x ∈ ls', 0 ≤ x ∧ x < 10 ^ 26) →
    ∃ (y3 y4 : Option V) (ls ss' : List Int), [some (V.ref d), some (.ref a), some (.ref pr), some (.int (0 + (i : Int))), x4, some (.ref lf), some (.ref su)] = [some (V.ref d), some (.ref a), some (.ref pr), y3, y4, some (.ref lf), some (.ref su)] ∧ StT (upd HZ su (.lst (ss.map V.int ++ [.int x]))) d ∧ Ex (fun b => b = d ∨ b = lf ∨ b = su) H9 (upd HZ su (.lst (ss.map V.int ++ [.int x]))) ∧
     (upd HZ su (.lst (ss.map V.int ++ [.int x]))) lf = some (.lst (ls.map V.int)) ∧ (upd HZ su (.lst (ss.map V.int ++ [.int x]))) su = some (.lst (ss'.map V.int)) ∧ ls.length ≤ 100 ∧ ss'.length = i + 1 ∧ (∀ x ∈ ls, 0 ≤ x ∧ x < 10 ^ 26) ∧ ∀ x ∈ ss', 0 ≤ x ∧ x < 10 ^ 26 :=
   fun x ls' HZ h1 h2 h3 h4 h5 h6 h7 => ⟨_, _, ls', ss ++ [x], rfl, h2.off sud, h3.trans (Ex.put _ (.inr (.inr rfl))), by rw [upd_ne lsu]; exact h4, by rw [upd_same, List.map_append]; rfl, h6, by rw [List.length_append, hs]; rfl, h7, fun y hy => by
    rcases List.mem_append.mp hy with z | z
    ·exact sn y z
    ·rw [List.mem_singleton.mp z]; exact h1⟩
  refine ⟨_, rfl, (by show 0 ≤ sizeLine; decide), fun e0 he0 => ?_⟩
  have gB := Same.new he0 (.lst [])
  have eB : upd HA e0 (.lst []) e0 = some (.lst (([] : List Int).map V.int)) := upd_same
  have SB := SA.ex gB
  have EB : Ex (fun b => b = d ∨ b = lf ∨ b = su) H9 (upd HA e0 (.lst [])) := EA.trans (Ex.same gB)
  have elB := gB _ _ elA
  have esB := gB _ _ esA
  have eaB := gB _ _ eaA
  generalize upd HA e0 (.lst []) = HB at gB eB SB EB elB esB eaB ⊢
  clear gB SA EA elA esA eaA he0
  refine ⟨ls == [], rcv_ints (SqL.of elB) (SqL.of eB), _, rfl, ite2 (fun c => ?_) (fun c => ?_)⟩
  ·have lne : 1 ≤ ls.length := by
    cases ls with
    | nil => exact absurd c (by decide)
    | cons x r => exact Nat.succ_le_succ (Nat.zero_le _)
   refine ⟨_, rfl, d, 8, rfl, SB, by decide, by decide, fun r HC _ _ SC oC => ⟨_, _, rfl, rfl, _, rfl, ite2 (fun _ => ?_) (fun _ => ?_)⟩⟩
   ·have elC := (oC lf lfd).trans elB
    have esC := (oC su sud).trans esB
    refine ⟨_, rfl, .inl ⟨rfl, _, SqL.of esC⟩, _, rfl, .inl ⟨rfl, _, SqL.of elC⟩, _, rfl, _, rfl, lf, _, rfl, .inl (SqL.of elC), d, _, rfl, SC, by rw [lml]; omega, by rw [lml]; omega, fun r2 HD r20 r21 SD oD => ?_⟩
    rw [lml] at r21
    have elD := (oD lf lfd).trans elC
    have esD := (oD su sud).trans esC
    have hrn : r2.toNat < ls.length := by omega
    obtain ⟨wv, hwv⟩ : ∃ wv, wv = ls[r2.toNat] := ⟨_, rfl⟩
    refine ⟨lf, _, r2, r2.toNat, .int wv, rfl, rfl, elD, by omega, by omega, by rw [lml]; exact seqIndex_of r20 (by omega), by rw [List.getElem?_map, List.getElem?_eq_getElem hrn, hwv]; rfl, ?_⟩
    rw [erase_map V.int ls r2.toNat]
    refine ⟨su, _, _, rfl, rfl, by rw [upd_ne (Ne.symm lsu)]; exact esD, by rw [sml]; exact small1000 (by omega), ?_⟩
    refine put wv (ls.eraseIdx r2.toNat) _ (by rw [hwv]; exact ln _ (List.getElem_mem hrn)) (SD.off lfd) ?_ upd_same (by rw [upd_ne (Ne.symm lsu)]; exact esD) (by have := List.length_eraseIdx_le ls r2.toNat; omega) fun x hx => ln x (List.mem_of_mem_eraseIdx hx)
    exact EB.trans ((oC.ex.wide fun b h => .inl h).trans ((oD.ex.wide fun b h => .inl h).trans (Ex.put _ (.inr (.inl rfl)))))
   ·have esC := (oC su sud).trans esB
    have eaC := (oC a ad).trans eaB
    refine ⟨_, rfl, .inl ⟨rfl, _, SqL.of esC⟩, _, rfl, _, rfl, _, rfl, a, _, _, _, rfl, rfl, SqL.of eaC, hv, _, _, rfl, rfl, .inl ⟨by decide, by decide⟩, _, _, rfl, rfl, two_le, fun lq hlq => ?_⟩
    refine ⟨_, rfl, d, 2, rfl, SC.ex (Same.new hlq _), by decide, by decide, fun r3 HD r30 r31 SD oD => ?_⟩
    obtain ⟨mm, hmm, mmm⟩ := pick_int [30, 2 * v + 2] r30 r31
    have mb : 0 < mm ∧ mm < 2 ^ 100 ∧ mm ≤ 10 ^ 26 := by
     simp only [List.mem_cons, List.not_mem_nil, or_false] at mmm
     omega
    refine ⟨lq, _, _, _, rfl, rfl, SqL.of ((oD lq (SC.out hlq)).trans upd_same), hmm, d, mm, rfl, SD, mb.1, mb.2.1, fun r4 HE r40 r41 SE oE => ?_⟩
    have EC : Ex (· = d) HB HE := oC.ex.trans ((Ex.new _ hlq).trans (oD.ex.trans oE.ex))
    refine ⟨su, _, _, rfl, rfl, EC _ _ sud esB, by rw [sml]; exact small1000 (by omega), ?_⟩
    exact put r4 ls HE ⟨r40, by have := mb.2.2; omega⟩ SE (EB.trans (EC.wide fun b h => .inl h)) (EC _ _ lfd elB) (EC _ _ sud esB) hl ln
  ·refine ⟨_, rfl, .inl ⟨rfl, _, SqL.of esB⟩, _, rfl, _, rfl, _, rfl, a, _, _, _, rfl, rfl, SqL.of eaB, hv, _, _, rfl, rfl, .inl ⟨by decide, by decide⟩, _, _, rfl, rfl, two_le, fun lq hlq => ?_⟩
   refine ⟨_, rfl, d, 2, rfl, SB.ex (Same.new hlq _), by decide, by decide, fun r3 HD r30 r31 SD oD => ?_⟩
   obtain ⟨mm, hmm, mmm⟩ := pick_int [30, 2 * v + 2] r30 r31
   have mb : 0 < mm ∧ mm < 2 ^ 100 ∧ mm ≤ 10 ^ 26 := by
    simp only [List.mem_cons, List.not_mem_nil, or_false] at mmm
    omega
   refine ⟨lq, _, _, _, rfl, rfl, SqL.of ((oD lq (SB.out hlq)).trans upd_same), hmm, d, mm, rfl, SD, mb.1, mb.2.1, fun r4 HE r40 r41 SE oE => ?_⟩
   have EC : Ex (· = d) HB HE := (Ex.new _ hlq).trans (oD.ex.trans oE.ex)
   refine ⟨su, _, _, rfl, rfl, EC _ _ sud esB, by rw [sml]; exact small1000 (by omega), ?_⟩
   exact put r4 ls HE ⟨r40, by have := mb.2.2; omega⟩ SE (EB.trans (EC.wide fun b h => .inl h)) (EC _ _ lfd elB) (EC _ _ sud esB) hl ln
 ·rintro σ HA ⟨x3, x4, ls, ss, rfl, SA, EA, elA, esA, hl, hs, ln, sn⟩
  have eaA := EA _ _ (fun z => z.elim ad fun z => z.elim alf asu) ea9
  refine ⟨_, rfl, _, rfl, su, ss, rfl, SqL.of esA, by omega, fun b ys hb up m => ⟨two_le, fun t ht => ?_⟩⟩
  have sb := Same.new hb (.lst (ys.map V.int))
  have st := Same.new ht (.tup [.ref a, .ref b])
  have EH : Ex (· = d) H HA := fun c o nc hc => EA c o (fun z => z.elim nc fun z => z.elim (fun z => by rw [z, hlH] at hc; cases hc) fun z => by rw [z, hsH] at hc; cases hc) (E9 c o nc hc)
  have fr : ∀ x, HA x = none → H x = none := fun x hx => exT SA EH hx
  have len := set_len up m
  exact q t a b ns ys _ (SA.ex (sb.trans st)) (EH.trans (Ex.same (sb.trans st))) (fr t (none_of_same sb ht)) na (fr b hb) (ne_of_none eaA hb) upd_same (st _ _ (sb _ _ eaA)) (st _ _ upd_same) ⟨rise, ⟨up, fun x hx => (sn x ((m x).mp hx)).1⟩, n1, n10, by omega⟩ nb fun x hx => (sn x ((m x).mp hx)).2
end
structure BtR (mg : Str → Option Value) : Prop extends Bt2 mg where
 repr : mg "repr" = none
abbrev sWhole : Stmt := top 16
abbrev sRise : Stmt := top 18
abbrev sIsP : Stmt := top 19
structure IsPl (H : Hp) (t a b : Addr) (ns ss : List Int) : Prop where
 t : H t = some (.tup [.ref a, .ref b])
 a : H a = some (.lst (ns.map V.int))
 b : H b = some (.lst (ss.map V.int))
 ok : PlanOk ns ss
theorem IsPl.same {H H' : Hp} {t a b : Addr} {ns ss : List Int} (h : IsPl H t a b ns ss) (g : Same H H') : IsPl H' t a b ns ss := ⟨g _ _ h.t, g _ _ h.a, g _ _ h.b, h.ok⟩
def spWholeD : Sp := fun vs H Q _ => ∃ v d, vs = [v] ∧ Dat H v d ∧ Q (.bl (isW d)) H
def spRiseD : Sp := fun vs H Q _ => ∃ v d few, vs = [v, .int few] ∧ Dat H v d ∧ Q (.bl (riseD few d)) H
def spIsPD : Sp := fun vs H Q _ => ∃ v d, vs = [v] ∧ Dat H v d ∧ Q (.bl (planD d)) H
theorem Dat.ofInt {H : Hp} {v : V} {n : Int} (h : Dat H v (.int n)) : v = .int n := by cases h; rfl
theorem rise_step {ds : List PyData} {i : Nat} {d : PyData} {b : Int} (e : ds[i]? = some d) : riseGo b (ds.drop i) = riseGo b (d :: ds.drop (i + 1)) := by
 obtain ⟨hi, hv⟩ := List.getElem?_eq_some_iff.mp e
 rw [List.drop_eq_getElem_cons hi, hv]
theorem rise_ints : ∀ {xs : List Int} {b : Int}, xs.Pairwise (· < ·) → (∀ x ∈ xs, b < x) → riseGo b (xs.map PyData.int) = true
 | [], _, _, _ => rfl
 | x :: r, b, h, hb => by
  rw [List.pairwise_cons] at h
  show (decide (b < x) && riseGo x (r.map PyData.int)) = true
  rw [decide_eq_true (hb x List.mem_cons_self), rise_ints h.2 h.1]
  rfl
theorem rise_of {xs : List Int} (h : Rise xs) {few : Int} (l1 : few ≤ (xs.length : Int)) (l2 : xs.length ≤ 10) : riseD few (.list (xs.map PyData.int)) = true := by
 show (decide (few ≤ (((xs.map PyData.int).length : Nat) : Int)) && (decide ((xs.map PyData.int).length ≤ 10) && riseGo (-1) (xs.map PyData.int))) = true
 rw [List.length_map, decide_eq_true l1, decide_eq_true l2, rise_ints h.up fun x hx => by have := h.bd x hx; omega]
 rfl
theorem IsPl.dat {H : Hp} {t a b : Addr} {ns ss : List Int} (h : IsPl H t a b ns ss) : ∃ d, Dat H (.ref t) d ∧ planD d = true := by
 refine ⟨_, .tup h.t (.cons (.lst h.a (DatAll.ints ns)) (.cons (.lst h.b (DatAll.ints ss)) .nil)), ?_⟩
 show (riseD 1 (.list (ns.map PyData.int)) && riseD 0 (.list (ss.map PyData.int))) = true
 have n1 := h.ok.n1
 rw [rise_of h.ok.n (by omega) h.ok.n2, rise_of h.ok.s (by omega) h.ok.s2]
 rfl
section
variable {f wh ri : Addr} {fd whd rid : FuncData} {t10 : Tok}
theorem scWhole : FnScope ["thing"] ["thing"] (defScope sWhole) := ⟨rfl, rfl, rfl, by decide +kernel, rfl, by decide +kernel, by decide +kernel⟩
theorem ok_wholeD (F : Fun K "is_whole" "is_whole" sWhole f fd) (B : Bt2 mg) : FnOk P w K mg base CX0 1 f fd ["thing"] spWholeD := by
 refine F.ok scWhole (fun vs H Q E h => ?_) (fun cdv A outer s H vs Q E hr h => ?_)
 ·obtain ⟨v, d, rfl, _⟩ := h
  rfl
 obtain ⟨v, d, rfl, hd, q⟩ := h
 refine ⟨_, (@pss_one _ _ _ (ps_ret (pe_and (pe_callB (call_isi "int") rfl B.isinstance boot_isinstance (pa_cons (pv 0) (pa_cons (pe_bltn (v := .ty "int") rfl B.int PyProof.Rows.boot_int rfl) pa_nil))) (pe_one (pe_not (pe_callB (call_isi "bool") rfl B.isinstance boot_isinstance (pa_cons (pv 0) (pa_cons (pe_bltn (v := .ty "bool") rfl B.bool PyProof.Rows.boot_bool rfl) pa_nil)))))))), ?_⟩
 refine ⟨_, rfl, _, _, isI d, rfl, hd.ty, kit_i _ d, _, rfl, ite2 (fun c => ?_) (fun c => ?_)⟩
 ·refine ⟨_, rfl, _, _, isB d, rfl, hd.ty, kit_b _ d, _, rfl, ?_⟩
  have e : (!isB d) = isW d := by cases d <;> first | rfl | cases c
  rw [← e] at q
  exact q
 ·have e : isW d = false := by cases d <;> first | rfl | exact absurd rfl c
  rw [e] at q
  exact q
theorem scRise : FnScope ["thing", "fewest", "below", "number"] ["thing", "fewest"] (defScope sRise) := ⟨rfl, rfl, rfl, by decide +kernel, rfl, by decide +kernel, by decide +kernel⟩
theorem ok_riseD (F : Fun K "is_rising_list" "is_rising_list" sRise f fd) (B : Bt2 mg) (m10 : mg "MOST" = some (.int 10 t10))
  (GW : FnOk P w K mg base CX0 1 wh whd ["thing"] spWholeD) (bW : Binds K whd ["thing"] []) (kW : Kee K wh) (mW : mg "is_whole" = some (.ref wh)) : FnOk P w K mg base CX0 2 f fd ["thing", "fewest"] spRiseD := by
 refine F.ok scRise (fun vs H Q E h => ?_) (fun cdv A outer s H vs Q E hr h => ?_)
 ·obtain ⟨v, d, few, rfl, _⟩ := h
  rfl
 obtain ⟨v, d, few, rfl, hd, q⟩ := h
 refine ⟨_, (@pss_cons _ _ _ _ _ (ps_if (PW.pt (pw_or (pt_not (pt_val (pe_callB (call_isi "list") rfl B.isinstance boot_isinstance (pa_cons (pv 0) (pa_cons (pe_bltn (v := .ty "list") rfl B.list PyProof.Rows.boot_list rfl) pa_nil))))) (pw_or1 (pt_not (pt_chain op_le op_le (pv 1) (pe_callB call_len_seq rfl B.len PySem.boot_len (pa_cons (pv 0) pa_nil)) (pe_glob (v := .int 10) rfl m10 ⟨_, rfl⟩)))))) (@pss_one _ _ _ (ps_ret pe_bl)) pss_nil) (@pss_cons _ _ _ _ _ (ps_set (i := 2) scRise.nd rfl (Or.inl rfl) (pe_un un_neg pe_int)) (@pss_cons _ _ _ _ _ (ps_for PassesOwn.never rfl (pi_list (pv 0)) (pg_name (i := 3) scRise.nd rfl (Or.inl rfl)) (@pss_cons _ _ _ _ _ (ps_if (PW.pt (pw_or (pt_not (pt_val (pe_call GW hr rfl mW kW bW .nil pass0 (pa_cons (pv 3) pa_nil)))) (pw_or1 (pt_cmpR op_le (pv 3) (pv 2) (nomark _))))) (@pss_one _ _ _ (ps_ret pe_bl)) pss_nil) (@pss_one _ _ _ (ps_set (i := 2) scRise.nd rfl (Or.inl rfl) (pv 3))))) (@pss_one _ _ _ (ps_ret pe_bl))))), ?_⟩
 refine ⟨_, rfl, _, _, isL d, rfl, hd.ty, kit_l _ d, _, rfl, ite2 (fun c => ?_) (fun c => ?_)⟩
 ·have e : riseD few d = false := by cases d <;> first | rfl | cases c
  rw [e] at q
  exact q
 cases hd with
 | lst ha hx =>
  rename_i a xs ds
  have hl := hx.len
  have eq : riseD few (.list ds) = (decide (few ≤ (ds.length : Int)) && (decide (ds.length ≤ 10) && riseGo (-1) ds)) := rfl
  rw [eq] at q
  refine ⟨_, rfl, _, rfl, a, _, rfl, .inl (SqL.of ha), _, _, rfl, rfl, _, rfl, ite2 (fun c1 => ?_) (fun c1 => ?_)⟩
  ·refine ⟨_, _, rfl, rfl, _, rfl, ite2 (fun c2 => ?_) (fun c2 => ?_)⟩
   ·have e : decide (ds.length ≤ 10) = false := by
     have c3 : (!decide (((xs.length : Nat) : Int) ≤ 10)) = true := c2
     rw [Bool.not_eq_true', decide_eq_false_iff_not] at c3
     exact decide_eq_false (by omega)
    rw [e, Bool.false_and, Bool.and_false] at q
    exact q
   ·have e1 : decide (few ≤ (ds.length : Int)) = true := by rw [← hl]; exact c1
    have e2 : decide (ds.length ≤ 10) = true := by
     have c3 : ¬ (!decide (((xs.length : Nat) : Int) ≤ 10)) = true := c2
     rw [Bool.not_eq_true', decide_eq_false_iff_not] at c3
     exact decide_eq_true (by omega)
    rw [e1, e2, Bool.true_and, Bool.true_and] at q
    refine ⟨_, rfl, _, rfl, a, rfl, ⟨_, SqL.of ha⟩, ?_⟩
    refine for_list (xs := xs) (fun i σ H' => ∃ (bl : Int) (y : Option V), σ = [some (.ref a), some (.int few), some (.int bl), y] ∧ H' = H ∧ riseGo bl (ds.drop i) = riseGo (-1) ds)
     ⟨-1, none, rfl, rfl, rfl⟩ (fun i σ H' _ ⟨_, _, _, e, _⟩ => by rw [e]; exact SqL.of ha) ?_ ?_
    ·rintro i x σ H' hxi ⟨bl, y, rfl, rfl, hb⟩
     obtain ⟨d', ed, hd'⟩ := hx.at hxi
     rw [rise_step ed] at hb
     refine ⟨_, rfl, x, d', rfl, hd', _, rfl, ite2 (fun c3 => ?_) (fun c3 => ?_)⟩
     ·have e : riseGo bl (d' :: ds.drop (i + 1)) = false := by cases d' <;> first | rfl | cases c3
      rw [← hb, e] at q
      exact q
     ·cases d' with
      | int n =>
       cases hd'
       refine ⟨_, rfl, _, rfl, _, _, rfl, rfl, _, rfl, ite2 (fun c4 => ?_) (fun c4 => ?_)⟩
       ·have e : riseGo bl (.int n :: ds.drop (i + 1)) = false := by
         have c5 : n ≤ bl := of_decide_eq_true c4
         show (decide (bl < n) && riseGo n (ds.drop (i + 1))) = false
         rw [decide_eq_false (by omega), Bool.false_and]
        rw [← hb, e] at q
        exact q
       ·refine ⟨_, rfl, n, _, rfl, rfl, ?_⟩
        rw [← hb]
        have c5 : ¬ n ≤ bl := fun z => c4 (decide_eq_true z)
        show riseGo n (ds.drop (i + 1)) = (decide (bl < n) && riseGo n (ds.drop (i + 1)))
        rw [decide_eq_true (by omega), Bool.true_and]
      | _ => exact absurd rfl c3
    ·rintro σ H' ⟨bl, y, rfl, rfl, hb⟩
     rw [← hb, hl, List.drop_length] at q
     exact q
  ·have e : decide (few ≤ (ds.length : Int)) = false := by
    rw [← hl]
    exact Bool.eq_false_iff.mpr c1
   rw [e, Bool.false_and] at q
   exact ⟨_, rfl, q⟩
 | _ => exact absurd rfl c
theorem scIsP : FnScope ["thing"] ["thing"] (defScope sIsP) := ⟨rfl, rfl, rfl, by decide +kernel, rfl, by decide +kernel, by decide +kernel⟩
theorem two_of {H : Hp} {xs : List V} {ds : List PyData} (h : DatAll H xs ds) (e : xs.length = 2) : ∃ x y dx dy, xs = [x, y] ∧ ds = [dx, dy] ∧ Dat H x dx ∧ Dat H y dy := by
 cases h with
 | nil => cases e
 | cons h1 h2 =>
  cases h2 with
  | nil => cases e
  | cons h3 h4 =>
   cases h4 with
   | nil => exact ⟨_, _, _, _, rfl, rfl, h1, h3⟩
   | cons _ _ => simp at e
theorem plan_no {ds : List PyData} (e : ds.length ≠ 2) : planD (.tuple ds) = false := by
 match ds with
 | [] => rfl
 | [_] => rfl
 | [_, _] => exact absurd rfl e
 | _ :: _ :: _ :: _ => rfl
theorem ok_isPD (F : Fun K "is_plan" "is_plan" sIsP f fd) (B : Bt2 mg) (GI : FnOk P w K mg base CX0 2 ri rid ["thing", "fewest"] spRiseD) (bI : Binds K rid ["thing", "fewest"] []) (kI : Kee K ri) (mI : mg "is_rising_list" = some (.ref ri)) : FnOk P w K mg base CX0 3 f fd ["thing"] spIsPD := by
 refine F.ok scIsP (fun vs H Q E h => ?_) (fun cdv A outer s H vs Q E hr h => ?_)
 ·obtain ⟨v, d, rfl, _⟩ := h
  rfl
 obtain ⟨v, d, rfl, hd, q⟩ := h
 refine ⟨_, (@pss_cons _ _ _ _ _ (ps_if (PW.pt (pw_or (pt_not (pt_val (pe_callB (call_isi "tuple") rfl B.isinstance boot_isinstance (pa_cons (pv 0) (pa_cons (pe_bltn (v := .ty "tuple") rfl B.tuple PyProof.Rows.boot_tuple rfl) pa_nil))))) (pw_or1 (pt_cmpR op_ne (pe_callB call_len_seq rfl B.len PySem.boot_len (pa_cons (pv 0) pa_nil)) pe_int (nomark _))))) (@pss_one _ _ _ (ps_ret pe_bl)) pss_nil) (@pss_one _ _ _ (ps_ret (pe_and (pe_call GI hr rfl mI kI bI .nil pass0 (pa_cons (pe_ix ix_tup (pv 0) pe_int (fun _ _ => rfl)) (pa_cons pe_int pa_nil))) (pe_one (pe_call GI hr rfl mI kI bI .nil pass0 (pa_cons (pe_ix ix_tup (pv 0) pe_int (fun _ _ => rfl)) (pa_cons pe_int pa_nil)))))))), ?_⟩
 refine ⟨_, rfl, _, _, isT d, rfl, hd.ty, kit_t _ d, _, rfl, ite2 (fun c => ?_) (fun c => ?_)⟩
 ·have e : planD d = false := by cases d <;> first | rfl | cases c
  rw [e] at q
  exact q
 cases hd with
 | tup ha hx =>
  rename_i a xs ds
  have hl := hx.len
  refine ⟨_, rfl, a, _, rfl, .inr (SqT.of ha), rfl, _, rfl, ite2 (fun c1 => ?_) (fun c1 => ?_)⟩
  ·have e : planD (.tuple ds) = false := plan_no fun z => by
    have c2 : (!decide (V.int ((xs.length : Nat) : Int) = V.int 2)) = true := c1
    rw [hl, z] at c2
    exact absurd c2 (by decide)
   rw [e] at q
   exact q
  ·have c2 : ¬ (!decide (V.int ((xs.length : Nat) : Int) = V.int 2)) = true := c1
   rw [Bool.not_eq_true', decide_eq_false_iff_not, Decidable.not_not] at c2
   have c3 := V.int.inj c2
   obtain ⟨x, y, dx, dy, rfl, rfl, h1, h2⟩ := two_of hx (by omega)
   have e : planD (.tuple [dx, dy]) = (riseD 1 dx && riseD 0 dy) := rfl
   rw [e] at q
   refine ⟨_, rfl, a, _, 0, _, rfl, rfl, SqT.of ha, rfl, x, dx, 1, rfl, h1, _, rfl, ite2 (fun c4 => ?_) (fun c4 => ?_)⟩
   ·rw [c4, Bool.true_and] at q
    exact ⟨_, rfl, a, _, 1, _, rfl, rfl, SqT.of ha, rfl, y, dy, 0, rfl, h2, q⟩
   ·rw [Bool.eq_false_iff.mpr c4, Bool.false_and] at q
    exact q
 | _ => exact absurd rfl c
end
abbrev sCkP : Stmt := top 20
abbrev sAdd : Stmt := top 21
def addUp (ss : List Int) (x y : Int) : Bool := decide (x ≠ y) && ss.contains (x + y)
def spAdd : Sp := fun vs H Q _ => ∃ (t a b : Addr) (ns ss : List Int) (x y : Int), vs = [.ref t, .int x, .int y] ∧ IsPl H t a b ns ss ∧ Q (.bl (addUp ss x y)) H
section
variable {f ip : Addr} {fd ipd : FuncData}
theorem scCkP : FnScope ["plan"] ["plan"] (defScope sCkP) := ⟨rfl, rfl, rfl, by decide +kernel, rfl, by decide +kernel, by decide +kernel⟩
theorem scAdd : FnScope ["plan", "one", "other"] ["plan", "one", "other"] (defScope sAdd) := ⟨rfl, rfl, rfl, by decide +kernel, rfl, by decide +kernel, by decide +kernel⟩
theorem ok_add (F : Fun K "add_up" "add_up" sAdd f fd) : FnOk P w K mg base CX0 1 f fd ["plan", "one", "other"] spAdd := by
 refine F.ok scAdd (fun vs H Q E h => ?_) (fun cdv A outer s H vs Q E hr h => ?_)
 ·obtain ⟨t, a, b, ns, ss, x, y, rfl, _⟩ := h
  rfl
 obtain ⟨t, a, b, ns, ss, x, y, rfl, pl, q⟩ := h
 refine ⟨_, (@pss_one _ _ _ (ps_ret (pe_and (pe_cmpR op_ne (pv 1) (pv 2) (nomark _)) (pe_one (pe_cmpR (op_inI K) (pe_op op_add (pv 1) (pv 2)) (pe_ix ix_tup (pv 0) pe_int (fun _ _ => rfl)) rfl))))), ?_⟩
 have e1 : (!decide (V.int x = V.int y)) = decide (x ≠ y) := by
  rw [← decide_not]
  exact decide_eq_decide.mpr (not_congr ⟨fun h => V.int.inj h, fun h => by rw [h]⟩)
 unfold addUp at q
 refine ⟨_, rfl, _, rfl, rfl, _, rfl, ?_⟩
 rw [e1]
 refine ite2 (fun c => ?_) (fun c => ?_)
 ·rw [c, Bool.true_and] at q
  exact ⟨_, rfl, _, rfl, _, _, rfl, rfl, _, rfl, t, _, 1, _, rfl, rfl, SqT.of pl.t, rfl, b, x + y, ss, rfl, rfl, SqL.of pl.b, q⟩
 ·rw [Bool.eq_false_iff.mpr c, Bool.false_and] at q
  exact q
end
structure Bt4 (mg : Str → Option Value) : Prop extends Bt3 mg where
 zip : mg "zip" = none
 sum : mg "sum" = none
abbrev sNb : Stmt := top 23
abbrev sLw : Stmt := top 17
abbrev sIsT : Stmt := top 25
abbrev sCkT : Stmt := top 26
abbrev sPtt : Stmt := top 27
abbrev sTbh : Stmt := top 28
abbrev sTps : Stmt := top 29
abbrev sTat : Stmt := top 30
def iv (xs : List Nat) : List Int := xs.map fun k : Nat => (k : Int)
theorem iv_len (xs : List Nat) : (iv xs).length = xs.length := List.length_map _
def nbB (ss : List Int) (zs : List Int) : Bool := (List.range (zs.length - 1)).all fun i => addUp ss (zs.getD i 0) (zs.getD (i + 1) 0)
def spNb : Sp := fun vs H Q _ => ∃ (t a b p : Addr) (ns ss zs : List Int), vs = [.ref t, .ref p] ∧ IsPl H t a b ns ss ∧ H p = some (.lst (zs.map V.int)) ∧ zs.length < 64 ∧ ∀ H', Same H H' → Q (.bl (nbB ss zs)) H'
theorem rise_ext : ∀ {xs ys : List Int}, xs.Pairwise (· < ·) → ys.Pairwise (· < ·) → (∀ z, z ∈ xs ↔ z ∈ ys) → xs = ys
 | [], [], _, _, _ => rfl
 | [], y :: _, _, _, h => nomatch (h y).mpr List.mem_cons_self
 | x :: _, [], _, _, h => nomatch (h x).mp List.mem_cons_self
 | x :: xs, y :: ys, hx, hy, h => by
  rw [List.pairwise_cons] at hx hy
  have e : x = y := by
   rcases List.mem_cons.mp ((h x).mp List.mem_cons_self) with z | z
   ·exact z
   ·rcases List.mem_cons.mp ((h y).mpr List.mem_cons_self) with z' | z'
    ·exact z'.symm
    ·have := hx.1 y z'
     have := hy.1 x z
     omega
  subst e
  have : xs = ys := rise_ext hx.2 hy.2 fun z => by
   constructor
   ·intro hz
    rcases List.mem_cons.mp ((h z).mp (List.mem_cons_of_mem _ hz)) with e | q
    ·have := hx.1 z hz; omega
    ·exact q
   ·intro hz
    rcases List.mem_cons.mp ((h z).mpr (List.mem_cons_of_mem _ hz)) with e | q
    ·have := hy.1 z hz; omega
    ·exact q
  rw [this]
theorem cut1 (zs : List Int) : cutV (zs.map V.int) (some 1) none = (zs.drop 1).map V.int := by
 unfold cutV
 have h1 : HT.sIx (zs.map V.int).length 0 (some 1) = min 1 zs.length := by
  unfold HT.sIx
  rw [List.length_map]
  simp
 have h2 : HT.sIx (zs.map V.int).length (zs.map V.int).length none = zs.length := by
  unfold HT.sIx
  rw [List.length_map]
 rw [h1, h2]
 cases zs with
 | nil => rfl
 | cons x r =>
  have e : min 1 (x :: r).length = 1 := by rw [List.length_cons]; omega
  rw [e, List.map_cons, List.drop_succ_cons, List.drop_zero, List.drop_succ_cons, List.drop_zero, List.length_cons, Nat.add_sub_cancel, ← List.length_map (f := V.int), List.take_length]
def intsL : List PyData → Option (List Int)
 | [] => some []
 | .int n :: r => (intsL r).map (n :: ·)
 | _ :: _ => none
def intsD : PyData → Option (List Int)
 | .list ds => intsL ds
 | _ => none
theorem intsL_all : ∀ ds : List PyData, (intsL ds).isSome = ds.all isW
 | [] => rfl
 | .int n :: r => by
  show ((intsL r).map (n :: ·)).isSome = (true && r.all isW)
  rw [Option.isSome_map, intsL_all r, Bool.true_and]
 | .none :: _ => rfl
 | .bool _ :: _ => rfl
 | .str _ :: _ => rfl
 | .list _ :: _ => rfl
 | .tuple _ :: _ => rfl
 | .dict _ :: _ => rfl
theorem intsL_vals {H : Hp} : ∀ {xs : List V} {ds : List PyData} {zs : List Int}, DatAll H xs ds → intsL ds = some zs → xs = zs.map V.int
 | _, _, _, .nil, e => by cases e; rfl
 | _, _, zs, .cons (d := d) (ds := ds) h t, e => by
  cases h with
  | int n =>
   change (intsL ds).map (n :: ·) = some zs at e
   cases hh : intsL ds with
   | none => rw [hh] at e; cases e
   | some ys =>
    rw [hh] at e
    cases e
    rw [intsL_vals t hh]
    rfl
  | _ => cases e
def shortD : PyData → Prop
 | .list ds => ds.length < 64
 | _ => True
def spLwD : Sp := fun vs H Q _ => ∃ v d, vs = [v] ∧ Dat H v d ∧ shortD d ∧ ∀ H', Same H H' → Q (.bl (intsD d).isSome) H'
theorem ints_of {H : Hp} {v : V} {d : PyData} {zs : List Int} (h : Dat H v d) (sh : shortD d) (e : intsD d = some zs) : ∃ p, v = .ref p ∧ H p = some (.lst (zs.map V.int)) ∧ zs.length < 64 := by
 cases h with
 | lst ha hx =>
  have e1 := intsL_vals hx e
  have e2 := hx.len
  change _ < 64 at sh
  rw [e1] at ha e2
  refine ⟨_, rfl, ha, ?_⟩
  rw [List.length_map] at e2
  omega
 | _ => cases e
theorem last_atP {R : List Int} (h : 1 ≤ R.length) : atI (R.map V.int) (-1) = some (.int (R.getD (R.length - 1) 0)) := by
 have h' : R ≠ [] := fun z => by rw [z] at h; exact absurd h (by decide)
 have e : R = R.dropLast ++ [R.getLast h'] := (List.dropLast_concat_getLast h').symm
 have e2 : R.map V.int = R.dropLast.map V.int ++ [.int (R.getLast h')] := by
  conv => lhs; rw [e]
  rw [List.map_append]
  rfl
 rw [e2, atI_last, List.getD_eq_getElem?_getD, List.getElem?_eq_getElem (by omega), List.getLast_eq_getElem]
 rfl
theorem cut_toP (ns : List Int) (k : Nat) : cutV (ns.map V.int) none (some ((k : Int) + 1)) = (ns.take (k + 1)).map V.int := by
 unfold cutV
 have h1 : HT.sIx (ns.map V.int).length 0 none = 0 := rfl
 have h2 : HT.sIx (ns.map V.int).length (ns.map V.int).length (some ((k : Int) + 1)) = min (k + 1) ns.length := by
  have h3 := HT.sIx_nat (ns.map V.int).length (ns.map V.int).length (k + 1)
  rw [List.length_map] at h3 ⊢
  exact h3
 rw [h1, h2, List.drop_zero, Nat.sub_zero, List.map_take]
 rcases Nat.le_total (k + 1) ns.length with z | z
 ·rw [Nat.min_eq_left z]
 ·rw [Nat.min_eq_right z, List.take_of_length_le (by rw [List.length_map]; exact Nat.le_refl _), List.take_of_length_le (by rw [List.length_map]; exact z)]
structure PartOk (ns ss zs : List Int) : Prop where
 ne : 1 ≤ zs.length
 nd : zs.Nodup
 sub : ∀ z ∈ zs, z ∈ ns
 nb : nbB ss zs = true
theorem PartOk.len {ns ss zs : List Int} (h : PartOk ns ss zs) : zs.length ≤ ns.length := sub_lenI h.nd h.sub
def plcs (ss zs : List Int) : List Nat := (List.range (zs.length - 2)).filter fun k => addUp ss (zs.getD k 0) (zs.getD (zs.length - 1) 0)
def spPtt : Sp := fun vs H Q _ => ∃ (t a b p : Addr) (ns ss zs : List Int), vs = [.ref t, .ref p] ∧ IsPl H t a b ns ss ∧ H p = some (.lst (zs.map V.int)) ∧ 1 ≤ zs.length ∧ zs.length ≤ 10 ∧ ∀ (l : Addr) (H' : Hp), Same H H' → H l = none → H' l = some (.lst ((iv (plcs ss zs)).map V.int)) → Q (.ref l) H'
def spTbh : Sp := fun vs H Q _ => ∃ (p : Addr) (zs : List Int) (k : Nat), vs = [.ref p, .int k] ∧ H p = some (.lst (zs.map V.int)) ∧ zs.length ≤ 10 ∧ k < zs.length ∧ ∀ (l : Addr) (H' : Hp), Same H H' → H l = none → H' l = some (.lst ((zs.take (k + 1) ++ (zs.drop (k + 1)).reverse).map V.int)) → Q (.ref l) H'
def trn (zs : List Int) (k : Nat) : List Int := zs.take (k + 1) ++ (zs.drop (k + 1)).reverse
abbrev bmV : List Value := [.type "ValueError", .type "Exception", .type "BaseException", .type "object"]
def intsOf : PyData → List Int
 | .list ds => ds.filterMap fun d => match d with | .int n => some n | _ => none
 | _ => []
def numsD : PyData → List Int
 | .tuple [x, _] => intsOf x
 | _ => []
theorem rise_back {H : Hp} : ∀ {xs : List V} {ds : List PyData} {b : Int}, DatAll H xs ds → riseGo b ds = true → ∃ ns : List Int, xs = ns.map V.int ∧ ds = ns.map PyData.int ∧ ns.Pairwise (· < ·) ∧ ∀ x ∈ ns, b < x
 | _, _, _, .nil, _ => ⟨[], rfl, rfl, List.Pairwise.nil, fun x hx => nomatch hx⟩
 | _, _, b, .cons (d := d) (ds := ds) h t, e => by
  cases h with
  | int n =>
   change (decide (b < n) && riseGo n ds) = true at e
   rw [Bool.and_eq_true, decide_eq_true_eq] at e
   obtain ⟨ns, rfl, rfl, up, lo⟩ := rise_back t e.2
   refine ⟨n :: ns, rfl, rfl, List.pairwise_cons.mpr ⟨lo, up⟩, fun x hx => ?_⟩
   rcases List.mem_cons.mp hx with z | z
   ·rw [z]; exact e.1
   ·have := lo x z; omega
  | _ => cases e
theorem riseD_back {H : Hp} {v : V} {d : PyData} {few : Int} (hd : Dat H v d) (e : riseD few d = true) : ∃ (a : Addr) (ns : List Int), v = .ref a ∧ H a = some (.lst (ns.map V.int)) ∧ d = .list (ns.map PyData.int) ∧ Rise ns ∧ few ≤ (ns.length : Int) ∧ ns.length ≤ 10 := by
 cases hd with
 | lst ha hx =>
  rename_i a xs ds
  change (decide (few ≤ (ds.length : Int)) && (decide (ds.length ≤ 10) && riseGo (-1) ds)) = true at e
  rw [Bool.and_eq_true, Bool.and_eq_true, decide_eq_true_eq, decide_eq_true_eq] at e
  obtain ⟨ns, rfl, rfl, up, lo⟩ := rise_back hx e.2.2
  rw [List.length_map] at e
  exact ⟨a, ns, rfl, ha, rfl, ⟨up, fun x hx => by have := lo x hx; omega⟩, e.1, e.2.1⟩
 | _ => cases e
theorem intsOf_ints (ns : List Int) : intsOf (.list (ns.map PyData.int)) = ns := by
 induction ns with
 | nil => rfl
 | cons n r ih => exact congrArg (n :: ·) ih
theorem plan_back {H : Hp} {v : V} {d : PyData} (hd : Dat H v d) (e : planD d = true) : ∃ (t a b : Addr) (ns ss : List Int), v = .ref t ∧ IsPl H t a b ns ss ∧ numsD d = ns := by
 cases hd with
 | tup ht hx =>
  rename_i t xs ds
  match ds, hx, e with
  | [x, y], .cons h1 (.cons h2 .nil), e =>
   change (riseD 1 x && riseD 0 y) = true at e
   rw [Bool.and_eq_true] at e
   obtain ⟨a, ns, rfl, ha, rfl, rn, n1, n2⟩ := riseD_back h1 e.1
   obtain ⟨b, ss, rfl, hb, rfl, rs, s1, s2⟩ := riseD_back h2 e.2
   exact ⟨t, a, b, ns, ss, rfl, ⟨ht, ha, hb, ⟨rn, rs, by omega, n2, s2⟩⟩, intsOf_ints ns⟩
  | [], _, e => cases e
  | [_], _, e => cases e
  | _ :: _ :: _ :: _, _, e => cases e
 | _ => cases e
def spCkX (XP : Addr) : Sp := fun vs H Q E => ∃ v d, vs = [v] ∧ Dat H v d ∧ (planD d = true → Q .non H) ∧ (planD d = false → E (.ref XP) none H)
def partB (ns ss zs : List Int) : Bool := decide (1 ≤ zs.length) && (decide zs.Nodup && zs.all fun z => ns.contains z) && nbB ss zs
theorem partB_iff {ns ss zs : List Int} : partB ns ss zs = true ↔ PartOk ns ss zs := by
 unfold partB
 rw [Bool.and_eq_true, Bool.and_eq_true, Bool.and_eq_true, decide_eq_true_eq, decide_eq_true_eq, List.all_eq_true]
 exact ⟨fun ⟨⟨h1, h2, h3⟩, h4⟩ => ⟨h1, h2, fun z hz => List.contains_iff_mem.mp (h3 z hz), h4⟩, fun h => ⟨⟨h.ne, h.nd, fun z hz => List.contains_iff_mem.mpr (h.sub z hz)⟩, h.nb⟩⟩
def partD (ns ss : List Int) (d : PyData) : Bool := match intsD d with
 | some zs => partB ns ss zs
 | none => false
theorem partD_yes {H : Hp} {v : V} {d : PyData} {ns ss : List Int} (h : Dat H v d) (sh : shortD d) (e : partD ns ss d = true) : ∃ p zs, v = .ref p ∧ H p = some (.lst (zs.map V.int)) ∧ intsD d = some zs ∧ PartOk ns ss zs := by
 unfold partD at e
 cases c : intsD d with
 | none => rw [c] at e; cases e
 | some zs =>
  rw [c] at e
  obtain ⟨p, rfl, hp, _⟩ := ints_of h sh c
  exact ⟨p, zs, rfl, hp, rfl, partB_iff.mp e⟩
def placeD (ss zs : List Int) : PyData → Bool
 | .int i => (iv (plcs ss zs)).contains i
 | _ => false
def spIsTX : Sp := fun vs H Q _ => ∃ (t a b : Addr) (ns ss : List Int) (v : V) (d : PyData), vs = [.ref t, v] ∧ IsPl H t a b ns ss ∧ Dat H v d ∧ shortD d ∧ ∀ H', Same H H' → Q (.bl (partD ns ss d)) H'
def spCkTX (XP XT : Addr) : Sp := fun vs H Q E => ∃ (v0 : V) (d0 : PyData) (v : V) (d : PyData), vs = [v0, v] ∧ Dat H v0 d0 ∧ Dat H v d ∧ shortD d ∧
 (planD d0 = true → ∀ (t a b : Addr) (ns ss : List Int), v0 = .ref t → IsPl H t a b ns ss → (partD ns ss d = true → ∀ H', Same H H' → Q .non H') ∧ (partD ns ss d = false → ∀ H', Same H H' → E (.ref XT) none H')) ∧ (planD d0 = false → E (.ref XP) none H)
def spTpX (XP XT : Addr) : Sp := fun vs H Q E => ∃ (v0 : V) (d0 : PyData) (v : V) (d : PyData), vs = [v0, v] ∧ Dat H v0 d0 ∧ Dat H v d ∧ shortD d ∧
 (planD d0 = true → ∀ (t a b : Addr) (ns ss : List Int), v0 = .ref t → IsPl H t a b ns ss → (partD ns ss d = true → ∀ r H', Same H H' → Q r H') ∧ (partD ns ss d = false → ∀ H', Same H H' → E (.ref XT) none H')) ∧ (planD d0 = false → E (.ref XP) none H)
def spTatX (XP XT XL : Addr) : Sp := fun vs H Q E => ∃ (v0 : V) (d0 : PyData) (v : V) (d : PyData) (v2 : V) (d2 : PyData), vs = [v0, v, v2] ∧ Dat H v0 d0 ∧ Dat H v d ∧ Dat H v2 d2 ∧ shortD d ∧
 (planD d0 = true → ∀ (t a b : Addr) (ns ss : List Int), v0 = .ref t → IsPl H t a b ns ss → (∀ zs, intsD d = some zs → PartOk ns ss zs → (placeD ss zs d2 = true → ∀ r H', Same H H' → Q r H') ∧ (placeD ss zs d2 = false → ∀ H', Same H H' → E (.ref XL) none H')) ∧ (partD ns ss d = false → ∀ H', Same H H' → E (.ref XT) none H')) ∧ (planD d0 = false → E (.ref XP) none H)
section
variable {f g1 g2 g3 g4 XP XT XL : Addr} {fd gd1 gd2 gd3 gd4 : FuncData}
theorem ok_ckX {ip : Addr} {ipd : FuncData} (F : Fun K "check_plan" "check_plan" sCkP f fd) (eXP : PySem.W.excIn K XP bmV "ValueError.__new__" = true) (mXP : mg "NoPlan" = some (.ref XP))
  (GP : FnOk P w K mg base CX0 3 ip ipd ["thing"] spIsPD) (bP : Binds K ipd ["thing"] []) (kP : Kee K ip) (mP : mg "is_plan" = some (.ref ip)) : FnOk P w K mg base (CX1 P w) 4 f fd ["plan"] (spCkX XP) := by
 refine F.ok1 scCkP (fun vs H Q E h => ?_) (fun cdv A outer s H vs Q E hr h => ?_)
 ·obtain ⟨v, d, rfl, _⟩ := h
  rfl
 obtain ⟨v, d, rfl, hd, q, qe⟩ := h
 refine ⟨_, (@pss_one _ _ _ (ps_if (pt_not (pt_val (pe_call GP hr rfl mP kP bP .nil pass0 (pa_cons (pv 0) pa_nil)))) (@pss_one _ _ _ (ps_raise raises1 rfl PySem.F.excBase_ValueError eXP rfl mXP (pa_cons pe_str pa_nil))) pss_nil)), ?_⟩
 refine ⟨_, rfl, v, d, rfl, hd, _, rfl, ?_⟩
 cases c : planD d with
 | true => exact iteF (q c)
 | false => exact iteT ⟨by decide, qe c⟩
theorem scNb : FnScope ["plan", "numbers"] ["plan", "numbers"] (defScope sNb) := ⟨rfl, rfl, rfl, by decide +kernel, rfl, by decide +kernel, by decide +kernel⟩
theorem ok_nb (F : Fun K "are_neighbours" "are_neighbours" sNb f fd) (B : Bt4 mg)
  (GA : FnOk P w K mg base CX0 1 g1 gd1 ["plan", "one", "other"] spAdd) (bA : Binds K gd1 ["plan", "one", "other"] []) (kA : Kee K g1) (mA : mg "add_up" = some (.ref g1)) : FnOk P w K mg base CX0 2 f fd ["plan", "numbers"] spNb := by
 refine F.ok scNb (fun vs H Q E h => ?_) (fun cdv A outer s H vs Q E hr h => ?_)
 ·obtain ⟨t, a, b, p, ns, ss, zs, rfl, _⟩ := h
  rfl
 obtain ⟨t, a, b, p, ns, ss, zs, rfl, pl, hp, h64, q⟩ := h
 refine ⟨_, (@pss_one _ _ _ (ps_ret (pe_callB (call_allB rfl) rfl B.all boot_all (pa_cons (pe_comp ["one", "other"] rfl (blk_ok (defScope sNb) ["plan", "numbers"] rfl rfl (by decide +kernel)) (pi_zip rfl B.zip (pa_cons (pv 1) (pa_cons (pe_slice sl_list (pv 1) (po_some pe_int) po_none) pa_nil))) (fun pins C fp s3 H3 => ⟨(pg_tupK (n := 2) K rfl (pgs_cons (pg_name (i := 0) (show (blkN ["one", "other"] ["plan", "numbers"]).Nodup by decide +kernel) rfl (Or.inl rfl)) (pgs_cons (pg_name (i := 1) (show (blkN ["one", "other"] ["plan", "numbers"]).Nodup by decide +kernel) rfl (Or.inl rfl)) pgs_nil))), pif_nil, (pe_call GA hr rfl mA kA bA .nil pass0 (pa_cons (pv 2) (pa_cons (pv 0) (pa_cons (pv 1) pa_nil))))⟩)) pa_nil)))), ?_⟩
 refine ⟨_, rfl, _, rfl, 1, rfl, p, _, rfl, SqL.of hp, fun l2 hl2 => ?_⟩
 rw [cut1]
 have g2 : Same H (upd H l2 (.lst ((zs.drop 1).map V.int))) := Same.new hl2 _
 have e2 : (upd H l2 (.lst ((zs.drop 1).map V.int))) l2 = some (.lst ((zs.drop 1).map V.int)) := upd_same
 generalize upd H l2 (.lst ((zs.drop 1).map V.int)) = H2 at g2 e2 ⊢
 refine ⟨p, l2, _, _, rfl, g2 _ _ hp, e2, fun D hD => ?_⟩
 refine turns_zip (n := zs.length - 1) (σ := [some (.ref t), some (.ref p)]) (xs := zs.map V.int) (ys := (zs.drop 1).map V.int) (fun _ => true) (fun i => .bl (addUp ss (zs.getD i 0) (zs.getD (i + 1) 0))) (g2 _ _ hp) e2 (by rw [List.length_map, List.length_map, List.length_drop]; omega) hD (by omega) (fun i H' hi g P hP => ?_) (fun i H' hi _ g P hP => ?_) fun H3 g3 e3 => ?_
 ·exact hP _ Same.rfl'
 ·have d1 : (zs.map V.int).getD i .non = .int (zs.getD i 0) := getD_map_int _ (by omega)
  have d2 : ((zs.drop 1).map V.int).getD i .non = .int (zs.getD (i + 1) 0) := by
   rw [getD_map_int _ (by rw [List.length_drop]; omega)]
   congr 1
   rw [List.getD_eq_getElem?_getD, List.getD_eq_getElem?_getD, List.getElem?_drop, Nat.add_comm]
  rw [d1, d2]
  exact ⟨_, rfl, _, rfl, _, rfl, t, a, b, ns, ss, _, _, rfl, (pl.same g2).same g, hP _ Same.rfl'⟩
 ·refine ⟨D, (List.range (zs.length - 1)).map fun i => addUp ss (zs.getD i 0) (zs.getD (i + 1) 0), rfl, SqL.of (by rw [e3, fltT, List.map_map]; rfl), ?_⟩
  have e : ((List.range (zs.length - 1)).map fun i => addUp ss (zs.getD i 0) (zs.getD (i + 1) 0)).all id = nbB ss zs := by
   unfold nbB
   rw [List.all_map]
   rfl
  rw [e]
  exact q H3 (g2.trans g3)
theorem scLw : FnScope ["thing"] ["thing"] (defScope sLw) := ⟨rfl, rfl, rfl, by decide +kernel, rfl, by decide +kernel, by decide +kernel⟩
theorem ok_lwD (F : Fun K "is_list_of_wholes" "is_list_of_wholes" sLw f fd) (B : Bt2 mg)
  (GW : FnOk P w K mg base CX0 1 g1 gd1 ["thing"] spWholeD) (bW : Binds K gd1 ["thing"] []) (kW : Kee K g1) (mW : mg "is_whole" = some (.ref g1)) : FnOk P w K mg base CX0 2 f fd ["thing"] spLwD := by
 refine F.ok scLw (fun vs H Q E h => ?_) (fun cdv A outer s H vs Q E hr h => ?_)
 ·obtain ⟨v, d, rfl, _⟩ := h
  rfl
 obtain ⟨v, d, rfl, hd, sh, q⟩ := h
 refine ⟨_, (@pss_one _ _ _ (ps_ret (pe_and (pe_callB (call_isi "list") rfl B.isinstance boot_isinstance (pa_cons (pv 0) (pa_cons (pe_bltn (v := .ty "list") rfl B.list PyProof.Rows.boot_list rfl) pa_nil))) (pe_one (pe_callB (call_allB rfl) rfl B.all boot_all (pa_cons (pe_comp ["number"] rfl (blk_ok (defScope sLw) ["thing"] rfl rfl (by decide +kernel)) (pi_list (pv 0)) (fun pins C fp s3 H3 => ⟨(pg_name (i := 0) (show (blkN ["number"] ["thing"]).Nodup by decide +kernel) rfl (Or.inl rfl)), pif_nil, (pe_call GW hr rfl mW kW bW .nil pass0 (pa_cons (pv 0) pa_nil))⟩)) pa_nil)))))), ?_⟩
 refine ⟨_, rfl, _, _, isL d, rfl, hd.ty, kit_l _ d, _, rfl, ite2 (fun c => ?_) (fun c => ?_)⟩
 ·cases hd with
  | lst ha hx =>
   rename_i p xs ds
   have hl := hx.len
   change ds.length < 64 at sh
   refine ⟨_, rfl, p, rfl, ⟨_, SqL.of ha⟩, fun D hD => ?_⟩
   refine turns_list (σ := [some (.ref p)]) (xs := xs) (fun _ => true) (fun i => .bl (isW (ds.getD i .none))) (SqL.of ha) hD (by omega) (fun i H' hi g P hP => ?_) (fun i H' hi _ g P hP => ?_) fun H2 g2 e2 => ?_
   ·exact hP _ Same.rfl'
   ·have ex : xs[i]? = some (xs.getD i .non) := by rw [List.getD_eq_getElem?_getD, List.getElem?_eq_getElem hi]; rfl
    obtain ⟨d', ed, hd'⟩ := hx.at ex
    have e3 : ds.getD i .none = d' := by rw [List.getD_eq_getElem?_getD, ed]; rfl
    have hP' := hP
    rw [e3] at hP'
    exact ⟨_, rfl, _, d', rfl, hd'.same g, hP' _ Same.rfl'⟩
   refine ⟨D, (List.range ds.length).map fun i => isW (ds.getD i .none), rfl, SqL.of (by rw [e2, fltT, List.map_map, hl]; rfl), ?_⟩
   have et : ((List.range ds.length).map fun i => isW (ds.getD i .none)).all id = (intsD (.list ds)).isSome := by
    show _ = (intsL ds).isSome
    rw [intsL_all, List.all_map, Bool.eq_iff_iff, List.all_eq_true, List.all_eq_true]
    constructor
    ·intro h x hx
     obtain ⟨i, hi, e⟩ := List.mem_iff_getElem.mp hx
     have z := h i (List.mem_range.mpr hi)
     change isW (ds.getD i .none) = true at z
     rw [List.getD_eq_getElem?_getD, List.getElem?_eq_getElem hi, e] at z
     exact z
    ·intro h i hi
     have hi' := List.mem_range.mp hi
     show isW (ds.getD i .none) = true
     rw [List.getD_eq_getElem?_getD, List.getElem?_eq_getElem hi']
     exact h _ (List.getElem_mem hi')
   rw [et]
   exact q _ g2
  | _ => cases c
 ·have e : (intsD d).isSome = false := by cases d <;> first | rfl | exact absurd rfl c
  rw [e] at q
  exact q _ Same.rfl'
theorem scIsT : FnScope ["plan", "thing"] ["plan", "thing"] (defScope sIsT) := ⟨rfl, rfl, rfl, by decide +kernel, rfl, by decide +kernel, by decide +kernel⟩
theorem ok_isTX (F : Fun K "is_part" "is_part" sIsT f fd) (B : Bt4 mg)
  (GL : FnOk P w K mg base CX0 4 g1 gd1 ["thing"] spLwD) (bL : Binds K gd1 ["thing"] []) (kL : Kee K g1) (mL : mg "is_list_of_wholes" = some (.ref g1))
  (GN : FnOk P w K mg base CX0 4 g2 gd2 ["plan", "numbers"] spNb) (bN : Binds K gd2 ["plan", "numbers"] []) (kN : Kee K g2) (mN : mg "are_neighbours" = some (.ref g2)) : FnOk P w K mg base CX0 5 f fd ["plan", "thing"] spIsTX := by
 refine F.ok scIsT (fun vs H Q E h => ?_) (fun cdv A outer s H vs Q E hr h => ?_)
 ·obtain ⟨t, a, b, ns, ss, v, d, rfl, _⟩ := h
  rfl
 obtain ⟨t, a, b, ns, ss, v, d, rfl, pl, hd, sh, q⟩ := h
 have n10 := pl.ok.n2
 have nml : (ns.map V.int).length = ns.length := List.length_map _
 refine ⟨_, (@pss_cons _ _ _ _ _ (ps_if (PW.pt (pw_or (pt_not (pt_val (pe_call GL hr rfl mL kL bL .nil pass0 (pa_cons (pv 1) pa_nil)))) (pw_or1 (pt_cmpR op_eq (pe_callB call_len_seq rfl B.len PySem.boot_len (pa_cons (pv 1) pa_nil)) pe_int (nomark _))))) (@pss_one _ _ _ (ps_ret pe_bl)) pss_nil) (@pss_one _ _ _ (ps_ret (pe_and (pe_cmpR (op_eqD hr.units) (pe_callB call_sorted rfl B.sorted boot_sorted (pa_cons (pv 1) pa_nil)) (pe_comp ["number"] rfl (blk_ok (defScope sIsT) ["plan", "thing"] rfl rfl (by decide +kernel)) (pi_list (pe_ix ix_tup (pv 0) pe_int (fun _ _ => rfl))) (fun pins C fp s3 H3 => ⟨(pg_name (i := 0) (show (blkN ["number"] ["plan", "thing"]).Nodup by decide +kernel) rfl (Or.inl rfl)), (pif_one (pt_cmpR (op_inI K) (pv 0) (pv 2) rfl)), (pv 0)⟩)) (nomark _)) (pe_one (pe_call GN hr rfl mN kN bN .nil pass0 (pa_cons (pv 0) (pa_cons (pv 1) pa_nil)))))))), ?_⟩
 refine ⟨_, rfl, v, d, rfl, hd, sh, fun H2 g2 => ⟨_, rfl, ?_⟩⟩
 unfold partD at q
 cases c : intsD d with
 | none =>
  rw [c] at q
  exact iteT (q _ g2)
 | some zs =>
  rw [c] at q
  refine iteF ?_
  obtain ⟨p, rfl, hp, z64⟩ := ints_of hd sh c
  have zml : (zs.map V.int).length = zs.length := List.length_map _
  have hp2 := g2 _ _ hp
  have q : ∀ H', Same H H' → Q (.bl (partB ns ss zs)) H' := q
  unfold partB at q
  refine ⟨_, rfl, p, _, rfl, .inl (SqL.of hp2), rfl, _, rfl, ite2 (fun c1 => ?_) (fun c1 => ?_)⟩
  ·have e := V.int.inj (of_decide_eq_true c1)
   rw [zml] at e
   rw [decide_eq_false (show ¬ 1 ≤ zs.length by omega)] at q
   exact q _ g2
  have z1 : 1 ≤ zs.length := by
   rcases Nat.eq_zero_or_pos zs.length with z | z
   ·exact absurd (decide_eq_true (by rw [zml, z]; rfl)) c1
   ·exact z
  rw [decide_eq_true z1, Bool.true_and] at q
  refine ⟨_, rfl, p, zs, rfl, SqL.of hp2, by omega, fun l ys hl hperm hle => ?_⟩
  have g3 : Same H2 (upd H2 l (.lst (ys.map V.int))) := Same.new hl _
  have el : upd H2 l (.lst (ys.map V.int)) l = some (.lst (ys.map V.int)) := upd_same
  have pl3 := (pl.same g2).same g3
  have hp3 := g3 _ _ hp2
  generalize upd H2 l (.lst (ys.map V.int)) = H3 at g3 el pl3 hp3 ⊢
  refine ⟨_, rfl, t, _, 0, _, rfl, rfl, SqT.of pl3.t, rfl, a, rfl, ⟨_, SqL.of pl3.a⟩, fun D hD => ?_⟩
  refine turns_list (σ := [some (.ref t), some (.ref p)]) (xs := ns.map V.int) (fun i => zs.contains (ns.getD i 0)) (fun i => .int (ns.getD i 0)) (SqL.of pl3.a) hD (by omega) (fun i H' hi g P hP => ?_) (fun i H' hi _ g P hP => ?_) fun H4 g4 e4 => ?_
  ·rw [getD_map_int _ (by rw [nml] at hi; exact hi)]
   exact ⟨_, rfl, _, rfl, p, ns.getD i 0, zs, rfl, rfl, SqL.of (g _ _ hp3), _, rfl, hP _ Same.rfl'⟩
  ·rw [getD_map_int _ (by rw [nml] at hi; exact hi)]
   exact ⟨_, rfl, hP _ Same.rfl'⟩
  have ef : (((List.range (ns.map V.int).length).filter fun i => zs.contains (ns.getD i 0)).map fun i => V.int (ns.getD i 0)) = (ns.filter fun x => zs.contains x).map V.int := by
   rw [nml, ← range_getD_filter (fun x => zs.contains x) (0 : Int) ns, List.map_map]
   rfl
  rw [ef] at e4
  have eq : (ys == ns.filter fun x => zs.contains x) = (decide zs.Nodup && zs.all fun z => ns.contains z) := by
   rw [Bool.eq_iff_iff, beq_iff_eq, Bool.and_eq_true, decide_eq_true_eq, List.all_eq_true]
   constructor
   ·intro h
    have nd : ys.Nodup := by rw [h]; exact List.Nodup.sublist List.filter_sublist (pl.ok.n.up.imp fun h => Int.ne_of_lt h)
    refine ⟨hperm.nodup_iff.mp nd, fun z hz => ?_⟩
    have : z ∈ ys := hperm.mem_iff.mpr hz
    rw [h] at this
    exact List.contains_iff_mem.mpr (List.mem_filter.mp this).1
   ·rintro ⟨nd, sub⟩
    refine rise_ext (strict hle (hperm.nodup_iff.mpr nd)) (pl.ok.n.up.filter _) fun z => ?_
    rw [hperm.mem_iff, List.mem_filter, List.contains_iff_mem]
    exact ⟨fun h => ⟨List.contains_iff_mem.mp (sub z h), h⟩, fun h => h.2⟩
  refine ⟨_, rcv_ints (SqL.of (g4 _ _ el)) (SqL.of e4), ?_⟩
  rw [eq]
  cases c2 : (decide zs.Nodup && zs.all fun z => ns.contains z) with
  | false =>
   rw [c2] at q
   exact ⟨_, rfl, iteF (q _ (g2.trans (g3.trans g4)))⟩
  | true =>
   rw [c2] at q
   refine ⟨_, rfl, iteT ?_⟩
   refine ⟨_, rfl, _, rfl, t, a, b, p, ns, ss, zs, rfl, pl3.same g4, g4 _ _ hp3, by omega, fun H5 g5 => ?_⟩
   exact q _ (g2.trans (g3.trans (g4.trans g5)))
theorem scCkT : FnScope ["plan", "part"] ["plan", "part"] (defScope sCkT) := ⟨rfl, rfl, rfl, by decide +kernel, rfl, by decide +kernel, by decide +kernel⟩
theorem ok_ckTX (F : Fun K "check_part" "check_part" sCkT f fd) (eXT : PySem.W.excIn K XT bmV "ValueError.__new__" = true) (mXT : mg "NoPart" = some (.ref XT))
  (GC : FnOk P w K mg base (CX1 P w) 5 g1 gd1 ["plan"] (spCkX XP)) (bC : Binds K gd1 ["plan"] []) (kC : Kee K g1) (mC : mg "check_plan" = some (.ref g1))
  (GI : FnOk P w K mg base CX0 5 g2 gd2 ["plan", "thing"] spIsTX) (bI : Binds K gd2 ["plan", "thing"] []) (kI : Kee K g2) (mI : mg "is_part" = some (.ref g2)) : FnOk P w K mg base (CX1 P w) 6 f fd ["plan", "part"] (spCkTX XP XT) := by
 refine F.ok1 scCkT (fun vs H Q E h => ?_) (fun cdv A outer s H vs Q E hr h => ?_)
 ·obtain ⟨v0, d0, v, d, rfl, _⟩ := h
  rfl
 obtain ⟨v0, d0, v, d, rfl, hd0, hd, sh, q, qe⟩ := h
 refine ⟨_, (@pss_cons _ _ _ _ _ (ps_expr (pe_call GC hr rfl mC kC bC .nil pass1 (pa_cons (pv 0) pa_nil))) (@pss_one _ _ _ (ps_if (pt_not (pt_val (pe_call GI hr rfl mI kI bI .nil pass0 (pa_cons (pv 0) (pa_cons (pv 1) pa_nil))))) (@pss_one _ _ _ (ps_raise raises1 rfl PySem.F.excBase_ValueError eXT rfl mXT (pa_cons pe_str pa_nil))) pss_nil))), ?_⟩
 refine ⟨_, rfl, v0, d0, rfl, hd0, fun c0 => ?_, qe⟩
 obtain ⟨t, a, b, ns, ss, rfl, pl, _⟩ := plan_back hd0 c0
 have q := q c0 t a b ns ss rfl pl
 refine ⟨_, rfl, _, rfl, t, a, b, ns, ss, v, d, rfl, pl, hd, sh, fun H2 g2 => ⟨_, rfl, ?_⟩⟩
 cases c : partD ns ss d with
 | false => exact iteT ⟨by decide, q.2 c _ g2⟩
 | true => exact iteF (q.1 c _ g2)
theorem scPtt : FnScope ["plan", "part"] ["plan", "part"] (defScope sPtt) := ⟨rfl, rfl, rfl, by decide +kernel, rfl, by decide +kernel, by decide +kernel⟩
theorem ok_ptt (F : Fun K "places_to_turn" "places_to_turn" sPtt f fd) (B : Bt4 mg)
  (GA : FnOk P w K mg base CX0 1 g1 gd1 ["plan", "one", "other"] spAdd) (bA : Binds K gd1 ["plan", "one", "other"] []) (kA : Kee K g1) (mA : mg "add_up" = some (.ref g1)) : FnOk P w K mg base CX0 2 f fd ["plan", "part"] spPtt := by
 refine F.ok scPtt (fun vs H Q E h => ?_) (fun cdv A outer s H vs Q E hr h => ?_)
 ·obtain ⟨t, a, b, p, ns, ss, zs, rfl, _⟩ := h
  rfl
 obtain ⟨t, a, b, p, ns, ss, zs, rfl, pl, hp, z1, z10, q⟩ := h
 refine ⟨_, (@pss_one _ _ _ (ps_ret (pe_comp ["place"] rfl (blk_ok (defScope sPtt) ["plan", "part"] rfl rfl (by decide +kernel)) (pi_range1 rfl B.range (pa_cons (pe_op op_sub (pe_callB call_len_seq rfl B.len PySem.boot_len (pa_cons (pv 1) pa_nil)) pe_int) pa_nil)) (fun pins C fp s3 H3 => ⟨(pg_name (i := 0) (show (blkN ["place"] ["plan", "part"]).Nodup by decide +kernel) rfl (Or.inl rfl)), (pif_one (pt_val (pe_call GA hr rfl mA kA bA .nil pass0 (pa_cons (pv 1) (pa_cons (pe_ix (ix_listK K) (pv 2) (pv 0) (fun _ _ => rfl)) (pa_cons (pe_ix (ix_listK K) (pv 2) (pe_un un_neg pe_int) (fun _ _ => rfl)) pa_nil)))))), (pv 0)⟩)))), ?_⟩
 have zml : (zs.map V.int).length = zs.length := List.length_map _
 refine ⟨_, rfl, p, _, rfl, .inl (SqL.of hp), _, _, rfl, rfl, _, rfl, by rw [zml]; omega, by rw [zml]; omega, fun D hD => ?_⟩
 have en : (((zs.map V.int).length : Int) - 2).toNat = zs.length - 2 := by rw [zml]; omega
 rw [en]
 refine turns_range (lo := 0) (n := zs.length - 2) (σ := [some (.ref t), some (.ref p)]) (fun i => addUp ss (zs.getD i 0) (zs.getD (zs.length - 1) 0)) (fun i => .int ((i : Nat) : Int)) hD (by omega) (fun i H' hi g P hP => ?_) (fun i H' hi _ g P hP => ?_) fun H2 g2 e2 => ?_
 ·have h1 : atI (zs.map V.int) (0 + (i : Int)) = some (.int (zs.getD i 0)) := by
   rw [Int.zero_add]
   exact atI_nat (by rw [List.getElem?_map, List.getD_eq_getElem?_getD, List.getElem?_eq_getElem (by omega)]; rfl)
  have h2 : atI (zs.map V.int) (-1) = some (.int (zs.getD (zs.length - 1) 0)) := last_atP z1
  exact ⟨_, rfl, _, rfl, _, rfl, p, _, _, _, rfl, rfl, SqL.of (g _ _ hp), h1, _, rfl, _, rfl, p, _, _, _, rfl, rfl, SqL.of (g _ _ hp), h2, t, a, b, ns, ss, _, _, rfl, pl.same g, _, rfl, hP _ Same.rfl'⟩
 ·rw [← Int.zero_add (i : Int)] at hP
  exact ⟨_, rfl, hP _ Same.rfl'⟩
 refine q D H2 g2 hD ?_
 rw [e2]
 unfold plcs iv
 rw [List.map_map]
 rfl
theorem scTbh : FnScope ["part", "place"] ["part", "place"] (defScope sTbh) := ⟨rfl, rfl, rfl, by decide +kernel, rfl, by decide +kernel, by decide +kernel⟩
theorem ok_tbh (F : Fun K "turned_behind" "turned_behind" sTbh f fd) (B : Bt4 mg) (zrev : mg "reversed" = none) : FnOk P w K mg base CX0 1 f fd ["part", "place"] spTbh := by
 refine F.ok scTbh (fun vs H Q E h => ?_) (fun cdv A outer s H vs Q E hr h => ?_)
 ·obtain ⟨p, zs, k, rfl, _⟩ := h
  rfl
 obtain ⟨p, zs, k, rfl, hp, z10, hk, q⟩ := h
 refine ⟨_, (@pss_one _ _ _ (ps_ret (pe_op op_cat (pe_slice sl_list (pv 0) po_none (po_some (pe_op op_add (pv 1) pe_int))) (pe_list_rev rfl rfl zrev rfl B.list (pa_cons (pe_slice sl_list (pv 0) (po_some (pe_op op_add (pv 1) pe_int)) po_none) pa_nil))))), ?_⟩
 refine ⟨_, rfl, _, rfl, _, _, rfl, rfl, _, rfl, p, _, rfl, SqL.of hp, fun c1 hc1 => ?_⟩
 rw [cut_toP zs k]
 have g1 := Same.new hc1 (.lst ((zs.take (k + 1)).map V.int))
 have e1 : upd H c1 (.lst ((zs.take (k + 1)).map V.int)) c1 = some (.lst ((zs.take (k + 1)).map V.int)) := upd_same
 generalize upd H c1 (.lst ((zs.take (k + 1)).map V.int)) = H1 at g1 e1 ⊢
 refine ⟨_, rfl, _, rfl, _, _, rfl, rfl, _, rfl, p, _, rfl, SqL.of (g1 _ _ hp), fun c2 hc2 => ?_⟩
 rw [cut_from zs k]
 have g2 := Same.new hc2 (.lst ((zs.drop (k + 1)).map V.int))
 refine ⟨c2, _, rfl, upd_same, fun r hr => ?_⟩
 have g3 := Same.new hr (.lst ((zs.drop (k + 1)).map V.int).reverse)
 refine ⟨c1, r, _, _, rfl, rfl, g3 _ _ (g2 _ _ e1), upd_same, by rw [List.length_reverse, List.length_map, List.length_map, List.length_take, List.length_drop]; exact Nat.le_trans (by omega : _ ≤ 1000) (by decide), fun o ho => ?_⟩
 have g4 := Same.new ho (.lst ((zs.take (k + 1)).map V.int ++ ((zs.drop (k + 1)).map V.int).reverse))
 have gg := g1.trans (g2.trans (g3.trans g4))
 refine q o _ gg (none_of_same (g1.trans (g2.trans g3)) ho) ?_
 rw [upd_same, List.map_append, List.map_reverse]
end
section
variable {f g1 g2 g3 g4 XP XT XL : Addr} {fd gd1 gd2 gd3 gd4 : FuncData}
theorem scTps : FnScope ["plan", "part"] ["plan", "part"] (defScope sTps) := ⟨rfl, rfl, rfl, by decide +kernel, rfl, by decide +kernel, by decide +kernel⟩
theorem ok_tpsX (F : Fun K "turn_places" "turn_places" sTps f fd)
  (GC : FnOk P w K mg base (CX1 P w) 6 g1 gd1 ["plan", "part"] (spCkTX XP XT)) (bC : Binds K gd1 ["plan", "part"] []) (kC : Kee K g1) (mC : mg "check_part" = some (.ref g1))
  (GP : FnOk P w K mg base CX0 6 g2 gd2 ["plan", "part"] spPtt) (bP : Binds K gd2 ["plan", "part"] []) (kP : Kee K g2) (mP : mg "places_to_turn" = some (.ref g2)) : FnOk P w K mg base (CX1 P w) 7 f fd ["plan", "part"] (spTpX XP XT) := by
 refine F.ok1 scTps (fun vs H Q E h => ?_) (fun cdv A outer s H vs Q E hr h => ?_)
 ·obtain ⟨v0, d0, v, d, rfl, _⟩ := h
  rfl
 obtain ⟨v0, d0, v, d, rfl, hd0, hd, sh, q, qe⟩ := h
 refine ⟨_, (@pss_cons _ _ _ _ _ (ps_expr (pe_call GC hr rfl mC kC bC .nil pass1 (pa_cons (pv 0) (pa_cons (pv 1) pa_nil)))) (@pss_one _ _ _ (ps_ret (pe_call GP hr rfl mP kP bP .nil pass0 (pa_cons (pv 0) (pa_cons (pv 1) pa_nil)))))), ?_⟩
 refine ⟨_, rfl, _, rfl, v0, d0, v, d, rfl, hd0, hd, sh, fun c0 t a b ns ss e0 pl => ⟨fun c1 H1 g1 => ?_, fun c1 H1 g1 => (q c0 t a b ns ss e0 pl).2 c1 H1 g1⟩, qe⟩
 subst e0
 obtain ⟨p, zs, rfl, hp, ez, pk⟩ := partD_yes hd sh c1
 have n10 := pl.ok.n2
 have zl := pk.len
 exact ⟨_, rfl, _, rfl, t, a, b, p, ns, ss, zs, rfl, pl.same g1, g1 _ _ hp, pk.ne, by omega, fun l H3 g3 nl el => (q c0 t a b ns ss rfl pl).1 c1 _ _ (g1.trans g3)⟩
theorem scTat : FnScope ["plan", "part", "place"] ["plan", "part", "place"] (defScope sTat) := ⟨rfl, rfl, rfl, by decide +kernel, rfl, by decide +kernel, by decide +kernel⟩
theorem ok_tatX (F : Fun K "turned_at" "turned_at" sTat f fd) (eXL : PySem.W.excIn K XL bmV "ValueError.__new__" = true) (mXL : mg "NoPlace" = some (.ref XL))
  (GC : FnOk P w K mg base (CX1 P w) 6 g1 gd1 ["plan", "part"] (spCkTX XP XT)) (bC : Binds K gd1 ["plan", "part"] []) (kC : Kee K g1) (mC : mg "check_part" = some (.ref g1))
  (GP : FnOk P w K mg base CX0 6 g2 gd2 ["plan", "part"] spPtt) (bP : Binds K gd2 ["plan", "part"] []) (kP : Kee K g2) (mP : mg "places_to_turn" = some (.ref g2))
  (GW : FnOk P w K mg base CX0 6 g3 gd3 ["thing"] spWholeD) (bW : Binds K gd3 ["thing"] []) (kW : Kee K g3) (mW : mg "is_whole" = some (.ref g3))
  (GT : FnOk P w K mg base CX0 6 g4 gd4 ["part", "place"] spTbh) (bT : Binds K gd4 ["part", "place"] []) (kT : Kee K g4) (mT : mg "turned_behind" = some (.ref g4)) : FnOk P w K mg base (CX1 P w) 7 f fd ["plan", "part", "place"] (spTatX XP XT XL) := by
 refine F.ok1 scTat (fun vs H Q E h => ?_) (fun cdv A outer s H vs Q E hr h => ?_)
 ·obtain ⟨v0, d0, v, d, v2, d2, rfl, _⟩ := h
  rfl
 obtain ⟨v0, d0, v, d, v2, d2, rfl, hd0, hd, hd2, sh, q, qe⟩ := h
 refine ⟨_, (@pss_cons _ _ _ _ _ (ps_expr (pe_call GC hr rfl mC kC bC .nil pass1 (pa_cons (pv 0) (pa_cons (pv 1) pa_nil)))) (@pss_cons _ _ _ _ _ (ps_if (PW.pt (pw_or (pt_not (pt_val (pe_call GW hr rfl mW kW bW .nil pass0 (pa_cons (pv 2) pa_nil)))) (pw_or1 (pt_cmpR (op_notInI K) (pv 2) (pe_call GP hr rfl mP kP bP .nil pass0 (pa_cons (pv 0) (pa_cons (pv 1) pa_nil))) rfl)))) (@pss_one _ _ _ (ps_raise raises1 rfl PySem.F.excBase_ValueError eXL rfl mXL (pa_cons pe_str pa_nil))) pss_nil) (@pss_one _ _ _ (ps_ret (pe_call GT hr rfl mT kT bT .nil pass0 (pa_cons (pv 1) (pa_cons (pv 2) pa_nil))))))), ?_⟩
 refine ⟨_, rfl, _, rfl, v0, d0, v, d, rfl, hd0, hd, sh, fun c0 t a b ns ss e0 pl => ⟨fun c1 H1 g1 => ?_, fun c1 H1 g1 => (q c0 t a b ns ss e0 pl).2 c1 H1 g1⟩, qe⟩
 subst e0
 obtain ⟨p, zs, rfl, hp, ez, pk⟩ := partD_yes hd sh c1
 obtain ⟨q1, q2⟩ := (q c0 t a b ns ss rfl pl).1 zs ez pk
 have n10 := pl.ok.n2
 have zl := pk.len
 refine ⟨_, rfl, v2, d2, rfl, hd2.same g1, _, rfl, ?_⟩
 cases cw : isW d2 with
 | false =>
  refine iteT ⟨by decide, q2 ?_ _ g1⟩
  cases d2 <;> first | rfl | cases cw
 | true =>
  refine iteF ?_
  obtain ⟨i, rfl⟩ : ∃ i, d2 = .int i := by
   cases d2 with
   | int i => exact ⟨i, rfl⟩
   | _ => cases cw
  have e2 : v2 = .int i := Dat.ofInt hd2
  subst e2
  refine ⟨_, rfl, _, rfl, _, rfl, t, a, b, p, ns, ss, zs, rfl, pl.same g1, g1 _ _ hp, pk.ne, by omega, fun l H3 g3 nl el => ?_⟩
  have g13 := g1.trans g3
  refine ⟨l, i, iv (plcs ss zs), rfl, rfl, SqL.of el, _, rfl, ?_⟩
  cases cp : (iv (plcs ss zs)).contains i with
  | false => exact iteT ⟨by decide, q2 cp _ g13⟩
  | true =>
   refine iteF ?_
   obtain ⟨k, hk, rfl⟩ := List.mem_map.mp (List.contains_iff_mem.mp cp)
   have hkl : k < zs.length := by
    have := List.mem_range.mp (List.mem_filter.mp hk).1
    omega
   exact ⟨_, rfl, _, rfl, p, zs, k, rfl, g13 _ _ hp, by omega, hkl, fun o H4 g4 no eo => q1 cp _ _ (g13.trans g4)⟩
end
abbrev sCopy : Stmt := top 38
abbrev sLpr : Stmt := top 39
abbrev sLpl : Stmt := top 41
theorem eqv_same {K : PySem.W.Frag} {H : Hp} {n : Nat} {a b : Addr} {xs : List Int} (ne : a ≠ b) (h1 : H a = some (.lst (xs.map V.int))) (h2 : H b = some (.lst (xs.map V.int))) : EqV K H (n + 1) (.ref a) (.ref b) true := by
 have q := eqv_ints (K := K) (n := n) ne (SqL.of h1) (SqL.of h2)
 rw [beq_self_eq_true] at q
 exact q
theorem rcv_plan {K : PySem.W.Frag} {H : Hp} {a b a1 a2 b1 b2 : Addr} {xs ys : List Int} (ha : H a = some (.tup [.ref a1, .ref a2])) (hb : H b = some (.tup [.ref b1, .ref b2])) (h1 : H a1 = some (.lst (xs.map V.int))) (h2 : H a2 = some (.lst (ys.map V.int)))
  (h3 : H b1 = some (.lst (xs.map V.int))) (h4 : H b2 = some (.lst (ys.map V.int))) (n1 : a1 ≠ b1) (n2 : a2 ≠ b2) : RcV K H (.ref a) (.ref b) true := by
 refine RcV.tup (e := fun _ => true) (SqT.of ha) (SqT.of hb) rfl fun j x y hx hy => ?_
 match j with
 | 0 => cases hx; cases hy; exact eqv_same n1 h1 h3
 | 1 => cases hx; cases hy; exact eqv_same n2 h2 h4
 | _ + 2 => cases hx
def spCopy : Sp := fun vs H Q _ => ∃ (t a b : Addr) (ns ss : List Int), vs = [.ref t] ∧ IsPl H t a b ns ss ∧ ∀ (t' a' b' : Addr) (H' : Hp), Same H H' → H t' = none → H a' = none → H b' = none → a' ≠ b' → IsPl H' t' a' b' ns ss → Q (.ref t') H'
section
variable {f g1 g2 g3 g4 : Addr} {fd gd1 gd2 gd3 gd4 : FuncData}
theorem scCopy : FnScope ["plan"] ["plan"] (defScope sCopy) := ⟨rfl, rfl, rfl, by decide +kernel, rfl, by decide +kernel, by decide +kernel⟩
theorem ok_copy (F : Fun K "_law_copy" "_law_copy" sCopy f fd) (B : Bt2 mg) : FnOk P w K mg base CX0 1 f fd ["plan"] spCopy := by
 refine F.ok scCopy (fun vs H Q E h => ?_) (fun cdv A outer s H vs Q E hr h => ?_)
 ·obtain ⟨t, a, b, ns, ss, rfl, _⟩ := h
  rfl
 obtain ⟨t, a, b, ns, ss, rfl, pl, q⟩ := h
 refine ⟨_, (@pss_one _ _ _ (ps_ret (pe_tup (pa_cons (pe_callTy call_list_of rfl B.list PyProof.Rows.boot_list (pa_cons (pe_ix ix_tup (pv 0) pe_int (fun _ _ => rfl)) pa_nil)) (pa_cons (pe_callTy call_list_of rfl B.list PyProof.Rows.boot_list (pa_cons (pe_ix ix_tup (pv 0) pe_int (fun _ _ => rfl)) pa_nil)) pa_nil))))), ?_⟩
 refine ⟨_, rfl, t, _, 0, _, rfl, rfl, SqT.of pl.t, rfl, a, _, rfl, .inl (SqL.of pl.a), fun a' ha => ?_⟩
 have s1 := Same.new ha (.lst (ns.map V.int))
 have p1 := pl.same s1
 refine ⟨_, rfl, t, _, 1, _, rfl, rfl, SqT.of p1.t, rfl, b, _, rfl, .inl (SqL.of p1.b), fun b' hb => ⟨two_le, fun t' ht => ?_⟩⟩
 have s2 := Same.new hb (.lst (ss.map V.int))
 have s3 := Same.new ht (.tup [.ref a', .ref b'])
 exact q t' a' b' _ (s1.trans (s2.trans s3)) (none_of_same (s1.trans s2) ht) ha (none_of_same s1 hb) (ne_of_none upd_same hb) ⟨upd_same, s3 _ _ (s2 _ _ upd_same), s3 _ _ upd_same, pl.ok⟩
theorem scLpr : FnScope ["plan", "one", "other"] ["plan", "one", "other"] (defScope sLpr) := ⟨rfl, rfl, rfl, by decide +kernel, rfl, by decide +kernel, by decide +kernel⟩
theorem ok_lpr (F : Fun K "_law_partners" "_law_partners" sLpr f fd) : FnOk P w K mg base CX0 1 f fd ["plan", "one", "other"] spAdd := by
 refine F.ok scLpr (fun vs H Q E h => ?_) (fun cdv A outer s H vs Q E hr h => ?_)
 ·obtain ⟨t, a, b, ns, ss, x, y, rfl, _⟩ := h
  rfl
 obtain ⟨t, a, b, ns, ss, x, y, rfl, pl, q⟩ := h
 refine ⟨_, (@pss_one _ _ _ (ps_ret (pe_and (pe_cmpR op_ne (pv 1) (pv 2) (nomark _)) (pe_one (pe_cmpR (op_inI K) (pe_op op_add (pv 1) (pv 2)) (pe_ix ix_tup (pv 0) pe_int (fun _ _ => rfl)) rfl))))), ?_⟩
 have e1 : (!decide (V.int x = V.int y)) = decide (x ≠ y) := by
  rw [← decide_not]
  exact decide_eq_decide.mpr (not_congr ⟨fun h => V.int.inj h, fun h => by rw [h]⟩)
 unfold addUp at q
 refine ⟨_, rfl, _, rfl, rfl, _, rfl, ?_⟩
 rw [e1]
 refine ite2 (fun c => ?_) (fun c => ?_)
 ·rw [c, Bool.true_and] at q
  exact ⟨_, rfl, _, rfl, _, _, rfl, rfl, _, rfl, t, _, 1, _, rfl, rfl, SqT.of pl.t, rfl, b, x + y, ss, rfl, rfl, SqL.of pl.b, q⟩
 ·rw [Bool.eq_false_iff.mpr c, Bool.false_and] at q
  exact q
theorem scLpl : FnScope ["plan", "part"] ["plan", "part"] (defScope sLpl) := ⟨rfl, rfl, rfl, by decide +kernel, rfl, by decide +kernel, by decide +kernel⟩
theorem ok_lpl (F : Fun K "_law_places" "_law_places" sLpl f fd) (B : Bt4 mg)
  (GA : FnOk P w K mg base CX0 1 g1 gd1 ["plan", "one", "other"] spAdd) (bA : Binds K gd1 ["plan", "one", "other"] []) (kA : Kee K g1) (mA : mg "_law_partners" = some (.ref g1)) : FnOk P w K mg base CX0 2 f fd ["plan", "part"] spPtt := by
 refine F.ok scLpl (fun vs H Q E h => ?_) (fun cdv A outer s H vs Q E hr h => ?_)
 ·obtain ⟨t, a, b, p, ns, ss, zs, rfl, _⟩ := h
  rfl
 obtain ⟨t, a, b, p, ns, ss, zs, rfl, pl, hp, z1, z10, q⟩ := h
 refine ⟨_, (@pss_one _ _ _ (ps_ret (pe_comp ["p"] rfl (blk_ok (defScope sLpl) ["plan", "part"] rfl rfl (by decide +kernel)) (pi_range1 rfl B.range (pa_cons (pe_op op_sub (pe_callB call_len_seq rfl B.len PySem.boot_len (pa_cons (pv 1) pa_nil)) pe_int) pa_nil)) (fun pins C fp s3 H3 => ⟨(pg_name (i := 0) (show (blkN ["p"] ["plan", "part"]).Nodup by decide +kernel) rfl (Or.inl rfl)), (pif_one (pt_val (pe_call GA hr rfl mA kA bA .nil pass0 (pa_cons (pv 1) (pa_cons (pe_ix (ix_listK K) (pv 2) (pv 0) (fun _ _ => rfl)) (pa_cons (pe_ix (ix_listK K) (pv 2) (pe_un un_neg pe_int) (fun _ _ => rfl)) pa_nil)))))), (pv 0)⟩)))), ?_⟩
 have zml : (zs.map V.int).length = zs.length := List.length_map _
 refine ⟨_, rfl, p, _, rfl, .inl (SqL.of hp), _, _, rfl, rfl, _, rfl, by rw [zml]; omega, by rw [zml]; omega, fun D hD => ?_⟩
 have en : (((zs.map V.int).length : Int) - 2).toNat = zs.length - 2 := by rw [zml]; omega
 rw [en]
 refine turns_range (lo := 0) (n := zs.length - 2) (σ := [some (.ref t), some (.ref p)]) (fun i => addUp ss (zs.getD i 0) (zs.getD (zs.length - 1) 0)) (fun i => .int ((i : Nat) : Int)) hD (by omega) (fun i H' hi g P hP => ?_) (fun i H' hi _ g P hP => ?_) fun H2 g2 e2 => ?_
 ·have h1 : atI (zs.map V.int) (0 + (i : Int)) = some (.int (zs.getD i 0)) := by
   rw [Int.zero_add]
   exact atI_nat (by rw [List.getElem?_map, List.getD_eq_getElem?_getD, List.getElem?_eq_getElem (by omega)]; rfl)
  have h2 : atI (zs.map V.int) (-1) = some (.int (zs.getD (zs.length - 1) 0)) := last_atP z1
  exact ⟨_, rfl, _, rfl, _, rfl, p, _, _, _, rfl, rfl, SqL.of (g _ _ hp), h1, _, rfl, _, rfl, p, _, _, _, rfl, rfl, SqL.of (g _ _ hp), h2, t, a, b, ns, ss, _, _, rfl, pl.same g, _, rfl, hP _ Same.rfl'⟩
 ·rw [← Int.zero_add (i : Int)] at hP
  exact ⟨_, rfl, hP _ Same.rfl'⟩
 refine q D H2 g2 hD ?_
 rw [e2]
 unfold plcs iv
 rw [List.map_map]
 rfl
end
abbrev sWk : Stmt := top 40
theorem nb_more {ns ss zs : List Int} {x : Int} (pk : PartOk ns ss zs) (hx : x ∈ ns) (no : zs.contains x = false) (ad : addUp ss (zs.getD (zs.length - 1) 0) x = true) : PartOk ns ss (zs ++ [x]) := by
 have z1 := pk.ne
 have nx : x ∉ zs := fun h => by rw [List.contains_iff_mem.mpr h] at no; cases no
 refine ⟨by rw [List.length_append]; omega, List.nodup_append.mpr ⟨pk.nd, List.nodup_cons.mpr ⟨(fun h => nomatch h), List.nodup_nil⟩, fun a ha b hb => by rw [List.mem_singleton.mp hb]; exact fun z => nx (z ▸ ha)⟩, fun z hz => ?_, ?_⟩
 ·rcases List.mem_append.mp hz with h | h
  ·exact pk.sub z h
  ·rw [List.mem_singleton.mp h]; exact hx
 ·have h0 := pk.nb
  unfold nbB at h0 ⊢
  rw [List.all_eq_true] at h0 ⊢
  intro i hi
  have hi' := List.mem_range.mp hi
  rw [List.length_append, show ([x] : List Int).length = 1 from rfl] at hi'
  have lo : ∀ k < zs.length, (zs ++ [x]).getD k 0 = zs.getD k 0 := fun k hk => by rw [List.getD_eq_getElem?_getD, List.getD_eq_getElem?_getD, List.getElem?_append_left hk]
  have hh : (zs ++ [x]).getD zs.length 0 = x := by rw [List.getD_eq_getElem?_getD, List.getElem?_concat_length]; rfl
  rcases Nat.lt_or_ge (i + 1) zs.length with z | z
  ·rw [lo i (by omega), lo (i + 1) z]
   exact h0 i (List.mem_range.mpr (by omega))
  ·have e : i = zs.length - 1 := by omega
   rw [lo i (by omega), show i + 1 = zs.length by omega, hh, e]
   exact ad
theorem nb_one {ns ss : List Int} {x : Int} (hx : x ∈ ns) : PartOk ns ss [x] := ⟨by show 1 ≤ 1; decide, List.nodup_cons.mpr ⟨(fun h => nomatch h), List.nodup_nil⟩, fun z hz => by rw [List.mem_singleton.mp hz]; exact hx, rfl⟩
theorem first_at : ∀ {xs : List Int} {M : Int}, M ∈ xs → ∃ j, j < xs.length ∧ xs[j]? = some M ∧ ∀ m < j, xs[m]? ≠ some M
 | x :: r, M, h => by
  by_cases e : x = M
  ·exact ⟨0, Nat.succ_pos _, by rw [e]; rfl, fun m hm => absurd hm (Nat.not_lt_zero _)⟩
  ·rcases List.mem_cons.mp h with z | z
   ·exact absurd z.symm e
   ·obtain ⟨j, h1, h2, h3⟩ := first_at z
    refine ⟨j + 1, Nat.succ_lt_succ h1, h2, fun m hm => ?_⟩
    cases m with
    | zero => exact fun z => e (Option.some.inj z)
    | succ m => exact h3 m (Nat.lt_of_succ_lt_succ hm)
theorem seq_postT {t u : TS} {D : Ends} {σ : L2.St} {H : Hp} (R : L2.St → Hp → Prop) (ht : ∀ N : L2.St → Hp → Prop, (∀ σ' H', R σ' H' → N σ' H') → t { D with nx := N } σ H) (hu : ∀ σ' H', R σ' H' → u D σ' H') : tSeq t u D σ H := ht _ hu
def lenAt (H : Hp) (a : Addr) : Nat := match H a with
 | some (.lst xs) => xs.length
 | _ => 0
theorem lenAt_of {H : Hp} {a : Addr} {xs : List V} (h : H a = some (.lst xs)) : lenAt H a = xs.length := by unfold lenAt; rw [h]
def spWk : Sp := fun vs H Q _ => ∃ (d t a b : Addr) (ns ss : List Int), vs = [.ref d, .ref t] ∧ StT H d ∧ IsPl H t a b ns ss ∧ (t ≠ d ∧ a ≠ d ∧ b ≠ d) ∧ ∀ (fo : Addr) (zs : List Int) (H' : Hp), StT H' d → Ex (· = d) H H' → H fo = none → H' fo = some (.lst (zs.map V.int)) → PartOk ns ss zs → Q (.ref fo) H'
def nxt (ns ss zs : List Int) (e : Int) : List Int := ns.filter fun x => !zs.contains x && addUp ss e x
section
variable {f g1 g2 : Addr} {fd gd1 gd2 : FuncData}
theorem scWk : FnScope ["store", "plan", "numbers", "found", "most", "left", "at", "sizes", "one"] ["store", "plan"] (defScope sWk) := ⟨rfl, rfl, rfl, by decide +kernel, rfl, by decide +kernel, by decide +kernel⟩
theorem ok_wk (F : Fun K "_law_walk" "_law_walk" sWk f fd) (B : Bt3 mg)
  (GT : FnOk P w K mg base CX0 1 g1 gd1 ["store", "many"] spTkT) (bT : Binds K gd1 ["store", "many"] []) (kT : Kee K g1) (mT : mg "_law_take" = some (.ref g1))
  (GA : FnOk P w K mg base CX0 1 g2 gd2 ["plan", "one", "other"] spAdd) (bA : Binds K gd2 ["plan", "one", "other"] []) (kA : Kee K g2) (mA : mg "_law_partners" = some (.ref g2)) : FnOk P w K mg base CX0 2 f fd ["store", "plan"] spWk := by
 refine F.ok scWk (fun vs H Q E h => ?_) (fun cdv A outer s H vs Q E hr h => ?_)
 ·obtain ⟨d, t, a, b, ns, ss, rfl, _⟩ := h
  rfl
 obtain ⟨d, t, a, b, ns, ss, rfl, S0, pl, ⟨td, ad, bd⟩, q⟩ := h
 have n1 := pl.ok.n1
 have n10 := pl.ok.n2
 have nml : (ns.map V.int).length = ns.length := List.length_map _
 refine ⟨_, (@pss_cons _ _ _ _ _ (ps_set (i := 2) scWk.nd rfl (Or.inl rfl) (pe_ix ix_tup (pv 1) pe_int (fun _ _ => rfl))) (@pss_cons _ _ _ _ _ (ps_set (i := 3) scWk.nd rfl (Or.inr rfl) (pe_lst (pa_cons (pe_ix ix_list (pv 2) (pe_call GT hr rfl mT kT bT .nil pass0 (pa_cons (pv 0) (pa_cons (pe_callB call_len_seq rfl B.len PySem.boot_len (pa_cons (pv 2) pa_nil)) pa_nil))) (fun _ _ => rfl)) pa_nil))) (@pss_cons _ _ _ _ _ (ps_set (i := 4) scWk.nd rfl (Or.inl rfl) (pe_ix ix_list (pe_lst (pa_cons (pe_op op_add pe_int (pe_call GT hr rfl mT kT bT .nil pass0 (pa_cons (pv 0) (pa_cons pe_int pa_nil)))) (pa_cons pe_int pa_nil))) (pe_call GT hr rfl mT kT bT .nil pass0 (pa_cons (pv 0) (pa_cons pe_int pa_nil))) (fun _ _ => rfl))) (@pss_cons _ _ _ _ _ (ps_while PassesOwn.never (pt_cmpR op_lt (pe_callB call_len_seq rfl B.len PySem.boot_len (pa_cons (pv 3) pa_nil)) (pv 4) (nomark _)) (@pss_cons _ _ _ _ _ (ps_comp ["one"] rfl (blk_ok (defScope sWk) ["store", "plan", "numbers", "found", "most", "left", "at", "sizes", "one"] rfl rfl (by decide +kernel)) (pi_list (pv 2)) (fun pins C fp s3 H3 => ⟨(pg_name (i := 0) (show (blkN ["one"] ["store", "plan", "numbers", "found", "most", "left", "at", "sizes", "one"]).Nodup by decide +kernel) rfl (Or.inl rfl)), (pif_one (PW.pt (pw_and (pt_cmpR (op_notInI K) (pv 0) (pv 4) rfl) (pw_and1 (pt_val (pe_call GA hr rfl mA kA bA .nil pass0 (pa_cons (pv 2) (pa_cons (pe_ix (ix_listK K) (pv 4) (pe_un un_neg pe_int) (fun _ _ => rfl)) (pa_cons (pv 0) pa_nil))))))))), (pv 0)⟩) (j := 5) scWk.nd rfl (Or.inl rfl) rfl) (@pss_cons _ _ _ _ _ (ps_if (pt_cmpR (op_eqD hr.units) (pv 5) (pe_lst pa_nil) (nomark _)) (@pss_one _ _ _ (ps_ret (pv 3))) pss_nil) (@pss_cons _ _ _ _ _ (ps_set (i := 6) scWk.nd rfl (Or.inl rfl) (pe_call GT hr rfl mT kT bT .nil pass0 (pa_cons (pv 0) (pa_cons (pe_callB call_len_seq rfl B.len PySem.boot_len (pa_cons (pv 5) pa_nil)) pa_nil)))) (@pss_cons _ _ _ _ _ (ps_if (pt_cmpR op_eq (pe_call GT hr rfl mT kT bT .nil pass0 (pa_cons (pv 0) (pa_cons pe_int pa_nil))) pe_int (nomark _)) (@pss_cons _ _ _ _ _ (ps_set (i := 7) scWk.nd rfl (Or.inl rfl) (pe_lst pa_nil)) (@pss_cons _ _ _ _ _ (ps_for PassesOwn.never rfl (pi_list (pv 5)) (pg_name (i := 8) scWk.nd rfl (Or.inr rfl)) (@pss_one _ _ _ (ps_expr (pe_bm PySem.F.plainAttrs_list PySem.F.slot_list_append PySem.F.type_list_append mt_append (pv 7) (pa_cons (pe_callB call_len_seq rfl B.len PySem.boot_len (pa_cons (pe_comp ["two"] rfl (blk_ok (defScope sWk) ["store", "plan", "numbers", "found", "most", "left", "at", "sizes", "one"] rfl rfl (by decide +kernel)) (pi_list (pv 2)) (fun pins C fp s3 H3 => ⟨(pg_name (i := 0) (show (blkN ["two"] ["store", "plan", "numbers", "found", "most", "left", "at", "sizes", "one"]).Nodup by decide +kernel) rfl (Or.inl rfl)), (pif_one (PW.pt (pw_and (pt_cmpR (op_notInI K) (pv 0) (pv 4) rfl) (pw_and1 (pt_val (pe_call GA hr rfl mA kA bA .nil pass0 (pa_cons (pv 2) (pa_cons (pv 9) (pa_cons (pv 0) pa_nil))))))))), (pv 0)⟩)) pa_nil)) pa_nil))))) (@pss_one _ _ _ (ps_set (i := 6) scWk.nd rfl (Or.inl rfl) (pe_bm PySem.F.plainAttrs_list PySem.F.slot_list_index PySem.F.type_list_index mt_index (pv 7) (pa_cons (pe_callB (call_minL rfl) rfl B.min boot_min (pa_cons (pv 7) pa_nil)) pa_nil)))))) pss_nil) (@pss_one _ _ _ (ps_expr (pe_bm PySem.F.plainAttrs_list PySem.F.slot_list_append PySem.F.type_list_append mt_append (pv 3) (pa_cons (pe_ix ix_list (pv 5) (pv 6) (fun _ _ => rfl)) pa_nil))))))))) (@pss_one _ _ _ (ps_ret (pv 3))))))), ?_⟩
 refine ⟨_, rfl, t, _, 0, _, rfl, rfl, SqT.of pl.t, rfl, ?_⟩
 refine ⟨_, rfl, _, rfl, _, rfl, a, _, rfl, .inl (SqL.of pl.a), d, _, rfl, S0, by rw [nml]; omega, by rw [nml]; omega, fun r1 H1 r10 r11 S1 o1 => ?_⟩
 rw [nml] at r11
 obtain ⟨x, hx, mx⟩ := pick_int ns r10 r11
 refine ⟨a, _, _, _, rfl, rfl, SqL.of ((o1 a ad).trans pl.a), hx, (by show 1 ≤ sizeLine; decide), fun fo hfo => ?_⟩
 have g2 := Same.new hfo (.lst [.int x])
 have e2 : upd H1 fo (.lst [.int x]) fo = some (.lst ([x].map V.int)) := upd_same
 have S2 := S1.ex g2
 have fod : fo ≠ d := S1.out hfo
 have hfH : H fo = none := exT S1 o1.ex hfo
 have E2 : Ex (· = d) H (upd H1 fo (.lst [.int x])) := o1.ex.trans (Ex.same g2)
 generalize upd H1 fo (.lst [.int x]) = H2 at g2 e2 S2 E2 ⊢
 refine ⟨_, rfl, d, 10, rfl, S2, by decide, by decide, fun r3 H3 a3 b3 S3 o3 => ⟨_, _, rfl, rfl, two_le, fun l hl => ?_⟩⟩
 refine ⟨_, rfl, d, 2, rfl, S3.ex (Same.new hl _), by decide, by decide, fun r4 H4 a4 b4 S4 o4 => ?_⟩
 obtain ⟨most, hm, _⟩ := pick_int [1 + r3, 10] a4 b4
 refine ⟨l, _, _, _, rfl, rfl, SqL.of ((o4 l (S3.out hl)).trans upd_same), hm, ?_⟩
 have E24 : Ex (· = d) H2 H4 := o3.ex.trans ((Ex.new _ hl).trans o4.ex)
 have E4 := E2.trans E24
 have e4 := E24 _ _ fod e2
 have pl4 : IsPl H4 t a b ns ss := ⟨E4 _ _ td pl.t, E4 _ _ ad pl.a, E4 _ _ bd pl.b, pl.ok⟩
 have tf : t ≠ fo := ne_of_none pl.t hfH
 have af : a ≠ fo := ne_of_none pl.a hfH
 have bf : b ≠ fo := ne_of_none pl.b hfH
 clear o1 o3 o4 g2 e2 E24 E2 S3 S2 S1 hl hm
 dsimp only [gName, tSeq]
 refine while_by2 (fun σ H' => ∃ (zs : List Int) (x5 x6 x7 x8 : Option V), σ = [some (.ref d), some (.ref t), some (.ref a), some (.ref fo), some (.int most), x5, x6, x7, x8] ∧ StT H' d ∧ Ex (fun c => c = d ∨ c = fo) H4 H' ∧ H' fo = some (.lst (zs.map V.int)) ∧ PartOk ns ss zs)
  (fun _ H => 11 - lenAt H fo) ⟨[x], _, _, _, _, rfl, S4, Ex.refl, e4, nb_one mx⟩ ?_
 rintro σ HA ⟨zs, x5, x6, x7, x8, rfl, SA, EA, eA, pk⟩
 have zl := pk.len
 have z1 := pk.ne
 have zml : (zs.map V.int).length = zs.length := List.length_map _
 have plA : IsPl HA t a b ns ss := ⟨EA _ _ (fun z => z.elim td tf) pl4.t, EA _ _ (fun z => z.elim ad af) pl4.a, EA _ _ (fun z => z.elim bd bf) pl4.b, pl.ok⟩
 have out : ∀ {HZ : Hp}, StT HZ d → Ex (fun c => c = d ∨ c = fo) H4 HZ → HZ fo = some (.lst (zs.map V.int)) → Q (.ref fo) HZ := fun {HZ} h1 h2 h3 =>
  q fo zs HZ h1 (fun c o hc ho => h2 c o (fun z => z.elim hc fun z => by rw [z, hfH] at ho; cases ho) (E4 c o hc ho)) hfH h3 pk
 refine ⟨_, rfl, fo, _, rfl, .inl (SqL.of eA), _, rfl, _, _, rfl, rfl, _, rfl, ite2 (fun _ => ?_) (fun _ => ?_)⟩
 ·refine next_by (H := HA) (μ := fun _ H => 11 - lenAt H fo) ?_
  refine ⟨_, rfl, a, rfl, ⟨_, SqL.of plA.a⟩, fun D hD => ?_⟩
  refine turns_list (σ := [some (.ref d), some (.ref t), some (.ref a), some (.ref fo), some (.int most), x5, x6, x7, x8]) (xs := ns.map V.int) (fun i => !zs.contains (ns.getD i 0) && addUp ss (zs.getD (zs.length - 1) 0) (ns.getD i 0)) (fun i => .int (ns.getD i 0)) (SqL.of plA.a) hD (by omega) (fun i H' hi g P hP => ?_) (fun i H' hi _ g P hP => ?_) fun HB gB eB => ?_
  ·rw [getD_map_int _ (by rw [nml] at hi; exact hi)]
   refine ⟨_, rfl, _, rfl, fo, ns.getD i 0, zs, rfl, rfl, SqL.of (g _ _ eA), _, rfl, ite2 (fun c => ?_) (fun c => ?_)⟩
   ·have c' : (!zs.contains (ns.getD i 0)) = true := c
    rw [c', Bool.true_and] at hP
    exact ⟨_, rfl, _, rfl, _, rfl, fo, _, _, _, rfl, rfl, SqL.of (g _ _ eA), last_atP z1, _, rfl, t, a, b, ns, ss, _, _, rfl, plA.same g, _, rfl, hP _ Same.rfl'⟩
   ·have c' : (!zs.contains (ns.getD i 0)) = false := Bool.eq_false_iff.mpr c
    rw [c', Bool.false_and] at hP
    exact hP _ Same.rfl'
  ·rw [getD_map_int _ (by rw [nml] at hi; exact hi)]
   exact ⟨_, rfl, hP _ Same.rfl'⟩
  have ef : (((List.range (ns.map V.int).length).filter fun i => !zs.contains (ns.getD i 0) && addUp ss (zs.getD (zs.length - 1) 0) (ns.getD i 0)).map fun i => V.int (ns.getD i 0)) = (nxt ns ss zs (zs.getD (zs.length - 1) 0)).map V.int := by
   unfold nxt
   rw [nml, ← range_getD_filter (fun x => !zs.contains x && addUp ss (zs.getD (zs.length - 1) 0) x) (0 : Int) ns, List.map_map]
   rfl
  rw [ef] at eB
  have Dd : D ≠ d := SA.out hD
  have Df : D ≠ fo := Ne.symm (ne_of_none eA hD)
  have lfp : ∀ y ∈ nxt ns ss zs (zs.getD (zs.length - 1) 0), PartOk ns ss (zs ++ [y]) := fun y hy => by
   obtain ⟨h1, h2⟩ := List.mem_filter.mp hy
   rw [Bool.and_eq_true] at h2
   exact nb_more pk h1 (by cases hc : zs.contains y with | false => rfl | true => rw [hc] at h2; exact absurd h2.1 (by decide)) h2.2
  have lfl : (nxt ns ss zs (zs.getD (zs.length - 1) 0)).length ≤ 10 := Nat.le_trans (List.length_filter_le _ _) n10
  generalize nxt ns ss zs (zs.getD (zs.length - 1) 0) = lf at eB lfp lfl
  have lml : (lf.map V.int).length = lf.length := List.length_map _
  refine ⟨_, rfl, (by show 0 ≤ sizeLine; decide), fun e0 he0 => ?_⟩
  have gC := Same.new he0 (.lst [])
  have eC : upd HB e0 (.lst []) e0 = some (.lst (([] : List Int).map V.int)) := upd_same
  have gAC := gB.trans gC
  have SC := SA.ex gAC
  have EC := EA.trans (Ex.same (S := fun c => c = d ∨ c = fo) gAC)
  have eDC := gC _ _ eB
  have eFC := gAC _ _ eA
  have plC := plA.same gAC
  generalize upd HB e0 (.lst []) = HC at gC eC gAC SC EC eDC eFC plC ⊢
  refine ⟨lf == [], rcv_ints (SqL.of eDC) (SqL.of eC), _, rfl, ite2 (fun _ => ⟨_, rfl, out SC EC eFC⟩) (fun c => ?_)⟩
  have lne : 1 ≤ lf.length := by
   cases lf with
   | nil => exact absurd rfl c
   | cons y r => exact Nat.succ_le_succ (Nat.zero_le _)
  refine ⟨_, rfl, _, rfl, D, _, rfl, .inl (SqL.of eDC), d, _, rfl, SC, by rw [lml]; omega, by rw [lml]; omega, fun r HD r0 r1 SD oD => ?_⟩
  rw [lml] at r1
  have EF : Ex (fun c => c = d ∨ c = fo) H4 HD := EC.trans (oD.ex.wide fun b h => .inl h)
  have eDD := (oD D Dd).trans eDC
  have eFD := (oD fo fod).trans eFC
  have plD : IsPl HD t a b ns ss := ⟨oD.ex _ _ td plC.t, oD.ex _ _ ad plC.a, oD.ex _ _ bd plC.b, pl.ok⟩
  dsimp only [gName]
  refine seq_postT (fun σ' H' => ∃ (at_ : Int) (y7 y8 : Option V), σ' = [some (.ref d), some (.ref t), some (.ref a), some (.ref fo), some (.int most), some (.ref D), some (.int at_), y7, y8] ∧ 0 ≤ at_ ∧ at_ < lf.length ∧ StT H' d ∧ Ex (fun c => c = d ∨ c = fo) H4 H' ∧ H' D = some (.lst (lf.map V.int)) ∧ H' fo = some (.lst (zs.map V.int))) (fun N hN => ?_) ?_
  ·refine ⟨_, rfl, d, 2, rfl, SD, by decide, by decide, fun r5 HE _ _ SE oE => ⟨rfl, _, rfl, ite2 (fun _ => ?_) (fun _ => hN _ _ ⟨r, _, _, rfl, r0, by omega, SE, EF.trans (oE.ex.wide fun b h => .inl h), (oE D Dd).trans eDD, (oE fo fod).trans eFD⟩)⟩⟩
   have EE := EF.trans (oE.ex.wide (S' := fun c => c = d ∨ c = fo) fun b h => .inl h)
   have eDE := (oE D Dd).trans eDD
   have eFE := (oE fo fod).trans eFD
   have plE : IsPl HE t a b ns ss := ⟨oE.ex _ _ td plD.t, oE.ex _ _ ad plD.a, oE.ex _ _ bd plD.b, pl.ok⟩
   refine ⟨(by show 0 ≤ sizeLine; decide), fun su hsu => ?_⟩
   have gS := Same.new hsu (.lst [])
   have eS : upd HE su (.lst []) su = some (.lst (([] : List Int).map V.int)) := upd_same
   have plS := plE.same gS
   have eDS := gS _ _ eDE
   have eFS := gS _ _ eFE
   have SS := SE.ex gS
   have ES := EE.trans (Ex.same (S := fun c => c = d ∨ c = fo) gS)
   have sud : su ≠ d := SE.out hsu
   have Dsu : D ≠ su := ne_of_none eDE hsu
   have fsu : fo ≠ su := ne_of_none eFE hsu
   have asu : a ≠ su := ne_of_none plE.a hsu
   have tsu : t ≠ su := ne_of_none plE.t hsu
   have bsu : b ≠ su := ne_of_none plE.b hsu
   have s4 : ∀ c o, H4 c = some o → c ≠ su ∨ c = d ∨ c = fo := fun c o hc => by
    by_cases z : c = d ∨ c = fo
    ·exact .inr z
    ·exact .inl (ne_of_none (EE c o z hc) hsu)
   generalize upd HE su (.lst []) = HS at gS eS plS eDS eFS SS ES ⊢
   refine ⟨_, rfl, D, rfl, ⟨_, SqL.of eDS⟩, ?_⟩
   refine for_list (xs := lf.map V.int) (fun i σ H' => ∃ (y8 : Option V) (cs : List Int), σ = [some (.ref d), some (.ref t), some (.ref a), some (.ref fo), some (.int most), some (.ref D), some (.int r), some (.ref su), y8] ∧ Ex (· = su) HS H' ∧ H' su = some (.lst (cs.map V.int)) ∧ cs.length = i)
    ⟨_, [], rfl, Ex.refl, eS, rfl⟩ (fun i σ H' _ ⟨_, _, _, ex, _⟩ => SqL.of (ex _ _ Dsu eDS)) ?_ ?_
   ·rintro i v σ HT hv ⟨y8, cs, rfl, ex, ec, hc⟩
    have hi : i < lf.length := by
     have := (List.getElem?_eq_some_iff.mp hv).1
     rw [lml] at this
     exact this
    rw [List.getElem?_map, List.getElem?_eq_getElem hi] at hv
    cases hv
    have plT : IsPl HT t a b ns ss := ⟨ex _ _ tsu plS.t, ex _ _ asu plS.a, ex _ _ bsu plS.b, pl.ok⟩
    have eFT := ex _ _ fsu eFS
    refine ⟨_, rfl, .inl ⟨rfl, _, SqL.of ec⟩, _, rfl, a, rfl, ⟨_, SqL.of plT.a⟩, fun D2 hD2 => ?_⟩
    refine turns_list (σ := [some (.ref d), some (.ref t), some (.ref a), some (.ref fo), some (.int most), some (.ref D), some (.int r), some (.ref su), some (.int lf[i])]) (xs := ns.map V.int) (fun j => !zs.contains (ns.getD j 0) && addUp ss lf[i] (ns.getD j 0)) (fun j => .int (ns.getD j 0)) (SqL.of plT.a) hD2 (by omega) (fun j H' hj g P hP => ?_) (fun j H' hj _ g P hP => ?_) fun HU gU eU => ?_
    ·rw [getD_map_int _ (by rw [nml] at hj; exact hj)]
     refine ⟨_, rfl, _, rfl, fo, ns.getD j 0, zs, rfl, rfl, SqL.of (g _ _ eFT), _, rfl, ite2 (fun c => ?_) (fun c => ?_)⟩
     ·have c' : (!zs.contains (ns.getD j 0)) = true := c
      rw [c', Bool.true_and] at hP
      exact ⟨_, rfl, _, rfl, _, rfl, t, a, b, ns, ss, _, _, rfl, plT.same g, _, rfl, hP _ Same.rfl'⟩
     ·have c' : (!zs.contains (ns.getD j 0)) = false := Bool.eq_false_iff.mpr c
      rw [c', Bool.false_and] at hP
      exact hP _ Same.rfl'
    ·rw [getD_map_int _ (by rw [nml] at hj; exact hj)]
     exact ⟨_, rfl, hP _ Same.rfl'⟩
    have ecU := gU _ _ ec
    refine ⟨D2, _, rfl, .inl (SqL.of eU), su, _, _, rfl, rfl, ecU, small1000 (by rw [List.length_map, hc]; omega), ?_⟩
    exact ⟨_, cs ++ [_], rfl, ex.trans ((Ex.same gU).trans (Ex.put _ rfl)), by rw [upd_same, List.map_append]; rfl, by rw [List.length_append, hc]; rfl⟩
   ·rintro σ HT ⟨y8, cs, rfl, ex, ec, hc⟩
    rw [lml] at hc
    refine ⟨_, rfl, .inl ⟨rfl, _, SqL.of ec⟩, _, rfl, su, cs, rfl, SqL.of ec, by omega, fun M mM _ => ?_⟩
    obtain ⟨j, j1, j2, j3⟩ := first_at mM
    have ST : StT HT d := let ⟨x, y, z, e⟩ := SS; ⟨x, y, z, ex _ _ (Ne.symm sud) e⟩
    refine ⟨su, cs, M, j, rfl, rfl, ec, j2, j3, by omega, hN _ _ ⟨(j : Int), _, _, rfl, by omega, by omega, ST, fun c o hc' ho => ?_, ex _ _ Dsu eDS, ex _ _ fsu eFS⟩⟩
    exact ex c o ((s4 c o ho).elim id fun z => absurd z hc') (ES c o hc' ho)
  rintro σ' HG ⟨at_, y7, y8, rfl, at0, at1, SG, EG, eDG, eFG⟩
  obtain ⟨y, hy, my⟩ := pick_int lf at0 (by exact_mod_cast at1)
  refine ⟨_, rfl, .inl ⟨rfl, _, SqL.of eFG⟩, _, rfl, _, rfl, D, _, _, _, rfl, rfl, SqL.of eDG, hy, fo, _, _, rfl, rfl, eFG, small1000 (by rw [zml]; omega), ?_⟩
  have eN : upd HG fo (.lst (zs.map V.int ++ [.int y])) fo = some (.lst ((zs ++ [y]).map V.int)) := by rw [upd_same, List.map_append]; rfl
  refine ⟨⟨zs ++ [y], _, _, _, _, rfl, SG.off fod, EG.trans (Ex.put _ (.inr rfl)), eN, lfp y my⟩, ?_⟩
  show 11 - lenAt (upd HG fo (.lst (zs.map V.int ++ [.int y]))) fo < 11 - lenAt HA fo
  rw [lenAt_of eN, lenAt_of eA, List.length_map, List.length_map, List.length_append]
  show 11 - (zs.length + 1) < 11 - zs.length
  omega
 ·exact ⟨_, rfl, out SA EA eA⟩
end
theorem trn_perm (zs : List Int) (k : Nat) : (trn zs k).Perm zs := by
 unfold trn
 have h := (List.reverse_perm (zs.drop (k + 1))).append_left (zs.take (k + 1))
 rw [List.take_append_drop] at h
 exact h
theorem trn_lo {zs : List Int} {k i : Nat} (hk : k < zs.length) (hi : i ≤ k) : (trn zs k).getD i 0 = zs.getD i 0 := by
 unfold trn
 rw [List.getD_eq_getElem?_getD, List.getD_eq_getElem?_getD, List.getElem?_append_left (by rw [List.length_take]; omega), List.getElem?_take_of_lt (by omega)]
theorem trn_hi {zs : List Int} {k i : Nat} (hk : k < zs.length) (hi : k < i) (hl : i < zs.length) : (trn zs k).getD i 0 = zs.getD (zs.length + k - i) 0 := by
 unfold trn
 have tl : (zs.take (k + 1)).length = k + 1 := by rw [List.length_take]; omega
 rw [List.getD_eq_getElem?_getD, List.getD_eq_getElem?_getD, List.getElem?_append_right (by omega), tl, List.getElem?_reverse (by rw [List.length_drop]; omega), List.length_drop, List.getElem?_drop]
 rw [show k + 1 + (zs.length - (k + 1) - 1 - (i - (k + 1))) = zs.length + k - i by omega]
theorem addUp_swap (ss : List Int) (x y : Int) : addUp ss x y = addUp ss y x := by
 unfold addUp
 rw [Int.add_comm x y, decide_eq_decide.mpr (⟨Ne.symm, Ne.symm⟩ : x ≠ y ↔ y ≠ x)]
theorem part_turn {ns ss zs : List Int} {k : Nat} (pk : PartOk ns ss zs) (hk : k ∈ plcs ss zs) : PartOk ns ss (trn zs k) := by
 obtain ⟨h1, h2⟩ := List.mem_filter.mp hk
 have h1' := List.mem_range.mp h1
 have pm := trn_perm zs k
 refine ⟨by rw [pm.length_eq]; exact pk.ne, pm.nodup_iff.mpr pk.nd, fun z hz => pk.sub z (pm.mem_iff.mp hz), ?_⟩
 have nb := pk.nb
 unfold nbB at nb ⊢
 rw [List.all_eq_true] at nb ⊢
 intro i hi
 have hi' := List.mem_range.mp hi
 rw [pm.length_eq] at hi'
 rcases Nat.lt_trichotomy i k with z | z | z
 ·rw [trn_lo (by omega) (by omega), trn_lo (by omega) (by omega)]
  exact nb i (List.mem_range.mpr (by omega))
 ·subst z
  rw [trn_lo (by omega) (Nat.le_refl _), trn_hi (by omega) (by omega) (by omega), show zs.length + i - (i + 1) = zs.length - 1 by omega]
  exact h2
 ·rw [trn_hi (by omega) z (by omega), trn_hi (by omega) (by omega) (by omega), addUp_swap]
  have := nb (zs.length + k - (i + 1)) (List.mem_range.mpr (by omega))
  rw [show zs.length + k - (i + 1) + 1 = zs.length + k - i by omega] at this
  exact this
theorem nat_at {l : List Nat} {i k : Nat} (h : l[i]? = some k) : ((iv l).map V.int)[i]? = some (.int (k : Int)) := by
 unfold iv
 rw [List.map_map, List.getElem?_map, h]
 rfl
abbrev sAe : Stmt := top 31
inductive TurnR (ss zs : List Int) : List Int → Prop
 | refl : TurnR ss zs zs
 | step {r : List Int} {k : Nat} (h : TurnR ss zs r) (hk : k ∈ plcs ss r) : TurnR ss zs (trn r k)
theorem TurnR.part {ns ss zs r : List Int} (pk : PartOk ns ss zs) (h : TurnR ss zs r) : PartOk ns ss r ∧ r.Perm zs := by
 induction h with
 | refl => exact ⟨pk, List.Perm.refl _⟩
 | step _ hk ih => exact ⟨part_turn ih.1 hk, (trn_perm _ _).trans ih.2⟩
def prm : Nat → List Int → List (List Int)
 | 0, _ => [[]]
 | m + 1, l => l.flatMap fun x => (prm m (l.erase x)).map (x :: ·)
def fac : Nat → Nat
 | 0 => 1
 | m + 1 => (m + 1) * fac m
theorem fac10 : ∀ m ≤ 10, fac m ≤ 3628800 := by decide
theorem prm_len : ∀ (m : Nat) (l : List Int), l.length = m → (prm m l).length ≤ fac m
 | 0, _, _ => Nat.le_refl _
 | m + 1, l, h => by
  have gen : ∀ q : List Int, (∀ x ∈ q, x ∈ l) → (q.flatMap fun x => (prm m (l.erase x)).map (x :: ·)).length ≤ q.length * fac m := fun q => by
   induction q with
   | nil => intro _; exact Nat.zero_le _
   | cons x q ih =>
    intro hq
    have h1 := ih fun y hy => hq y (List.mem_cons_of_mem _ hy)
    have h2 := prm_len m (l.erase x) (by rw [List.length_erase_of_mem (hq x List.mem_cons_self)]; omega)
    rw [List.flatMap_cons, List.length_append, List.length_map, List.length_cons, Nat.add_mul]
    omega
  have := gen l fun _ h => h
  rw [h] at this
  exact this
theorem mem_prm : ∀ (m : Nat) (l r : List Int), l.length = m → r.Perm l → r ∈ prm m l
 | 0, l, r, h, p => by
  have : l = [] := List.length_eq_zero_iff.mp h
  rw [this] at p
  rw [p.eq_nil]
  exact List.mem_singleton.mpr rfl
 | m + 1, l, [], h, p => by
  have := p.length_eq
  rw [h] at this
  cases this
 | m + 1, l, x :: r, h, p => by
  have hx : x ∈ l := p.mem_iff.mp List.mem_cons_self
  have pe : r.Perm (l.erase x) := List.Perm.cons_inv (p.trans (List.perm_cons_erase hx))
  exact List.mem_flatMap.mpr ⟨x, hx, List.mem_map.mpr ⟨r, mem_prm m (l.erase x) r (by rw [List.length_erase_of_mem hx]; omega) pe, rfl⟩⟩
theorem sub_lenA {α : Type} [DecidableEq α] : ∀ {xs ys : List α}, xs.Nodup → (∀ x ∈ xs, x ∈ ys) → xs.length ≤ ys.length
 | [], _, _, _ => Nat.zero_le _
 | x :: xs, ys, nd, h => by
  obtain ⟨h1, nd'⟩ := List.nodup_cons.mp nd
  have hx := h x List.mem_cons_self
  have ih := sub_lenA (ys := ys.erase x) nd' fun y hy => (List.mem_erase_of_ne (fun e : y = x => h1 (e ▸ hy))).mpr (h y (List.mem_cons_of_mem _ hy))
  rw [List.length_erase_of_mem hx] at ih
  have : 0 < ys.length := List.length_pos_of_mem hx
  rw [List.length_cons]
  omega
theorem perms_le {l : List Int} {R : List (List Int)} (h10 : l.length ≤ 10) (nd : R.Nodup) (h : ∀ r ∈ R, r.Perm l) : R.length ≤ 3628800 :=
 Nat.le_trans (sub_lenA nd fun r hr => mem_prm _ l r rfl (h r hr)) (Nat.le_trans (prm_len _ l rfl) (fac10 _ h10))
def kR (r : List Int) : List Key := r.map Sum.inl
def kkv (R : List (List Int)) : List (List Key × V) := R.map fun r => (kR r, V.bl true)
theorem kR_inj {r q : List Int} (h : kR r = kR q) : r = q := List.map_inj_right (fun _ _ z => Sum.inl.inj z) |>.mp h
theorem kR_V (r : List Int) : (kR r).map kV = r.map V.int := by unfold kR; rw [List.map_map]; rfl
theorem kkv_has (R : List (List Int)) (r : List Int) : (valV (kkv R) (kR r)).isSome = decide (r ∈ R) := by
 rw [← valV_any, Bool.eq_iff_iff, List.any_eq_true, decide_eq_true_eq]
 constructor
 ·rintro ⟨kv, hm, e⟩
  obtain ⟨q, hq, rfl⟩ := List.mem_map.mp hm
  have := kR_inj (of_decide_eq_true e)
  exact this ▸ hq
 ·intro h
  exact ⟨_, List.mem_map.mpr ⟨r, h, rfl⟩, decide_eq_true rfl⟩
def dLen (H : Hp) (a : Addr) : Nat := match H a with
 | some (.dT kvs) => kvs.length
 | _ => 0
def muA (se wa : Addr) : L2.St → Hp → Nat := fun _ H => 2 * (3628801 - dLen H se) + lenAt H wa
theorem muA_of {se wa : Addr} {σ : L2.St} {H : Hp} {R : List (List Int)} {xs : List V} (h1 : H se = some (.dT (kkv R))) (h2 : H wa = some (.lst xs)) : muA se wa σ H = 2 * (3628801 - R.length) + xs.length := by
 unfold muA dLen
 rw [h1, lenAt_of h2]
 show 2 * (3628801 - (kkv R).length) + xs.length = _
 unfold kkv
 rw [List.length_map]
section
variable {f g1 g2 g3 : Addr} {fd gd1 gd2 gd3 : FuncData}
theorem scAe : FnScope ["plan", "part", "seen", "waiting", "here", "place", "turned"] ["plan", "part"] (defScope sAe) := ⟨rfl, rfl, rfl, by decide +kernel, rfl, by decide +kernel, by decide +kernel⟩
theorem ok_aeX {j : Nat} {XP XT : Addr} (F : Fun K "all_ends" "all_ends" sAe f fd) (B : Bt4 mg) (zset : mg "set" = none)
  (GC : FnOk P w K mg base (CX1 P w) j g1 gd1 ["plan", "part"] (spCkTX XP XT)) (bC : Binds K gd1 ["plan", "part"] []) (kC : Kee K g1) (mC : mg "check_part" = some (.ref g1))
  (GP : FnOk P w K mg base CX0 j g2 gd2 ["plan", "part"] spPtt) (bP : Binds K gd2 ["plan", "part"] []) (kP : Kee K g2) (mP : mg "places_to_turn" = some (.ref g2))
  (GT : FnOk P w K mg base CX0 j g3 gd3 ["part", "place"] spTbh) (bT : Binds K gd3 ["part", "place"] []) (kT : Kee K g3) (mT : mg "turned_behind" = some (.ref g3)) : FnOk P w K mg base (CX1 P w) (j + 1) f fd ["plan", "part"] (spTpX XP XT) := by
 refine F.ok1 scAe (fun vs H Q E h => ?_) (fun cdv A outer s H vs Q E hr h => ?_)
 ·obtain ⟨v0, d0, v, d, rfl, _⟩ := h
  rfl
 obtain ⟨v0, d0, v, d, rfl, hd0, hd, sh, q0, qe⟩ := h
 have hu := hu_of hr
 refine ⟨_, (@pss_cons _ _ _ _ _ (ps_expr (pe_call GC hr rfl mC kC bC .nil pass1 (pa_cons (pv 0) (pa_cons (pv 1) pa_nil)))) (PSs.nox (@pss_cons _ _ _ _ _ (ps_set (i := 2) scAe.nd rfl (Or.inl rfl) (pe_dispT hu (pe_callTy call_tuple_of rfl B.tuple PyProof.Rows.boot_tuple (pa_cons (pv 1) pa_nil)) pe_bl)) (@pss_cons _ _ _ _ _ (ps_set (i := 3) scAe.nd rfl (Or.inl rfl) (pe_lst (pa_cons (pv 1) pa_nil))) (@pss_cons _ _ _ _ _ (ps_while PassesOwn.never (pt_truth (pv 3) (fun _ => rfl)) (@pss_cons _ _ _ _ _ (ps_set (i := 4) scAe.nd rfl (Or.inl rfl) (pe_bm0 PySem.F.plainAttrs_list PySem.F.slot_list_pop PySem.F.type_list_pop mt_pop0 (pv 3))) (@pss_one _ _ _ (ps_for PassesOwn.never rfl (pi_list (pe_call GP hr rfl mP kP bP .nil pass0 (pa_cons (pv 0) (pa_cons (pv 4) pa_nil)))) (pg_name (i := 5) scAe.nd rfl (Or.inl rfl)) (@pss_cons _ _ _ _ _ (ps_set (i := 6) scAe.nd rfl (Or.inl rfl) (pe_call GT hr rfl mT kT bT .nil pass0 (pa_cons (pv 4) (pa_cons (pv 5) pa_nil)))) (@pss_one _ _ _ (ps_if (pt_cmp (pc_dnotin hu (pe_callTy call_tuple_of rfl B.tuple PyProof.Rows.boot_tuple (pa_cons (pv 6) pa_nil)) (pv 2))) (@pss_cons _ _ _ _ _ (ps_dput hu (pv 2) (pe_callTy call_tuple_of rfl B.tuple PyProof.Rows.boot_tuple (pa_cons (pv 6) pa_nil)) pe_bl rfl) (@pss_one _ _ _ (ps_expr (pe_bm PySem.F.plainAttrs_list PySem.F.slot_list_append PySem.F.type_list_append mt_append (pv 3) (pa_cons (pv 6) pa_nil))))) pss_nil))))))) (@pss_one _ _ _ (ps_ret (pe_sortSetW rfl rfl B.sorted rfl zset (pe_holdT (pe_comp ["numbers"] rfl (blk_ok (defScope sAe) ["plan", "part", "seen", "waiting", "here", "place", "turned"] rfl rfl (by decide +kernel)) (pi_dictT (pv 2)) (fun pins C fp s3 H3 => ⟨(pg_name (i := 0) (show (blkN ["numbers"] ["plan", "part", "seen", "waiting", "here", "place", "turned"]).Nodup by decide +kernel) rfl (Or.inl rfl)), pif_nil, (pe_ix (ix_tupK K) (pv 0) (pe_un un_neg pe_int) (fun _ _ => rfl))⟩))))))))))), ?_⟩
 refine ⟨_, rfl, _, rfl, v0, d0, v, d, rfl, hd0, hd, sh, fun c0 t a b ns ss e0 pl0 => ⟨fun c1 H1 g1 => ?_, fun c1 H1 g1 => (q0 c0 t a b ns ss e0 pl0).2 c1 H1 g1⟩, qe⟩
 subst e0
 obtain ⟨p, zs, rfl, hp0, ez, pk⟩ := partD_yes hd sh c1
 have n10 := pl0.ok.n2
 have z10 : zs.length ≤ 10 := Nat.le_trans pk.len n10
 have q : ∀ (l : Addr) (ys : List Int) (H' : Hp), Same H H' → H l = none → H' l = some (.lst (ys.map V.int)) → ys.Pairwise (· < ·) → (∀ y, y ∈ ys ↔ ∃ r, TurnR ss zs r ∧ r.getD (r.length - 1) 0 = y) → Q (.ref l) H' := fun l ys H' g _ _ _ _ => (q0 c0 t a b ns ss rfl pl0).1 c1 _ _ g
 have pl1 := pl0.same g1
 have hp1 := g1 _ _ hp0
 intro se hse
 have g2 := Same.new hse (.dT [])
 refine ⟨_, rfl, p, _, rfl, .inl ⟨SqL.of (g2 _ _ hp1), fun kt hkt => ?_⟩⟩
 have sk : se ≠ kt := fun z => by rw [← z, upd_same] at hkt; cases hkt
 refine ⟨by rw [upd_ne sk]; exact upd_same, kt, kR zs, rfl, by rw [upd_same, kR_V], ?_⟩
 have hkt1 : H1 kt = none := none_of_same g2 hkt
 have g3 : Same H1 (upd (upd (upd H1 se (.dT [])) kt (.tup (zs.map V.int))) se (.dT [(kR zs, .bl true)])) := fun c o hc => by
  rw [upd_ne (ne_of_none hc hse), upd_ne (ne_of_none hc hkt1), upd_ne (ne_of_none hc hse)]
  exact hc
 have e3 : upd (upd (upd H1 se (.dT [])) kt (.tup (zs.map V.int))) se (.dT [(kR zs, .bl true)]) se = some (.dT (kkv [zs])) := upd_same
 generalize upd (upd (upd H1 se (.dT [])) kt (.tup (zs.map V.int))) se (.dT [(kR zs, .bl true)]) = H3 at g3 e3 ⊢
 refine ⟨_, rfl, (by show 1 ≤ sizeLine; decide), fun wa hwa => ?_⟩
 have g4 := Same.new hwa (.lst [.ref p])
 have ws : wa ≠ se := Ne.symm (ne_of_none e3 hwa)
 have e4 : upd H3 wa (.lst [.ref p]) wa = some (.lst ([(p, zs)].map fun q => V.ref q.1)) := upd_same
 have e34 := g4 _ _ e3
 have g14 := g3.trans g4
 have hwa1 : H1 wa = none := none_of_same g3 hwa
 generalize upd H3 wa (.lst [.ref p]) = H4 at g4 e4 e34 g14 ⊢
 have pl4 := pl1.same g14
 have hp4 := g14 _ _ hp1
 have ns_ : ∀ {c : Addr} {o : HO}, H1 c = some o → c ≠ se ∧ c ≠ wa := fun h => ⟨ne_of_none h hse, ne_of_none h hwa1⟩
 dsimp only [gName, tSeq]
 refine while_by2 (fun σ H' => ∃ (x4 x5 x6 : Option V) (R : List (List Int)) (PW : List (Addr × List Int)), σ = [some (.ref t), some (.ref p), some (.ref se), some (.ref wa), x4, x5, x6] ∧ Ex (fun b => b = se ∨ b = wa) H4 H' ∧ H' se = some (.dT (kkv R)) ∧ H' wa = some (.lst (PW.map fun q => V.ref q.1)) ∧
   (∀ q ∈ PW, H' q.1 = some (.lst (q.2.map V.int)) ∧ q.1 ≠ se ∧ q.1 ≠ wa ∧ q.2 ∈ R) ∧ R.Nodup ∧ (∀ r ∈ R, TurnR ss zs r) ∧ zs ∈ R ∧ PW.length ≤ R.length ∧ ∀ r ∈ R, (∃ q ∈ PW, q.2 = r) ∨ ∀ k ∈ plcs ss r, trn r k ∈ R)
  (muA se wa) ⟨none, none, none, [zs], [(p, zs)], rfl, Ex.refl, e34, e4, fun q hq => by rw [List.mem_singleton.mp hq]; exact ⟨hp4, (ns_ hp1).1, (ns_ hp1).2, List.mem_singleton.mpr rfl⟩, by simp, fun r hr => by rw [List.mem_singleton.mp hr]; exact .refl, List.mem_singleton.mpr rfl, Nat.le_refl _, fun r hr => .inl ⟨_, List.mem_singleton.mpr rfl, by rw [List.mem_singleton.mp hr]⟩⟩ ?_
 rintro σ HA ⟨x4, x5, x6, R, PW, rfl, EA, eS, eW, rows, nd, tr, zin, le, cl⟩
 have inE : ∀ {c : Addr} {o : HO} {H' : Hp}, H1 c = some o → Ex (fun b => b = se ∨ b = wa) H4 H' → H' c = some o := fun {c o H'} h e => e _ _ (fun z => z.elim (ns_ h).1 (ns_ h).2) (g14 _ _ h)
 have prm_ : ∀ {r : List Int}, TurnR ss zs r → r.length ≤ 10 ∧ 1 ≤ r.length := fun h => by
  obtain ⟨h1, h2⟩ := h.part pk
  exact ⟨by rw [h2.length_eq]; exact z10, h1.ne⟩
 have cap : ∀ {R' : List (List Int)}, R'.Nodup → (∀ r ∈ R', TurnR ss zs r) → R'.length ≤ 3628800 := fun n h => perms_le z10 n fun r hr => ((h r hr).part pk).2
 refine ⟨_, rfl, _, .inl ⟨_, SqL.of eW, rfl⟩, ite2 (fun c => ?_) (fun c => ?_)⟩
 ·have ne : PW ≠ [] := fun z => by rw [z] at c; cases c
  obtain ⟨P0, x, eP⟩ : ∃ P0 x, PW = P0 ++ [x] := ⟨PW.dropLast, PW.getLast ne, (List.dropLast_concat_getLast ne).symm⟩
  subst eP
  obtain ⟨hx, xs_, xw, xR⟩ := rows x (List.mem_append_right _ (List.mem_singleton.mpr rfl))
  have mu0 : ∀ σ, muA se wa σ HA = 2 * (3628801 - R.length) + (P0.length + 1) := fun σ => by rw [muA_of eS eW, List.length_map, List.length_append]; rfl
  refine ⟨fun σ' H' => muA se wa σ' H' < muA se wa [some (.ref t), some (.ref p), some (.ref se), some (.ref wa), x4, x5, x6] HA ∧ _, fun σ' H' h => ⟨_, h.1, rfl, h.2⟩, ?_⟩
  rw [mu0]
  refine ⟨_, rfl, .inl ⟨rfl, _, SqL.of eW⟩, wa, P0.map (fun q => V.ref q.1), .ref x.1, rfl, rfl, by rw [eW, List.map_append]; rfl, ?_⟩
  have EB : Ex (fun b => b = se ∨ b = wa) H4 (upd HA wa (.lst (P0.map fun q => V.ref q.1))) := EA.trans (Ex.put _ (.inr rfl))
  have eW1 : upd HA wa (.lst (P0.map fun q => V.ref q.1)) wa = some (.lst (P0.map fun q => V.ref q.1)) := upd_same
  have eS1 : upd HA wa (.lst (P0.map fun q => V.ref q.1)) se = some (.dT (kkv R)) := by rw [upd_ne (Ne.symm ws)]; exact eS
  have hx1 : upd HA wa (.lst (P0.map fun q => V.ref q.1)) x.1 = some (.lst (x.2.map V.int)) := by rw [upd_ne xw]; exact hx
  have rows1 : ∀ q ∈ P0, upd HA wa (.lst (P0.map fun q => V.ref q.1)) q.1 = some (.lst (q.2.map V.int)) ∧ q.1 ≠ se ∧ q.1 ≠ wa ∧ q.2 ∈ R := fun q hq => by
   obtain ⟨r1, r2, r3, r4⟩ := rows q (List.mem_append_left _ hq)
   exact ⟨by rw [upd_ne r3]; exact r1, r2, r3, r4⟩
  generalize upd HA wa (.lst (P0.map fun q => V.ref q.1)) = HB at EB eW1 eS1 hx1 rows1 ⊢
  have lP : P0.length + 1 ≤ R.length := by rw [List.length_append] at le; exact le
  obtain ⟨x10, x1⟩ := prm_ (tr _ xR)
  have plB : IsPl HB t a b ns ss := ⟨inE pl1.t EB, inE pl1.a EB, inE pl1.b EB, pl0.ok⟩
  refine ⟨_, rfl, _, rfl, t, a, b, x.1, ns, ss, x.2, rfl, plB, hx1, x1, x10, fun L HC gC nL eL => ?_⟩
  have kml : ((iv (plcs ss x.2)).map V.int).length = (plcs ss x.2).length := by rw [List.length_map, iv_len]
  have pls : ∀ k ∈ plcs ss x.2, k < x.2.length := fun k hk => by
   have := List.mem_range.mp (List.mem_filter.mp hk).1
   omega
  have Ls : L ≠ se := Ne.symm (ne_of_none eS1 nL)
  have Lw : L ≠ wa := Ne.symm (ne_of_none eW1 nL)
  have EC : Ex (fun b => b = se ∨ b = wa) H4 HC := EB.trans (Ex.same gC)
  refine ⟨L, rfl, ⟨_, SqL.of eL⟩, ?_⟩
  refine for_list (xs := (iv (plcs ss x.2)).map V.int) (fun i σ H' => ∃ (x5 x6 : Option V) (R' : List (List Int)) (P' : List (Addr × List Int)), σ = [some (.ref t), some (.ref p), some (.ref se), some (.ref wa), some (.ref x.1), x5, x6] ∧ Ex (fun b => b = se ∨ b = wa) HC H' ∧ H' se = some (.dT (kkv R')) ∧ H' wa = some (.lst (P'.map fun q => V.ref q.1)) ∧
    (∀ q ∈ P', H' q.1 = some (.lst (q.2.map V.int)) ∧ q.1 ≠ se ∧ q.1 ≠ wa ∧ q.2 ∈ R') ∧ R'.Nodup ∧ (∀ r ∈ R', TurnR ss zs r) ∧ (∀ r ∈ R, r ∈ R') ∧ P'.length + 1 ≤ R'.length ∧ 2 * (3628801 - R'.length) + P'.length ≤ 2 * (3628801 - R.length) + P0.length ∧ (∀ k ∈ (plcs ss x.2).take i, trn x.2 k ∈ R') ∧ ∀ r ∈ R', (∃ q ∈ P', q.2 = r) ∨ r = x.2 ∨ ∀ k ∈ plcs ss r, trn r k ∈ R')
   ⟨x5, x6, R, P0, rfl, Ex.refl, gC _ _ eS1, gC _ _ eW1, fun q hq => ⟨gC _ _ (rows1 q hq).1, (rows1 q hq).2⟩, nd, tr, fun r h => h, lP, Nat.le_refl _, (fun k hk => nomatch hk), fun r hr => ?_⟩ (fun i σ H' _ ⟨_, _, _, _, _, ex, _⟩ => SqL.of (ex _ _ (fun z => z.elim Ls Lw) eL)) ?_ ?_
  ·rcases cl r hr with ⟨q, hq, e⟩ | h
   ·rcases List.mem_append.mp hq with z | z
    ·exact .inl ⟨q, z, e⟩
    ·rw [List.mem_singleton.mp z] at e
     exact .inr (.inl e.symm)
   ·exact .inr (.inr h)
  ·rintro i y σ HD hy ⟨y5, y6, R', P', rfl, ED, eSD, eWD, rowsD, ndD, trD, sub, leD, mu, done, clD⟩
   have hi : i < (plcs ss x.2).length := by rw [← kml]; exact (List.getElem?_eq_some_iff.mp hy).1
   have ek : (plcs ss x.2)[i]? = some (plcs ss x.2)[i] := List.getElem?_eq_getElem hi
   rw [nat_at ek] at hy
   cases hy
   have hkp := List.getElem_mem hi
   generalize (plcs ss x.2)[i] = k at ek hkp ⊢
   have hxD := ED _ _ (fun z => z.elim xs_ xw) (gC _ _ hx1)
   refine ⟨_, rfl, _, rfl, x.1, x.2, k, rfl, hxD, x10, pls k hkp, fun l HE gE nl el => ?_⟩
   have el : HE l = some (.lst ((trn x.2 k).map V.int)) := el
   have eSE := gE _ _ eSD
   have eWE := gE _ _ eWD
   have ls : l ≠ se := Ne.symm (ne_of_none eSD nl)
   have lw : l ≠ wa := Ne.symm (ne_of_none eWD nl)
   have tk1 : (plcs ss x.2).take (i + 1) = (plcs ss x.2).take i ++ [k] := by rw [List.take_add_one, ek]; rfl
   have xR' : x.2 ∈ R' := sub _ xR
   refine ⟨_, rfl, l, _, rfl, .inl ⟨SqL.of el, fun k1 hk1 => ?_⟩⟩
   have g5 := Same.new hk1 (.tup ((trn x.2 k).map V.int))
   have ek1 : upd HE k1 (.tup ((trn x.2 k).map V.int)) k1 = some (.tup ((kR (trn x.2 k)).map kV)) := by rw [upd_same, kR_V]
   have eSF := g5 _ _ eSE
   have eWF := g5 _ _ eWE
   have elF := g5 _ _ el
   have gF := gE.trans g5
   generalize upd HE k1 (.tup ((trn x.2 k).map V.int)) = HF at g5 ek1 eSF eWF elF gF ⊢
   have EF : Ex (fun b => b = se ∨ b = wa) HC HF := ED.trans (Ex.same gF)
   refine ⟨_, rfl, se, _, rfl, DGet.t eSF ek1, _, rfl, ite2 (fun c => ?_) (fun c => ?_)⟩
   ·have nin : trn x.2 k ∉ R' := fun z => by
     have c' : (!(valV (kkv R') (kR (trn x.2 k))).isSome) = true := c
     rw [kkv_has, decide_eq_true z] at c'
     cases c'
    have vnone : valV (kkv R') (kR (trn x.2 k)) = none := by
     have := kkv_has R' (trn x.2 k)
     rw [decide_eq_false nin] at this
     exact Option.isSome_eq_false_iff.mp this |> Option.isNone_iff_eq_none.mp
    have cp := cap ndD trD
    refine ⟨_, rfl, _, rfl, l, _, rfl, .inl ⟨SqL.of elF, fun k2 hk2 => ?_⟩⟩
    have g6 := Same.new hk2 (.tup ((trn x.2 k).map V.int))
    have ek2 : upd HF k2 (.tup ((trn x.2 k).map V.int)) k2 = some (.tup ((kR (trn x.2 k)).map kV)) := by rw [upd_same, kR_V]
    have eSG := g6 _ _ eSF
    have eWG := g6 _ _ eWF
    have elG := g6 _ _ elF
    have gG := gF.trans g6
    generalize upd HF k2 (.tup ((trn x.2 k).map V.int)) = HG at g6 ek2 eSG eWG elG gG ⊢
    have EG : Ex (fun b => b = se ∨ b = wa) HC HG := ED.trans (Ex.same gG)
    have klen : (kkv R').length = R'.length := by unfold kkv; exact List.length_map _
    refine ⟨se, _, rfl, DPut.t eSG ek2 (by rw [klen, sizeLine_eq]; omega), ?_⟩
    have ep : putK (kkv R') (kR (trn x.2 k)) (.bl true) = kkv (R' ++ [trn x.2 k]) := by
     rw [putK_new _ vnone]
     unfold kkv
     rw [List.map_append]
     rfl
    rw [ep]
    have EH : Ex (fun b => b = se ∨ b = wa) HC (upd HG se (.dT (kkv (R' ++ [trn x.2 k])))) := EG.trans (Ex.put _ (.inl rfl))
    have eSH : upd HG se (.dT (kkv (R' ++ [trn x.2 k]))) se = some (.dT (kkv (R' ++ [trn x.2 k]))) := upd_same
    have eWH : upd HG se (.dT (kkv (R' ++ [trn x.2 k]))) wa = some (.lst (P'.map fun q => V.ref q.1)) := by rw [upd_ne ws]; exact eWG
    have elH : upd HG se (.dT (kkv (R' ++ [trn x.2 k]))) l = some (.lst ((trn x.2 k).map V.int)) := by rw [upd_ne ls]; exact elG
    have rowsH : ∀ q ∈ P', upd HG se (.dT (kkv (R' ++ [trn x.2 k]))) q.1 = some (.lst (q.2.map V.int)) ∧ q.1 ≠ se ∧ q.1 ≠ wa ∧ q.2 ∈ R' := fun q hq => by
     obtain ⟨r1, r2, r3, r4⟩ := rowsD q hq
     exact ⟨by rw [upd_ne r2]; exact gG _ _ r1, r2, r3, r4⟩
    generalize upd HG se (.dT (kkv (R' ++ [trn x.2 k]))) = HH at EH eSH eWH elH rowsH ⊢
    refine ⟨_, rfl, .inl ⟨rfl, _, SqL.of eWH⟩, _, rfl, wa, _, _, rfl, rfl, eWH, by rw [List.length_map, sizeLine_eq]; omega, ?_⟩
    have ndN : (R' ++ [trn x.2 k]).Nodup := List.nodup_append.mpr ⟨ndD, by simp, fun u hu v hv e => nin (by rw [List.mem_singleton.mp hv] at e; exact e ▸ hu)⟩
    have trN : ∀ r ∈ R' ++ [trn x.2 k], TurnR ss zs r := fun r hr => by
     rcases List.mem_append.mp hr with z | z
     ·exact trD r z
     ·rw [List.mem_singleton.mp z]; exact .step (trD _ xR') hkp
    have cpN := cap ndN trN
    rw [List.length_append] at cpN
    have cpN : R'.length + 1 ≤ 3628800 := cpN
    refine ⟨_, _, R' ++ [trn x.2 k], P' ++ [(l, trn x.2 k)], rfl, EH.trans (Ex.put _ (.inr rfl)), by rw [upd_ne (Ne.symm ws)]; exact eSH, by rw [upd_same, List.map_append]; rfl, fun q hq => ?_, ndN, trN, fun r hr => List.mem_append_left _ (sub r hr), by rw [List.length_append, List.length_append]; show P'.length + 1 + 1 ≤ R'.length + 1; omega, by rw [List.length_append, List.length_append]; show 2 * (3628801 - (R'.length + 1)) + (P'.length + 1) ≤ _; omega, fun k' hk' => ?_, fun r hr => ?_⟩
    ·rcases List.mem_append.mp hq with z | z
     ·obtain ⟨r1, r2, r3, r4⟩ := rowsH q z
      exact ⟨by rw [upd_ne r3]; exact r1, r2, r3, List.mem_append_left _ r4⟩
     ·rw [List.mem_singleton.mp z]
      exact ⟨by rw [upd_ne lw]; exact elH, ls, lw, List.mem_append_right _ (List.mem_singleton.mpr rfl)⟩
    ·rw [tk1] at hk'
     rcases List.mem_append.mp hk' with z | z
     ·exact List.mem_append_left _ (done k' z)
     ·rw [List.mem_singleton.mp z]; exact List.mem_append_right _ (List.mem_singleton.mpr rfl)
    ·rcases List.mem_append.mp hr with z | z
     ·rcases clD r z with ⟨q, hq, e⟩ | e | h
      ·exact .inl ⟨q, List.mem_append_left _ hq, e⟩
      ·exact .inr (.inl e)
      ·exact .inr (.inr fun k' hk' => List.mem_append_left _ (h k' hk'))
     ·exact .inl ⟨_, List.mem_append_right _ (List.mem_singleton.mpr rfl), (List.mem_singleton.mp z).symm⟩
   ·have inn : trn x.2 k ∈ R' := by
     rcases Classical.em (trn x.2 k ∈ R') with z | z
     ·exact z
     ·refine absurd ?_ c
      show (!(valV (kkv R') (kR (trn x.2 k))).isSome) = true
      rw [kkv_has, decide_eq_false z]
      rfl
    refine ⟨_, _, R', P', rfl, EF, eSF, eWF, fun q hq => ⟨gF _ _ (rowsD q hq).1, (rowsD q hq).2⟩, ndD, trD, sub, leD, mu, fun k' hk' => ?_, clD⟩
    rw [tk1] at hk'
    rcases List.mem_append.mp hk' with z | z
    ·exact done k' z
    ·rw [List.mem_singleton.mp z]; exact inn
  ·rintro σ HD ⟨y5, y6, R', P', rfl, ED, eSD, eWD, rowsD, ndD, trD, sub, leD, mu, done, clD⟩
   rw [kml, List.take_of_length_le (Nat.le_refl _)] at done
   refine ⟨?_, _, _, _, R', P', rfl, EC.trans ED, eSD, eWD, rowsD, ndD, trD, sub _ zin, by omega, fun r hr => ?_⟩
   ·rw [muA_of eSD eWD, List.length_map]
    omega
   ·rcases clD r hr with h | h | h
    ·exact .inl h
    ·rw [h]; exact .inr done
    ·exact .inr h
 ·have pe : PW = [] := by
   cases PW with
   | nil => rfl
   | cons x r => exact absurd rfl c
  subst pe
  have all : ∀ r, TurnR ss zs r ↔ r ∈ R := fun r => by
   refine ⟨fun h => ?_, tr r⟩
   induction h with
   | refl => exact zin
   | step _ hk ih =>
    rcases cl _ ih with ⟨q, hq, _⟩ | h
    ·exact nomatch hq
    ·exact h _ hk
  have cp := cap nd tr
  have klen : (kkv R).length = R.length := by unfold kkv; exact List.length_map _
  refine ⟨se, _, eS, fun o => ?_⟩
  have eF : upd HA se (.frz o (.dT (kkv R))) se = some (.frz o (.dT (kkv R))) := upd_same
  refine ⟨_, rfl, se, o, _, rfl, eF, fun D hD => ?_⟩
  have hDA : HA D = none := by
   rcases Classical.em (D = se) with z | z
   ·rw [z, upd_same] at hD; cases hD
   ·rw [upd_ne z] at hD; exact hD
  have Ds : se ≠ D := ne_of_none eF hD
  refine turns_any (n := R.length) (fun i σ' H' => ∃ x : Option V, σ' = [x, some (.ref t), some (.ref p), some (.ref se), some (.ref wa), x4, x5, x6] ∧ Same (upd HA se (.frz o (.dT (kkv R)))) H' ∧ H' D = some (.lst (((R.take i).map fun r => r.getD (r.length - 1) 0).map V.int)))
   ⟨none, rfl, Same.new hD _, upd_same⟩ ?_ ?_
  ·rintro i σ' H' hi ⟨x, rfl, g, eD⟩
   refine ⟨⟨g _ _ eF, by rw [klen]; exact hi⟩, fun y H2 hy => ?_⟩
   obtain ⟨rfl, kk, b2, h1, rfl, h2⟩ := hy
   have ek : R[i]? = some R[i] := List.getElem?_eq_getElem hi
   have : kk = kR R[i] := by
    unfold kkv at h1
    rw [List.map_map, List.getElem?_map, ek] at h1
    exact (Option.some.inj h1).symm
   subst this
   rw [kR_V] at h2
   refine comp_true ?_
   refine ⟨_, rfl, _, rfl, b2, _, -1, _, rfl, rfl, SqT.of h2, last_atP (prm_ (tr _ (List.getElem_mem hi))).2, ?_⟩
   refine ⟨_, eD, by rw [List.length_map, List.length_map, List.length_take, sizeLine_eq]; omega, _, rfl, fun c o hc => ?_, ?_⟩
   ·rw [upd_ne (ne_of_none hc hD)]
    exact g _ _ hc
   ·rw [upd_same, List.take_add_one, ek, List.map_append, List.map_append]
    rfl
  ·rintro σ' H' ⟨x, rfl, g, eD⟩
   refine ⟨⟨g _ _ eF, by rw [klen]; exact Nat.le_refl _⟩, ?_⟩
   rw [List.take_of_length_le (Nat.le_refl _)] at eD
   refine ⟨g _ _ eF, D, R.map fun r => r.getD (r.length - 1) 0, zs, rfl, SqL.of (by rw [upd_ne (Ne.symm Ds)]; exact eD), fun y hy => ?_, by omega, fun l ys hl up my => ?_⟩
   ·obtain ⟨r, hr, rfl⟩ := List.mem_map.mp hy
    obtain ⟨h1, h2⟩ := (tr r hr).part pk
    refine h2.mem_iff.mp ?_
    have hlt : r.length - 1 < r.length := by have := h1.ne; omega
    rw [List.getD_eq_getElem?_getD, List.getElem?_eq_getElem hlt]
    exact List.getElem_mem hlt
   ·have gl : Same HA (upd (upd H' se (.dT (kkv R))) l (.lst (ys.map V.int))) := fun c o' hc => by
     rcases Classical.em (c = se) with z | z
     ·subst z
      rw [eS] at hc
      rw [← hc]
      have cl' : c ≠ l := fun w => by rw [← w, upd_same] at hl; cases hl
      rw [upd_ne cl']
      exact upd_same
     ·have h1 := g c o' (by rw [upd_ne z]; exact hc)
      have cl' : c ≠ l := fun w => by rw [← w, upd_ne z, h1] at hl; cases hl
      rw [upd_ne cl', upd_ne z]
      exact h1
    refine q l ys _ (fun c o' hc => ?_) ?_ upd_same up fun y => ?_
    ·have := g1 _ _ hc
     exact gl _ _ (EA _ _ (fun z => z.elim (ns_ this).1 (ns_ this).2) (g14 _ _ this))
    ·cases hH : H l with
     | none => rfl
     | some o' =>
      have h1 := g1 _ _ hH
      have h2 : HA l = some o' := EA _ _ (fun z => z.elim (ns_ h1).1 (ns_ h1).2) (g14 _ _ h1)
      have h3 := g l o' (by rw [upd_ne (ns_ h1).1]; exact h2)
      rw [upd_ne (ns_ h1).1, h3] at hl
      cases hl
    ·rw [my y, List.mem_map]
     exact ⟨fun ⟨r, h1, h2⟩ => ⟨r, (all r).mpr h1, h2⟩, fun ⟨r, h1, h2⟩ => ⟨r, (all r).mp h1, h2⟩⟩
end
def S1 (d : Addr) : Addr → Prop := fun b => b = d
structure Lv (d : Addr) (H0 H : Hp) (bs : List (Addr × HO)) : Prop where
 D : StT H d
 G : Same (msk (S1 d) H0) (msk (S1 d) H)
 L : ∀ x ∈ bs, msk (S1 d) H x.1 = some x.2
 F : ∀ x ∈ bs, msk (S1 d) H0 x.1 = none
 nd : (bs.map Prod.fst).Nodup
theorem StT.out3 {H : Hp} {d x : Addr} (D : StT H d) (h : H x = none) : ¬ S1 d x := D.out h
section
variable {d : Addr} {H0 H : Hp} {bs : List (Addr × HO)}
theorem Lv.start (D : StT H d) : Lv d H H [] := ⟨D, fun _ _ h => h, (fun _ h => nomatch h), (fun _ h => nomatch h), List.nodup_nil⟩
theorem Lv.new (h : Lv d H0 H bs) {q : Addr} (hq : H q = none) (o : HO) : Lv d H0 (upd H q o) ((q, o) :: bs) := by
 have sm : Same H (upd H q o) := Same.new hq o
 refine ⟨h.D.ex sm, fun b u e => msk_same sm _ _ (h.G _ _ e), fun x hx => ?_, fun x hx => ?_, ?_⟩
 ·rcases List.mem_cons.mp hx with e | e
  ·rw [e]
   show msk (S1 d) (upd H q o) q = some o
   rw [msk_in (h.D.out3 hq)]
   exact upd_same
  ·exact msk_same sm _ _ (h.L x e)
 ·rcases List.mem_cons.mp hx with e | e
  ·rw [e]
   show msk (S1 d) H0 q = none
   cases z : msk (S1 d) H0 q with
   | none => rfl
   | some u =>
    have y := msk_le _ _ (h.G _ _ z)
    rw [hq] at y
    cases y
  ·exact h.F x e
 ·rw [List.map_cons, List.nodup_cons]
  refine ⟨fun z => ?_, h.nd⟩
  obtain ⟨x, hx, e⟩ := List.mem_map.mp z
  have y := msk_le _ _ (h.L x hx)
  rw [e] at y
  change H q = _ at y
  rw [hq] at y
  cases y
theorem Lv.mv (h : Lv d H0 H bs) {H' : Hp} (D : StT H' d) (g : Same (msk (S1 d) H) (msk (S1 d) H')) : Lv d H0 H' bs := ⟨D, fun b u e => g _ _ (h.G _ _ e), fun x hx => g _ _ (h.L x hx), h.F, h.nd⟩
theorem off_msk {H' : Hp} (o : OffT d H H') : Same (msk (S1 d) H) (msk (S1 d) H') := fun b u e => by
 obtain ⟨n, e⟩ := msk_some e
 rw [msk_in n]
 exact (o b fun z => n z).trans e
theorem Lv.m (h : Lv d H0 H bs) {q : Addr} {o : HO} (e : (q, o) ∈ bs) : msk (S1 d) H q = some o := h.L _ e
theorem Lv.at (h : Lv d H0 H bs) {q : Addr} {o : HO} (e : (q, o) ∈ bs) : H q = some o := msk_le _ _ (h.L _ e)
theorem Lv.old (h : Lv d H0 H bs) {q : Addr} {o : HO} (e : msk (S1 d) H0 q = some o) : H q = some o := msk_le _ _ (h.G _ _ e)
theorem Lv.put {l : Addr} {o : HO} (h : Lv d H0 H ((l, o) :: bs)) (o' : HO) : Lv d H0 (upd H l o') ((l, o') :: bs) := by
 have hl := h.L _ List.mem_cons_self
 have hf := h.F _ List.mem_cons_self
 have hn := h.nd
 rw [List.map_cons, List.nodup_cons] at hn
 obtain ⟨nl, el⟩ := msk_some hl
 have keep : ∀ b u, b ≠ l → msk (S1 d) H b = some u → msk (S1 d) (upd H l o') b = some u := fun b u ne e => by
  obtain ⟨n, e⟩ := msk_some e
  rw [msk_in n, upd_ne ne]
  exact e
 refine ⟨h.D.off fun z => nl ?_, fun b u e => keep b u (fun z => ?_) (h.G _ _ e), fun x hx => ?_, fun x hx => ?_, ?_⟩
 ·exact z
 ·rw [z] at e
  change msk (S1 d) H0 l = none at hf
  rw [hf] at e
  cases e
 ·rcases List.mem_cons.mp hx with e | e
  ·rw [e]
   show msk (S1 d) (upd H l o') l = some o'
   rw [msk_in nl]
   exact upd_same
  ·exact keep _ _ (fun z => hn.1 (List.mem_map.mpr ⟨x, e, z⟩)) (h.L x (List.mem_cons_of_mem _ e))
 ·rcases List.mem_cons.mp hx with e | e
  ·rw [e]; exact hf
  ·exact h.F x (List.mem_cons_of_mem _ e)
 ·rw [List.map_cons, List.nodup_cons]
  exact hn
end
theorem Lv.drop1 {d : Addr} {H0 H : Hp} {bs : List (Addr × HO)} {x y : Addr × HO} (h : Lv d H0 H (x :: y :: bs)) : Lv d H0 H (x :: bs) := by
 have m : ∀ z, z ∈ x :: bs → z ∈ x :: y :: bs := fun z hz => by
  rcases List.mem_cons.mp hz with e | e
  ·rw [e]; exact List.mem_cons_self
  ·exact List.mem_cons_of_mem _ (List.mem_cons_of_mem _ e)
 exact ⟨h.D, h.G, fun z hz => h.L z (m z hz), fun z hz => h.F z (m z hz), h.nd.sublist (List.Sublist.map _ (((List.Sublist.refl bs).cons y).cons_cons x))⟩
theorem Lv.drop2 {d : Addr} {H0 H : Hp} {bs : List (Addr × HO)} {x y z : Addr × HO} (h : Lv d H0 H (x :: y :: z :: bs)) : Lv d H0 H (x :: bs) := (h.drop1).drop1
theorem cut_mem {xs : List V} {lo hi : Option Int} {x : V} (h : x ∈ cutV xs lo hi) : x ∈ xs := List.mem_of_mem_drop (List.mem_of_mem_take h)
structure QE (X : Cx) (e : Expr) (t : TE) : Prop where
 h : PE X e t
structure QA (X : Cx) (es : List Expr) (t : TA) : Prop where
 h : PA X es t
structure QI (X : Cx) (tg iter : Expr) (t : TI) : Prop where
 h : PI X tg iter t
structure QS (X : Cx) (st : Stmt) (t : TS) : Prop where
 h : PS X st t
structure QSs (X : Cx) (st : List Stmt) (t : TS) : Prop where
 h : PSs X st t
section
variable {X : Cx} {e tg : Expr} {es : List Expr} {te : TE} {t : TA} {pos : Pos} {st : Stmt} {rest : List Stmt} {u v : TS}
theorem qa_nil : QA X [] tNil := ⟨pa_nil⟩
theorem qa_cons (ha : QE X e te) (hr : QA X es t) (hs : starEach (e :: es) X.env = (false, eval e X.env) :: starEach es X.env := by rfl) : QA X (e :: es) (tCons te t) := ⟨pa_cons ha.h hr.h hs⟩
theorem qe_lst (h : QA X es t) : QE X (.List es pos) (tLst t) := ⟨pe_lst h.h⟩
theorem qe_tup {x1} (h : QA X es t) : QE X (.Tuple es x1 pos) (tTup t) := ⟨pe_tup h.h⟩
theorem qe_op {a b : Expr} {op : Operator} {ta tb : TE} {r : R2} (hr : OpR X (binaryOp op) r) (ha : QE X a ta) (hb : QE X b tb) : QE X (.BinOp a op b pos) (tOp r ta tb) := ⟨pe_op hr ha.h hb.h⟩
theorem qs_set {i : Nat} {x : Str} {pos' : Pos} (hN : X.N.Nodup) (hi : X.N[i]? = some x) (hx : Loc X.env.scope x) (he : QE X e te) (hs : swapsWith e (some (.Name x pos')) pos.line X.env = pure false := by rfl) (hf : X.fn x = true ∨ X.env.scope.names.lookup x = some .local := by first | exact .inl rfl | exact .inr rfl | assumption) :
  QS X (.Assign [.Name x pos'] e pos) (tAsg te (gName i)) := ⟨ps_set hN hi hx he.h hs hf⟩
theorem qss_cons (h1 : QS X st u) (h2 : QSs X rest v) : QSs X (st :: rest) (tSeq u v) := ⟨pss_cons h1.h h2.h⟩
theorem qss_one (h1 : QS X st u) : QSs X [st] u := ⟨pss_one h1.h⟩
end
def NP (M : Hp) (v : V) : Prop := ∃ d, Dat M v d ∧ Fine 2000 4 d ∧ planD d = false
def NR (M : Hp) (few : Nat) (x : V) : Prop := ∀ (a : Addr) (ns : List Int), x = .ref a → M a = some (.lst (ns.map V.int)) → Rise ns → few ≤ ns.length → ns.length ≤ 10 → False
theorem np_of {M : Hp} {v : V} (th : Th M v 2000 4) (h : ∀ (t a b : Addr) (ns ss : List Int), v = .ref t → IsPl M t a b ns ss → False) : NP M v := by
 obtain ⟨d, hd, f⟩ := th
 refine ⟨d, hd, f, ?_⟩
 cases c : planD d with
 | false => rfl
 | true =>
  obtain ⟨t, a, b, ns, ss, e, pl, _⟩ := plan_back hd c
  exact (h t a b ns ss e pl).elim
theorem np_pair {M : Hp} {q : Addr} {x y : V} (hq : M q = some (.tup [x, y])) (tx : Th M x 100 2) (ty : Th M y 100 2) (h : NR M 1 x ∨ NR M 0 y) : NP M (.ref q) := by
 refine np_of ((Th.tup (n := 100) (k := 2) hq fun z hz => ?_).mono (by show 2 * 101 ≤ 2000; decide) (by decide)) fun t a b ns ss e pl => ?_
 ·simp only [List.mem_cons, List.not_mem_nil, or_false] at hz
  rcases hz with e | e <;> rw [e]
  ·exact tx
  ·exact ty
 ·cases e
  have e := pl.t
  rw [hq] at e
  cases e
  rcases h with h | h
  ·exact h a ns rfl pl.a pl.ok.n pl.ok.n1 pl.ok.n2
  ·exact h b ss rfl pl.b pl.ok.s (Nat.zero_le _) pl.ok.s2
theorem np_tup {M : Hp} {q : Addr} {xs : List V} (hq : M q = some (.tup xs)) (tx : ∀ x ∈ xs, Th M x 100 2) (l : xs.length ≤ 5) (h : xs.length ≠ 2) : NP M (.ref q) := by
 refine np_of ((Th.tup (n := 100) (k := 2) hq tx).mono (by omega) (by decide)) fun t a b ns ss e pl => ?_
 cases e
 have e := pl.t
 rw [hq] at e
 cases e
 exact h rfl
theorem np_lst {M : Hp} {q : Addr} {xs : List V} (hq : M q = some (.lst xs)) (tx : ∀ x ∈ xs, Th M x 100 2) (l : xs.length ≤ 15) : NP M (.ref q) := by
 refine np_of ((Th.lst (n := 100) (k := 2) hq tx).mono (by omega) (by decide)) fun t a b ns ss e pl => ?_
 cases e
 have e := pl.t
 rw [hq] at e
 cases e
theorem np_dct {M : Hp} {q : Addr} (hq : M q = some (.dK [])) : NP M (.ref q) := by
 refine np_of (Th.dct hq) fun t a b ns ss e pl => ?_
 cases e
 have e := pl.t
 rw [hq] at e
 cases e
theorem np_flat {M : Hp} {v : V} (th : Th M v 2000 4) (h : ∀ t, v ≠ .ref t) : NP M v := np_of th fun t _ _ _ _ e _ => h t e
theorem nr_lst {M : Hp} {few : Nat} {a : Addr} {xs : List V} (ha : M a = some (.lst xs)) (h : ∀ ns : List Int, xs = ns.map V.int → Rise ns → few ≤ ns.length → ns.length ≤ 10 → False) : NR M few (.ref a) := fun b ns e hb r f l => by
 cases e
 rw [ha] at hb
 cases hb
 exact h ns rfl r f l
theorem nr_tup {M : Hp} {few : Nat} {a : Addr} {xs : List V} (ha : M a = some (.tup xs)) : NR M few (.ref a) := fun b ns e hb r f l => by
 cases e
 rw [ha] at hb
 cases hb
theorem nr_non {M : Hp} {few : Nat} : NR M few .non := fun b ns e => nomatch e
theorem no_neg {xs : List V} {x : V} (hx : x ∈ xs) (h : ∀ n : Int, x = .int n → n < 0) (ns : List Int) (e : xs = ns.map V.int) (r : Rise ns) : False := by
 rw [e] at hx
 obtain ⟨n, hn, e⟩ := List.mem_map.mp hx
 have := r.bd n hn
 have := h n e.symm
 omega
theorem no_last2 {cs : List V} {u w : Int} (ns : List Int) (e : cs ++ [.int u, .int w] = ns.map V.int) (r : Rise ns) : u < w := by
 obtain ⟨l1, l2, rfl, _, h2⟩ := List.map_eq_append_iff.mp e.symm
 have up := (List.pairwise_append.mp r.up).2.1
 match l2, h2 with
 | [a, b], h2 =>
  simp only [List.map_cons, List.map_nil, List.cons.injEq, V.int.injEq, and_true] at h2
  have := (List.pairwise_cons.mp up).1 b List.mem_cons_self
  omega
theorem no_last {cs : List V} {w x : Int} (hx : .int x ∈ cs) (ns : List Int) (e : cs ++ [.int w] = ns.map V.int) (r : Rise ns) : x < w := by
 obtain ⟨l1, l2, rfl, h1, h2⟩ := List.map_eq_append_iff.mp e.symm
 match l2, h2 with
 | [b], h2 =>
  simp only [List.map_cons, List.map_nil, List.cons.injEq, V.int.injEq, and_true] at h2
  rw [← h1] at hx
  obtain ⟨z, hz, ez⟩ := List.mem_map.mp hx
  cases ez
  have := (List.pairwise_append.mp r.up).2.2 x hz b List.mem_cons_self
  omega
theorem th_some {M : Hp} {a : Addr} {xs : List V} (h : M a = some (.lst xs)) (l : xs.length ≤ 25) (b : ∀ x ∈ xs, Th M x 3 1) : Th M (.ref a) 100 2 := (Th.lst (n := 3) (k := 1) h b).mono (by omega) (by decide)
theorem th_some' {M : Hp} {a : Addr} {xs : List V} (h : M a = some (.tup xs)) (l : xs.length ≤ 25) (b : ∀ x ∈ xs, Th M x 3 1) : Th M (.ref a) 100 2 := (Th.tup (n := 3) (k := 1) h b).mono (by omega) (by decide)
theorem map_inj {xs ys : List Int} (h : xs.map V.int = ys.map V.int) : xs = ys := List.map_inj_right (fun _ _ e => V.int.inj e) |>.mp h
theorem st_eq {t : TS} {D : Ends} {σ σ' : L2.St} {H : Hp} (e : σ = σ') (h : t D σ' H) : t D σ H := by rw [e]; exact h
abbrev sNop : Stmt := top 43
def spNopT : Sp := fun vs H Q _ => ∃ (d t a b : Addr) (ns ss : List Int), vs = [.ref d, .ref t] ∧ StT H d ∧ IsPl (msk (S1 d) H) t a b ns ss ∧ (∀ x ∈ ns, x < 5 * 10 ^ 25) ∧ (∀ x ∈ ss, x < 10 ^ 26) ∧
 ∀ (v : V) (H' : Hp), StT H' d → Same (msk (S1 d) H) (msk (S1 d) H') → NP (msk (S1 d) H') v → Q v H'
theorem cut_take (zs : List Int) (k : Nat) : cutV (zs.map V.int) none (some (k : Int)) = (zs.take k).map V.int := by
 unfold cutV
 rw [HT.sIx_none, HT.sIx_nat, List.drop_zero, Nat.sub_zero, List.length_map, List.map_take]
 by_cases h : k ≤ zs.length
 ·rw [Nat.min_eq_left h]
 ·rw [Nat.min_eq_right (by omega), List.take_of_length_le (by rw [List.length_map]; omega), List.take_of_length_le (by rw [List.length_map]; omega)]
theorem nop_cases {M : Hp} {q1 q2 q3 q4 q5 q11 q12 q17 q18 q19 q20 q24 q25 q27 q28 q32 q33 q36 q37 q38 q39 q42 q43 q44 q45 q48 q49 q50 q51 q52 q53 q56 q57 q58 q60 q61 q63 q64 q69 q70 q73 q74 : Addr} {N9 S9 zq24 : List Int} {v1 mvv : V} {x0 la one gr : Int} {c2 c3 c4 c5 c6 c7 : List V} (rN : Rise N9) (lN1 : 1 ≤ N9.length) (lN9 : N9.length ≤ 9) (bN : ∀ x ∈ N9, 0 ≤ x ∧ x < 5 * 10 ^ 25) (lS : S9.length ≤ 9) (bS : ∀ x ∈ S9, 0 ≤ x ∧ x < 10 ^ 26) (mx0 : x0 ∈ N9) (mla : la ∈ N9) (mone : one ∈ N9) (gb : 0 ≤ gr ∧ gr < 10 ^ 26) (pq24 : zq24.Perm (N9 ++ [one]))
  (lc2 : c2.length ≤ N9.length) (mc2 : ∀ x ∈ c2, x ∈ N9.map V.int) (lc3 : c3.length ≤ N9.length) (mc3 : ∀ x ∈ c3, x ∈ N9.map V.int) (lc4 : c4.length ≤ S9.length) (mc4 : ∀ x ∈ c4, x ∈ S9.map V.int) (lc5 : c5.length ≤ S9.length) (mc5 : ∀ x ∈ c5, x ∈ S9.map V.int) (lc6 : c6.length ≤ S9.length) (mc6 : ∀ x ∈ c6, x ∈ S9.map V.int) (lc7 : c7.length ≤ S9.length) (mc7 : ∀ x ∈ c7, x ∈ S9.map V.int)
  (m_q1 : M q1 = some (.lst (N9.map V.int))) (m_q2 : M q2 = some (.lst (S9.map V.int))) (m_q3 : M q3 = some (.lst [.int 1])) (m_q4 : M q4 = some (.tup [.int 1])) (m_q5 : M q5 = some (.dK [])) (m_q11 : M q11 = some (.lst ((c2 ++ [v1]) ++ c3))) (m_q12 : M q12 = some (.tup [.ref q11, .ref q2])) (m_q17 : M q17 = some (.lst ((c4 ++ [v1]) ++ c5))) (m_q18 : M q18 = some (.tup [.ref q1, .ref q17])) (m_q19 : M q19 = some (.lst [])) (m_q20 : M q20 = some (.tup [.ref q19, .ref q2])) (m_q24 : M q24 = some (.lst (zq24.map V.int))) (m_q25 : M q25 = some (.tup [.ref q24, .ref q2])) (m_q27 : M q27 = some (.lst ((N9.map V.int) ++ [.int 0]))) (m_q28 : M q28 = some (.tup [.ref q27, .ref q2])) (m_q32 : M q32 = some (.lst (((S9.map V.int) ++ c6) ++ [.int 0, .int 0]))) (m_q33 : M q33 = some (.tup [.ref q1, .ref q32])) (m_q36 : M q36 = some (.lst ((List.range ((11 : Int) - 0).toNat).map fun k : Nat => V.int (0 + (k : Int))))) (m_q37 : M q37 = some (.tup [.ref q36, .ref q2])) (m_q38 : M q38 = some (.lst ((List.range ((11 : Int) - 0).toNat).map fun k : Nat => V.int (0 + (k : Int))))) (m_q39 : M q39 = some (.tup [.ref q1, .ref q38])) (m_q42 : M q42 = some (.tup ((N9.map V.int)))) (m_q43 : M q43 = some (.tup [.ref q42, .ref q2])) (m_q44 : M q44 = some (.tup ((S9.map V.int)))) (m_q45 : M q45 = some (.tup [.ref q1, .ref q44])) (m_q48 : M q48 = some (.tup [.ref q1])) (m_q49 : M q49 = some (.lst [])) (m_q50 : M q50 = some (.tup [.ref q1, .ref q2, .ref q49])) (m_q51 : M q51 = some (.lst [.ref q1, .ref q2])) (m_q52 : M q52 = some (.tup [.ref q1, .non])) (m_q53 : M q53 = some (.tup [.non, .ref q2])) (m_q56 : M q56 = some (.lst [])) (m_q57 : M q57 = some (.tup [])) (m_q58 : M q58 = some (.dK [])) (m_q60 : M q60 = some (.lst ((S9.map V.int) ++ [.int 5, .int 3]))) (m_q61 : M q61 = some (.tup [.ref q60, .ref q1])) (m_q63 : M q63 = some (.lst ((N9.map V.int) ++ [.int la]))) (m_q64 : M q64 = some (.tup [.ref q63, .ref q2])) (m_q69 : M q69 = some (.lst [.int 5, .int 3])) (m_q70 : M q70 = some (.tup [.ref q1, .ref q69])) (m_q73 : M q73 = some (.lst (c7 ++ [.int (gr + 2), .int (gr + 1)]))) (m_q74 : M q74 = some (.tup [.ref q1, .ref q73]))
  (mv1 : v1 ∈ [(.int (-1) : V), (.bl true : V), (.bl false : V), (.non : V), (.str "1" : V), (.ref q3 : V), (.ref q4 : V), (.int (0 - ((10 : Int) ^ (20 : Int).toNat)) : V), (.ref q5 : V), (.int (x0 - (9 * ((10 : Int) ^ (25 : Int).toNat))) : V)]) (mvL : mvv ∈ [(.ref q12 : V), (.ref q18 : V), (.ref q20 : V), (.ref q25 : V), (.ref q28 : V), (.ref q33 : V), (.ref q37 : V), (.ref q39 : V), (.ref q43 : V), (.ref q45 : V), (.ref q48 : V), (.ref q50 : V), (.ref q51 : V), (.ref q52 : V), (.ref q53 : V), (.non : V), (.int 0 : V), (.str "" : V), (.ref q56 : V), (.ref q57 : V), (.ref q58 : V), (.bl true : V), (.ref q61 : V), (.ref q64 : V), (.ref q70 : V), (.ref q74 : V)]) : NP M mvv := by
 have x0b := bN x0 mx0
 have iN : ∀ x ∈ N9.map V.int, Th M x 3 1 := fun x hx => by
  obtain ⟨z, hz, e⟩ := List.mem_map.mp hx
  rw [← e]
  exact Th.int (by have := bN z hz; omega)
 have iS : ∀ x ∈ S9.map V.int, Th M x 3 1 := fun x hx => by
  obtain ⟨z, hz, e⟩ := List.mem_map.mp hx
  rw [← e]
  exact Th.int (by have := bS z hz; omega)
 have nml : (N9.map V.int).length = N9.length := List.length_map _
 have sml : (S9.map V.int).length = S9.length := List.length_map _
 have iv : Th M v1 3 1 ∧ ∀ n : Int, v1 = .int n → n < 0 := by
  simp only [List.mem_cons, List.not_mem_nil, or_false] at mv1
  rcases mv1 with e | e | e | e | e | e | e | e | e | e <;> rw [e]
  ·exact ⟨Th.int (by decide), fun n h => by cases h; decide⟩
  ·exact ⟨Th.bl _, fun n h => nomatch h⟩
  ·exact ⟨Th.bl _, fun n h => nomatch h⟩
  ·exact ⟨Th.non, fun n h => nomatch h⟩
  ·exact ⟨Th.str (by decide) (by decide), fun n h => nomatch h⟩
  ·exact ⟨(Th.lst (xs := [.int 1]) (n := 0) (k := 0) m_q3 fun x hx => by rw [List.mem_singleton.mp hx]; exact Th.int (by decide)).mono (by decide) (by decide), fun n h => nomatch h⟩
  ·exact ⟨(Th.tup (xs := [.int 1]) (n := 0) (k := 0) m_q4 fun x hx => by rw [List.mem_singleton.mp hx]; exact Th.int (by decide)).mono (by decide) (by decide), fun n h => nomatch h⟩
  ·exact ⟨Th.int (by decide), fun n h => by cases h; decide⟩
  ·exact ⟨Th.dct m_q5, fun n h => nomatch h⟩
  ·exact ⟨Th.int (by have e : (10 : Int) ^ (25 : Int).toNat = 10 ^ 25 := rfl; rw [e]; omega), fun n h => by cases h; have e : (10 : Int) ^ (25 : Int).toNat = 10 ^ 25 := rfl; rw [e]; omega⟩
 have in2 : ∀ {xs ys : List V}, (∀ x ∈ xs, Th M x 3 1) → (∀ x ∈ ys, Th M x 3 1) → ∀ x ∈ xs ++ ys, Th M x 3 1 := fun h1 h2 x hx => (List.mem_append.mp hx).elim (h1 x) (h2 x)
 have in1 : ∀ {y : V}, Th M y 3 1 → ∀ x ∈ [y], Th M x 3 1 := fun h x hx => by rw [List.mem_singleton.mp hx]; exact h
 have ini : ∀ {u w : Int}, u.natAbs < 10 ^ 30 → w.natAbs < 10 ^ 30 → ∀ x ∈ [V.int u, .int w], Th M x 3 1 := fun hu hw x hx => by
  simp only [List.mem_cons, List.not_mem_nil, or_false] at hx
  rcases hx with e | e <;> rw [e]
  ·exact Th.int hu
  ·exact Th.int hw
 have icN : ∀ {c : List V}, (∀ x ∈ c, x ∈ N9.map V.int) → ∀ x ∈ c, Th M x 3 1 := fun h x hx => iN x (h x hx)
 have icS : ∀ {c : List V}, (∀ x ∈ c, x ∈ S9.map V.int) → ∀ x ∈ c, Th M x 3 1 := fun h x hx => iS x (h x hx)
 have tN : Th M (.ref q1) 100 2 := th_some m_q1 (by omega) iN
 have tS : Th M (.ref q2) 100 2 := th_some m_q2 (by omega) iS
 have l11 : ((List.range ((11 : Int) - 0).toNat).map fun k : Nat => V.int (0 + (k : Int))).length = 11 := by decide
 have i11 : ∀ x ∈ ((List.range ((11 : Int) - 0).toNat).map fun k : Nat => V.int (0 + (k : Int))), Th M x 3 1 := fun x hx => by
  obtain ⟨k, hk, e⟩ := List.mem_map.mp hx
  have hk' : k < 11 := List.mem_range.mp hk
  rw [← e]
  exact Th.int (by omega)
 have n11 : ∀ {few : Nat} (ns : List Int), ((List.range ((11 : Int) - 0).toNat).map fun k : Nat => V.int (0 + (k : Int))) = ns.map V.int → Rise ns → few ≤ ns.length → ns.length ≤ 10 → False := fun ns e _ _ h => by
  have z := congrArg List.length e
  rw [l11, List.length_map] at z
  omega
 have t0 : ∀ {b : Addr}, M b = some (.lst []) → Th M (.ref b) 100 2 := fun hb => th_some hb (by decide) fun x hx => absurd hx List.not_mem_nil
 have zl : zq24.length = N9.length + 1 := by rw [pq24.length_eq, List.length_append]; rfl
 have zi : ∀ x ∈ zq24.map V.int, Th M x 3 1 := fun x hx => by
  obtain ⟨z, hz, e⟩ := List.mem_map.mp hx
  rw [← e]
  have hz2 := pq24.mem_iff.mp hz
  rcases List.mem_append.mp hz2 with h | h
  ·exact Th.int (by have := bN z h; omega)
  ·rw [List.mem_singleton.mp h]; exact Th.int (by have := bN one mone; omega)
 simp only [List.mem_cons, List.not_mem_nil, or_false] at mvL
 rcases mvL with e | e | e | e | e | e | e | e | e | e | e | e | e | e | e | e | e | e | e | e | e | e | e | e | e | e <;> rw [e]
 ·exact np_pair m_q12 (th_some m_q11 (by simp only [List.length_append, List.length_cons, List.length_nil]; omega) (in2 (in2 (icN mc2) (in1 iv.1)) (icN mc3))) tS (.inl (nr_lst m_q11 fun ns e r _ _ => no_neg (x := v1) (List.mem_append_left _ (List.mem_append_right _ List.mem_cons_self)) iv.2 ns e r))
 ·exact np_pair m_q18 tN (th_some m_q17 (by simp only [List.length_append, List.length_cons, List.length_nil]; omega) (in2 (in2 (icS mc4) (in1 iv.1)) (icS mc5))) (.inr (nr_lst m_q17 fun ns e r _ _ => no_neg (x := v1) (List.mem_append_left _ (List.mem_append_right _ List.mem_cons_self)) iv.2 ns e r))
 ·exact np_pair m_q20 (t0 m_q19) tS (.inl (nr_lst m_q19 fun ns e r f _ => by cases ns with | nil => exact absurd f (by decide) | cons x r => cases e))
 ·refine np_pair m_q25 (th_some m_q24 (by rw [List.length_map, zl]; omega) zi) tS (.inl (nr_lst m_q24 fun ns e r _ _ => ?_))
  have e2 : zq24 = ns := map_inj e
  have nd : (N9 ++ [one]).Nodup := pq24.nodup_iff.mp (by rw [e2]; exact r.up.imp fun h => by omega)
  exact (List.nodup_append.mp nd).2.2 one mone one List.mem_cons_self rfl
 ·refine np_pair m_q28 (th_some m_q27 (by simp only [List.length_append, List.length_cons, List.length_nil]; omega) (in2 iN (in1 (Th.int (by decide))))) tS (.inl (nr_lst m_q27 fun ns e r _ _ => ?_))
  have := no_last (List.mem_map.mpr ⟨x0, mx0, rfl⟩) ns e r
  omega
 ·refine np_pair m_q33 tN (th_some m_q32 (by simp only [List.length_append, List.length_cons, List.length_nil]; omega) (in2 (in2 iS (icS mc6)) (ini (by decide) (by decide)))) (.inr (nr_lst m_q32 fun ns e r _ _ => ?_))
  exact absurd (no_last2 ns e r) (by decide)
 ·exact np_pair m_q37 (th_some m_q36 (by rw [l11]; decide) i11) tS (.inl (nr_lst m_q36 n11))
 ·exact np_pair m_q39 tN (th_some m_q38 (by rw [l11]; decide) i11) (.inr (nr_lst m_q38 n11))
 ·exact np_pair m_q43 (th_some' m_q42 (by omega) iN) tS (.inl (nr_tup m_q42))
 ·exact np_pair m_q45 tN (th_some' m_q44 (by omega) iS) (.inr (nr_tup m_q44))
 ·exact np_tup m_q48 (fun x hx => by rw [List.mem_singleton.mp hx]; exact tN) (by show 1 ≤ 5; decide) (by show 1 ≠ 2; decide)
 ·refine np_tup m_q50 (fun x hx => ?_) (by show 3 ≤ 5; decide) (by show 3 ≠ 2; decide)
  simp only [List.mem_cons, List.not_mem_nil, or_false] at hx
  rcases hx with e | e | e <;> rw [e]
  ·exact tN
  ·exact tS
  ·exact t0 m_q49
 ·refine np_lst m_q51 (fun x hx => ?_) (by show 2 ≤ 15; decide)
  simp only [List.mem_cons, List.not_mem_nil, or_false] at hx
  rcases hx with e | e <;> rw [e]
  ·exact tN
  ·exact tS
 ·exact np_pair m_q52 tN Th.non (.inr nr_non)
 ·exact np_pair m_q53 Th.non tS (.inl nr_non)
 ·exact np_flat Th.non (fun t h => nomatch h)
 ·exact np_flat (Th.int (by decide)) (fun t h => nomatch h)
 ·exact np_flat (Th.str (by decide) (by decide)) (fun t h => nomatch h)
 ·exact np_lst m_q56 (fun x hx => absurd hx List.not_mem_nil) (by decide)
 ·exact np_tup m_q57 (fun x hx => absurd hx List.not_mem_nil) (by decide) (by decide)
 ·exact np_dct m_q58
 ·exact np_flat (Th.bl _) (fun t h => nomatch h)
 ·refine np_pair m_q61 (th_some m_q60 (by simp only [List.length_append, List.length_cons, List.length_nil]; omega) (in2 iS (ini (by decide) (by decide)))) tN (.inl (nr_lst m_q60 fun ns e r _ _ => ?_))
  exact absurd (no_last2 ns e r) (by decide)
 ·refine np_pair m_q64 (th_some m_q63 (by simp only [List.length_append, List.length_cons, List.length_nil]; omega) (in2 iN (in1 (Th.int (by have := bN la mla; omega))))) tS (.inl (nr_lst m_q63 fun ns e r _ _ => ?_))
  have := no_last (List.mem_map.mpr ⟨la, mla, rfl⟩) ns e r
  omega
 ·refine np_pair m_q70 tN (th_some m_q69 (by decide) (ini (by decide) (by decide))) (.inr (nr_lst m_q69 fun ns e r _ _ => ?_))
  exact absurd (no_last2 (cs := []) ns e r) (by decide)
 ·refine np_pair m_q74 tN (th_some m_q73 (by simp only [List.length_append, List.length_cons, List.length_nil]; omega) (in2 (icS mc7) (ini (by omega) (by omega)))) (.inr (nr_lst m_q73 fun ns e r _ _ => ?_))
  have := no_last2 ns e r
  omega
section
variable {f tk : Addr} {fd tkd : FuncData}
theorem scNop : FnScope ["store", "plan", "numbers", "sums", "at", "to", "odd", "one", "some", "great", "turned"] ["store", "plan"] (defScope sNop) := ⟨rfl, rfl, rfl, by decide +kernel, rfl, by decide +kernel, by decide +kernel⟩
set_option maxHeartbeats 0 in
theorem ok_nopT (F : Fun K "_law_no_plan" "_law_no_plan" sNop f fd) (B : BtR mg) (GT : FnOk P w K mg base CX0 1 tk tkd ["store", "many"] spTkT) (bT : Binds K tkd ["store", "many"] []) (kT : Kee K tk) (mT : mg "_law_take" = some (.ref tk)) : FnOk P w K mg base CX0 2 f fd ["store", "plan"] spNopT := by
 refine F.ok scNop (fun vs H Q E h => ?_) (fun cdv A outer s H0 vs Q E hr h => ?_)
 ·obtain ⟨d, t, a, b, ns, ss, rfl, _⟩ := h
  rfl
 obtain ⟨d, t, a, b, ns, ss, rfl, D, pl, b25, b26, q⟩ := h
 refine ⟨_, (@pss_cons _ _ _ _ _ (ps_asg (pv 1) (pg_tup rfl (pgs_cons (pg_name (i := 2) scNop.nd rfl (Or.inl rfl)) (pgs_cons (pg_name (i := 3) scNop.nd rfl (Or.inl rfl)) pgs_nil)))) (@pss_cons _ _ _ _ _ (ps_set (i := 2) scNop.nd rfl (Or.inl rfl) (pe_slice sl_list (pv 2) po_none (po_some pe_int))) (@pss_cons _ _ _ _ _ (ps_set (i := 3) scNop.nd rfl (Or.inl rfl) (pe_slice sl_list (pv 3) po_none (po_some pe_int))) (@pss_cons _ _ _ _ _ (ps_set (i := 4) scNop.nd rfl (Or.inl rfl) (pe_call GT hr rfl mT kT bT .nil pass0 (QA.h (qa_cons (QE.mk (pv 0)) (qa_cons (qe_op op_add (QE.mk (pe_callB call_len_seq rfl B.len PySem.boot_len (QA.h (qa_cons (QE.mk (pv 2)) qa_nil)))) (QE.mk pe_int)) qa_nil))))) (@pss_cons _ _ _ _ _ (ps_set (i := 5) scNop.nd rfl (Or.inl rfl) (pe_call GT hr rfl mT kT bT .nil pass0 (QA.h (qa_cons (QE.mk (pv 0)) (qa_cons (qe_op op_add (QE.mk (pe_callB call_len_seq rfl B.len PySem.boot_len (QA.h (qa_cons (QE.mk (pv 3)) qa_nil)))) (QE.mk pe_int)) qa_nil))))) (@pss_cons _ _ _ _ _ (ps_set (i := 6) scNop.nd rfl (Or.inl rfl) (pe_ix ix_list (pe_lst (QA.h (qa_cons (QE.mk (pe_un un_neg pe_int)) (qa_cons (QE.mk pe_bl) (qa_cons (QE.mk pe_bl) (qa_cons (QE.mk pe_non) (qa_cons (QE.mk pe_str) (qa_cons (qe_lst (qa_cons (QE.mk pe_int) qa_nil)) (qa_cons (qe_tup (qa_cons (QE.mk pe_int) qa_nil)) (qa_cons (qe_op op_sub (QE.mk pe_int) (qe_op op_pow (QE.mk pe_int) (QE.mk pe_int))) (qa_cons (QE.mk pe_dnewK) (qa_cons (qe_op op_sub (QE.mk (pe_ix ix_list (pv 2) pe_int (fun _ _ => rfl))) (qe_op op_mul (QE.mk pe_int) (qe_op op_pow (QE.mk pe_int) (QE.mk pe_int)))) qa_nil)))))))))))) (pe_call GT hr rfl mT kT bT .nil pass0 (QA.h (qa_cons (QE.mk (pv 0)) (qa_cons (QE.mk pe_int) qa_nil)))) (fun _ _ => rfl))) (@pss_cons _ _ _ _ _ (ps_set (i := 7) scNop.nd rfl (Or.inl rfl) (pe_ix ix_list (pv 2) (pe_call GT hr rfl mT kT bT .nil pass0 (QA.h (qa_cons (QE.mk (pv 0)) (qa_cons (QE.mk (pe_callB call_len_seq rfl B.len PySem.boot_len (QA.h (qa_cons (QE.mk (pv 2)) qa_nil)))) qa_nil)))) (fun _ _ => rfl))) (@pss_cons _ _ _ _ _ (ps_set (i := 8) scNop.nd rfl (Or.inl rfl) (QE.h (qe_lst (qa_cons (qe_tup (qa_cons (qe_op op_cat (qe_op op_cat (QE.mk (pe_slice sl_list (pv 2) po_none (po_some (pv 4)))) (qe_lst (qa_cons (QE.mk (pv 6)) qa_nil))) (QE.mk (pe_slice sl_list (pv 2) (po_some (pv 4)) po_none))) (qa_cons (QE.mk (pv 3)) qa_nil))) (qa_cons (qe_tup (qa_cons (QE.mk (pv 2)) (qa_cons (qe_op op_cat (qe_op op_cat (QE.mk (pe_slice sl_list (pv 3) po_none (po_some (pv 5)))) (qe_lst (qa_cons (QE.mk (pv 6)) qa_nil))) (QE.mk (pe_slice sl_list (pv 3) (po_some (pv 5)) po_none))) qa_nil))) (qa_cons (qe_tup (qa_cons (qe_lst qa_nil) (qa_cons (QE.mk (pv 3)) qa_nil))) qa_nil)))))) (@pss_cons _ _ _ _ _ (ps_set (i := 8) scNop.nd rfl (Or.inl rfl) (QE.h (qe_op op_cat (QE.mk (pv 8)) (qe_lst (qa_cons (qe_tup (qa_cons (QE.mk (pe_callB call_sorted rfl B.sorted boot_sorted (QA.h (qa_cons (qe_op op_cat (QE.mk (pv 2)) (qe_lst (qa_cons (QE.mk (pv 7)) qa_nil))) qa_nil)))) (qa_cons (QE.mk (pv 3)) qa_nil))) (qa_cons (qe_tup (qa_cons (qe_op op_cat (QE.mk (pv 2)) (qe_lst (qa_cons (QE.mk pe_int) qa_nil))) (qa_cons (QE.mk (pv 3)) qa_nil))) (qa_cons (qe_tup (qa_cons (QE.mk (pv 2)) (qa_cons (qe_op op_cat (qe_op op_cat (QE.mk (pv 3)) (QE.mk (pe_slice sl_list (pv 3) (po_some (pe_un un_neg pe_int)) po_none))) (qe_lst (qa_cons (QE.mk pe_int) (qa_cons (QE.mk pe_int) qa_nil)))) qa_nil))) qa_nil))))))) (@pss_cons _ _ _ _ _ (ps_set (i := 8) scNop.nd rfl (Or.inl rfl) (QE.h (qe_op op_cat (QE.mk (pv 8)) (qe_lst (qa_cons (qe_tup (qa_cons (QE.mk (pe_list_range1 rfl rfl B.range rfl B.list (QA.h (qa_cons (QE.mk pe_int) qa_nil)))) (qa_cons (QE.mk (pv 3)) qa_nil))) (qa_cons (qe_tup (qa_cons (QE.mk (pv 2)) (qa_cons (QE.mk (pe_list_range1 rfl rfl B.range rfl B.list (QA.h (qa_cons (QE.mk pe_int) qa_nil)))) qa_nil))) qa_nil)))))) (@pss_cons _ _ _ _ _ (ps_set (i := 8) scNop.nd rfl (Or.inl rfl) (QE.h (qe_op op_cat (QE.mk (pv 8)) (qe_lst (qa_cons (qe_tup (qa_cons (QE.mk (pe_callTy call_tuple_of rfl B.tuple PyProof.Rows.boot_tuple (QA.h (qa_cons (QE.mk (pv 2)) qa_nil)))) (qa_cons (QE.mk (pv 3)) qa_nil))) (qa_cons (qe_tup (qa_cons (QE.mk (pv 2)) (qa_cons (QE.mk (pe_callTy call_tuple_of rfl B.tuple PyProof.Rows.boot_tuple (QA.h (qa_cons (QE.mk (pv 3)) qa_nil)))) qa_nil))) qa_nil)))))) (@pss_cons _ _ _ _ _ (ps_set (i := 8) scNop.nd rfl (Or.inl rfl) (QE.h (qe_op op_cat (QE.mk (pv 8)) (qe_lst (qa_cons (qe_tup (qa_cons (QE.mk (pv 2)) qa_nil)) (qa_cons (qe_tup (qa_cons (QE.mk (pv 2)) (qa_cons (QE.mk (pv 3)) (qa_cons (qe_lst qa_nil) qa_nil)))) (qa_cons (qe_lst (qa_cons (QE.mk (pv 2)) (qa_cons (QE.mk (pv 3)) qa_nil))) (qa_cons (qe_tup (qa_cons (QE.mk (pv 2)) (qa_cons (QE.mk pe_non) qa_nil))) (qa_cons (qe_tup (qa_cons (QE.mk pe_non) (qa_cons (QE.mk (pv 3)) qa_nil))) qa_nil))))))))) (@pss_cons _ _ _ _ _ (ps_set (i := 8) scNop.nd rfl (Or.inl rfl) (QE.h (qe_op op_cat (QE.mk (pv 8)) (qe_lst (qa_cons (QE.mk pe_non) (qa_cons (QE.mk pe_int) (qa_cons (QE.mk pe_str) (qa_cons (qe_lst qa_nil) (qa_cons (qe_tup qa_nil) (qa_cons (QE.mk pe_dnewK) (qa_cons (QE.mk pe_bl) (qa_cons (qe_tup (qa_cons (qe_op op_cat (QE.mk (pv 3)) (qe_lst (qa_cons (QE.mk pe_int) (qa_cons (QE.mk pe_int) qa_nil)))) (qa_cons (QE.mk (pv 2)) qa_nil))) (qa_cons (qe_tup (qa_cons (qe_op op_cat (QE.mk (pv 2)) (qe_lst (qa_cons (QE.mk (pe_ix ix_list (pv 2) (pe_un un_neg pe_int) (fun _ _ => rfl))) qa_nil))) (qa_cons (QE.mk (pv 3)) qa_nil))) qa_nil))))))))))))) (@pss_cons _ _ _ _ _ (ps_set (i := 9) scNop.nd rfl (Or.inl rfl) (pe_ix ix_list (pe_op op_cat (pe_lst (QA.h (qa_cons (QE.mk pe_int) qa_nil))) (pv 3)) (pe_un un_neg pe_int) (fun _ _ => rfl))) (@pss_cons _ _ _ _ _ (ps_set (i := 10) scNop.nd rfl (Or.inl rfl) (QE.h (qe_lst (qa_cons (qe_tup (qa_cons (QE.mk (pv 2)) (qa_cons (qe_lst (qa_cons (QE.mk pe_int) (qa_cons (QE.mk pe_int) qa_nil))) qa_nil))) (qa_cons (qe_tup (qa_cons (QE.mk (pv 2)) (qa_cons (qe_op op_cat (QE.mk (pe_slice sl_list (pv 3) po_none (po_some pe_int))) (qe_lst (qa_cons (qe_op op_add (QE.mk (pv 9)) (QE.mk pe_int)) (qa_cons (qe_op op_add (QE.mk (pv 9)) (QE.mk pe_int)) qa_nil)))) qa_nil))) qa_nil))))) (@pss_one _ _ _ (ps_ret (pe_ix ix_list (pe_op op_cat (pv 8) (pv 10)) (pe_call GT hr rfl mT kT bT .nil pass0 (QA.h (qa_cons (QE.mk (pv 0)) (qa_cons (QE.mk pe_int) qa_nil)))) (fun _ _ => rfl))))))))))))))))))), ?_⟩
 have L0 : Lv d H0 H0 [] := Lv.start D
 refine ⟨_, rfl, t, _, rfl, SqT.of (L0.old pl.t), rfl, _, _, rfl, _, _, rfl, rfl, ?_⟩
 have rN : Rise (ns.take 9) := ⟨pl.ok.n.up.sublist (List.take_sublist _ _), fun x hx => pl.ok.n.bd x (List.mem_of_mem_take hx)⟩
 have lN : 1 ≤ (ns.take 9).length ∧ (ns.take 9).length ≤ 9 := by rw [List.length_take]; have := pl.ok.n1; omega
 have bN : ∀ x ∈ ns.take 9, 0 ≤ x ∧ x < 5 * 10 ^ 25 := fun x hx => ⟨rN.bd x hx, b25 x (List.mem_of_mem_take hx)⟩
 have lS : (ss.take 9).length ≤ 9 := by rw [List.length_take]; omega
 have bS : ∀ x ∈ ss.take 9, 0 ≤ x ∧ x < 10 ^ 26 := fun x hx => ⟨pl.ok.s.bd x (List.mem_of_mem_take hx), b26 x (List.mem_of_mem_take hx)⟩
 refine ⟨_, rfl, _, rfl, a, _, rfl, SqL.of (L0.old pl.a), ?_⟩
 rw [show cutV (ns.map V.int) none (some 9) = (ns.take 9).map V.int from cut_take ns 9]
 generalize ns.take 9 = N9 at rN lN bN ⊢
 intro q1 hq1
 have L1 := L0.new hq1 (.lst (N9.map V.int))
 generalize upd H0 q1 (.lst (N9.map V.int)) = H1 at L1 ⊢
 refine ⟨_, rfl, _, rfl, b, _, rfl, SqL.of (L1.old pl.b), ?_⟩
 rw [show cutV (ss.map V.int) none (some 9) = (ss.take 9).map V.int from cut_take ss 9]
 generalize ss.take 9 = S9 at lS bS ⊢
 intro q2 hq2
 have L2 := L1.new hq2 (.lst (S9.map V.int))
 generalize upd H1 q2 (.lst (S9.map V.int)) = H2 at L2 ⊢
 dsimp only [gName]
 refine st_eq (σ' := [some (.ref d), some (.ref t), some (.ref q1), some (.ref q2), none, none, none, none, none, none, none]) rfl ?_
 obtain ⟨lN1, lN9⟩ := lN
 obtain ⟨x0, hx0, mx0⟩ := pick_int N9 (r := 0) (by decide) (by omega)
 obtain ⟨la, hla, mla⟩ := last_inT lN1
 obtain ⟨gr, hgr', mgr⟩ := last_inT (R := 0 :: S9) (by rw [List.length_cons]; omega)
 have hgr : atI ([V.int 0] ++ S9.map V.int) (-1) = some (.int gr) := hgr'
 have gb : 0 ≤ gr ∧ gr < 10 ^ 26 := by
  rcases List.mem_cons.mp mgr with e | e
  ·rw [e]; decide
  ·exact bS gr e
 have x0b := bN x0 mx0
 have GA : Same (msk (S1 d) H0) (msk (S1 d) H0) := fun _ _ h => h
 have m_q2 := L2.m (q := q2) (o := .lst (S9.map V.int)) (by repeat (first | exact List.mem_cons_self | apply List.mem_cons_of_mem))
 have m_q1 := L2.m (q := q1) (o := .lst (N9.map V.int)) (by repeat (first | exact List.mem_cons_self | apply List.mem_cons_of_mem))
 replace GA : Same (msk (S1 d) H0) (msk (S1 d) H2) := fun b u e => L2.G _ _ (GA b u e)
 replace L2 := Lv.start L2.D
 refine ⟨_, rfl, _, rfl, q1, _, rfl, .inl (SqL.of (L2.old m_q1)), _, _, rfl, rfl, d, _, rfl, L2.D, (by (try simp only [List.length_append, List.length_cons, List.length_nil, List.length_map, List.length_reverse]); omega), Int.lt_of_lt_of_le (show _ < (40 : Int) by (try simp only [List.length_append, List.length_cons, List.length_nil, List.length_map]); omega) (by decide), ?_⟩
 intro r1 H3 r10 r11 D3 o3
 have L3 := L2.mv D3 (off_msk o3)
 clear L2 D3 o3
 simp only [List.length_append, List.length_cons, List.length_nil, List.length_map] at r11
 replace m_q2 := L3.G _ _ m_q2
 replace m_q1 := L3.G _ _ m_q1
 replace GA : Same (msk (S1 d) H0) (msk (S1 d) H3) := fun b u e => L3.G _ _ (GA b u e)
 replace L3 := Lv.start L3.D
 dsimp only [gName]
 refine st_eq (σ' := [some (.ref d), some (.ref t), some (.ref q1), some (.ref q2), some (.int r1), none, none, none, none, none, none]) rfl ?_
 refine ⟨_, rfl, _, rfl, q2, _, rfl, .inl (SqL.of (L3.old m_q2)), _, _, rfl, rfl, d, _, rfl, L3.D, (by (try simp only [List.length_append, List.length_cons, List.length_nil, List.length_map, List.length_reverse]); omega), Int.lt_of_lt_of_le (show _ < (40 : Int) by (try simp only [List.length_append, List.length_cons, List.length_nil, List.length_map]); omega) (by decide), ?_⟩
 intro r2 H4 r20 r21 D4 o4
 have L4 := L3.mv D4 (off_msk o4)
 clear L3 D4 o4
 simp only [List.length_append, List.length_cons, List.length_nil, List.length_map] at r21
 replace m_q2 := L4.G _ _ m_q2
 replace m_q1 := L4.G _ _ m_q1
 replace GA : Same (msk (S1 d) H0) (msk (S1 d) H4) := fun b u e => L4.G _ _ (GA b u e)
 replace L4 := Lv.start L4.D
 dsimp only [gName]
 refine st_eq (σ' := [some (.ref d), some (.ref t), some (.ref q1), some (.ref q2), some (.int r1), some (.int r2), none, none, none, none, none]) rfl ?_
 refine ⟨_, rfl, (by show 1 ≤ sizeLine; decide), ?_⟩
 intro q3 hq3
 have L5 := L4.new hq3 (.lst [.int 1])
 generalize upd H4 q3 (.lst [.int 1]) = H5 at L5 ⊢
 clear L4 hq3
 refine ⟨(by show 1 ≤ sizeLine; decide), ?_⟩
 intro q4 hq4
 have L6 := L5.new hq4 (.tup [.int 1])
 generalize upd H5 q4 (.tup [.int 1]) = H6 at L6 ⊢
 clear L5 hq4
 refine ⟨_, _, rfl, rfl, ⟨by decide, by decide, by decide⟩, _, _, rfl, rfl, ?_⟩
 intro q5 hq5
 have L7 := L6.new hq5 (.dK [])
 generalize upd H6 q5 (.dK []) = H7 at L7 ⊢
 clear L6 hq5
 refine ⟨_, rfl, q1, _, 0, .int x0, rfl, rfl, SqL.of (L7.old m_q1), hx0, _, _, rfl, rfl, ⟨by decide, by decide, by decide⟩, _, _, rfl, rfl, .inl ⟨by decide, by decide⟩, _, _, rfl, rfl, (by show 10 ≤ sizeLine; decide), ?_⟩
 intro q6 hq6
 have L8 := L7.new hq6 (.lst [.int (-1), .bl true, .bl false, .non, .str "1", .ref q3, .ref q4, .int (0 - ((10 : Int) ^ (20 : Int).toNat)), .ref q5, .int (x0 - (9 * ((10 : Int) ^ (25 : Int).toNat)))])
 generalize upd H7 q6 (.lst [.int (-1), .bl true, .bl false, .non, .str "1", .ref q3, .ref q4, .int (0 - ((10 : Int) ^ (20 : Int).toNat)), .ref q5, .int (x0 - (9 * ((10 : Int) ^ (25 : Int).toNat)))]) = H8 at L8 ⊢
 clear L7 hq6
 refine ⟨_, rfl, d, _, rfl, L8.D, by decide, by decide, ?_⟩
 intro r3 H9 r30 r31 D9 o9
 have L9 := L8.mv D9 (off_msk o9)
 clear L8 D9 o9
 obtain ⟨v1, hv1, mv1⟩ := pick_any (xs := [(.int (-1) : V), (.bl true : V), (.bl false : V), (.non : V), (.str "1" : V), (.ref q3 : V), (.ref q4 : V), (.int (0 - ((10 : Int) ^ (20 : Int).toNat)) : V), (.ref q5 : V), (.int (x0 - (9 * ((10 : Int) ^ (25 : Int).toNat))) : V)]) r30 r31
 refine ⟨q6, _, r3, v1, rfl, rfl, SqL.of (L9.at (by repeat (first | exact List.mem_cons_self | apply List.mem_cons_of_mem))), hv1, ?_⟩
 replace m_q2 := L9.G _ _ m_q2
 replace m_q1 := L9.G _ _ m_q1
 have m_q6 := L9.m (q := q6) (o := .lst [.int (-1), .bl true, .bl false, .non, .str "1", .ref q3, .ref q4, .int (0 - ((10 : Int) ^ (20 : Int).toNat)), .ref q5, .int (x0 - (9 * ((10 : Int) ^ (25 : Int).toNat)))]) (by repeat (first | exact List.mem_cons_self | apply List.mem_cons_of_mem))
 have m_q5 := L9.m (q := q5) (o := .dK []) (by repeat (first | exact List.mem_cons_self | apply List.mem_cons_of_mem))
 have m_q4 := L9.m (q := q4) (o := .tup [.int 1]) (by repeat (first | exact List.mem_cons_self | apply List.mem_cons_of_mem))
 have m_q3 := L9.m (q := q3) (o := .lst [.int 1]) (by repeat (first | exact List.mem_cons_self | apply List.mem_cons_of_mem))
 replace GA : Same (msk (S1 d) H0) (msk (S1 d) H9) := fun b u e => L9.G _ _ (GA b u e)
 replace L9 := Lv.start L9.D
 dsimp only [gName]
 refine st_eq (σ' := [some (.ref d), some (.ref t), some (.ref q1), some (.ref q2), some (.int r1), some (.int r2), some (v1), none, none, none, none]) rfl ?_
 refine ⟨_, rfl, _, rfl, _, rfl, q1, _, rfl, .inl (SqL.of (L9.old m_q1)), d, _, rfl, L9.D, (by (try simp only [List.length_append, List.length_cons, List.length_nil, List.length_map, List.length_reverse]); omega), Int.lt_of_lt_of_le (show _ < (40 : Int) by (try simp only [List.length_append, List.length_cons, List.length_nil, List.length_map]); omega) (by decide), ?_⟩
 intro r4 H10 r40 r41 D10 o10
 have L10 := L9.mv D10 (off_msk o10)
 clear L9 D10 o10
 simp only [List.length_append, List.length_cons, List.length_nil, List.length_map] at r41
 obtain ⟨one, hone, mone⟩ := pick_int N9 r40 (by omega)
 refine ⟨q1, _, r4, .int one, rfl, rfl, SqL.of (L10.old m_q1), hone, ?_⟩
 replace m_q2 := L10.G _ _ m_q2
 replace m_q1 := L10.G _ _ m_q1
 replace m_q6 := L10.G _ _ m_q6
 replace m_q5 := L10.G _ _ m_q5
 replace m_q4 := L10.G _ _ m_q4
 replace m_q3 := L10.G _ _ m_q3
 replace GA : Same (msk (S1 d) H0) (msk (S1 d) H10) := fun b u e => L10.G _ _ (GA b u e)
 replace L10 := Lv.start L10.D
 dsimp only [gName]
 refine st_eq (σ' := [some (.ref d), some (.ref t), some (.ref q1), some (.ref q2), some (.int r1), some (.int r2), some (v1), some (.int one), none, none, none]) rfl ?_
 refine ⟨_, rfl, _, rfl, _, rfl, q1, _, rfl, SqL.of (L10.old m_q1), ?_⟩
 have lc2 : (cutV (N9.map V.int) none (some r1)).length ≤ ((N9.map V.int)).length := cutV_length _ _ _
 have mc2 : ∀ x ∈ cutV (N9.map V.int) none (some r1), x ∈ (N9.map V.int) := fun x hx => cut_mem hx
 generalize hc2 : cutV (N9.map V.int) none (some r1) = c2 at lc2 mc2 ⊢
 (try simp only [List.length_map, List.length_append, List.length_cons, List.length_nil] at lc2)
 intro q7 hq7
 have L11 := L10.new hq7 (.lst c2)
 generalize upd H10 q7 (.lst c2) = H11 at L11 ⊢
 clear L10 hq7
 refine ⟨_, rfl, (by show 1 ≤ sizeLine; decide), ?_⟩
 intro q8 hq8
 have L12 := L11.new hq8 (.lst [v1])
 generalize upd H11 q8 (.lst [v1]) = H12 at L12 ⊢
 clear L11 hq8
 refine ⟨q7, q8, _, _, rfl, rfl, L12.at (by repeat (first | exact List.mem_cons_self | apply List.mem_cons_of_mem)), L12.at (by repeat (first | exact List.mem_cons_self | apply List.mem_cons_of_mem)), small (by (try simp only [List.length_append, List.length_cons, List.length_nil, List.length_map, List.length_reverse]); omega), ?_⟩
 intro q9 hq9
 have L13 := L12.new hq9 (.lst (c2 ++ [v1]))
 generalize upd H12 q9 (.lst (c2 ++ [v1])) = H13 at L13 ⊢
 clear L12 hq9
 replace L13 := L13.drop2
 refine ⟨_, rfl, _, rfl, _, rfl, q1, _, rfl, SqL.of (L13.old m_q1), ?_⟩
 have lc3 : (cutV (N9.map V.int) (some r1) none).length ≤ ((N9.map V.int)).length := cutV_length _ _ _
 have mc3 : ∀ x ∈ cutV (N9.map V.int) (some r1) none, x ∈ (N9.map V.int) := fun x hx => cut_mem hx
 generalize hc3 : cutV (N9.map V.int) (some r1) none = c3 at lc3 mc3 ⊢
 (try simp only [List.length_map, List.length_append, List.length_cons, List.length_nil] at lc3)
 intro q10 hq10
 have L14 := L13.new hq10 (.lst c3)
 generalize upd H13 q10 (.lst c3) = H14 at L14 ⊢
 clear L13 hq10
 refine ⟨q9, q10, _, _, rfl, rfl, L14.at (by repeat (first | exact List.mem_cons_self | apply List.mem_cons_of_mem)), L14.at (by repeat (first | exact List.mem_cons_self | apply List.mem_cons_of_mem)), small (by (try simp only [List.length_append, List.length_cons, List.length_nil, List.length_map, List.length_reverse]); omega), ?_⟩
 intro q11 hq11
 have L15 := L14.new hq11 (.lst ((c2 ++ [v1]) ++ c3))
 generalize upd H14 q11 (.lst ((c2 ++ [v1]) ++ c3)) = H15 at L15 ⊢
 clear L14 hq11
 replace L15 := L15.drop2
 refine ⟨_, rfl, two_le, ?_⟩
 intro q12 hq12
 have L16 := L15.new hq12 (.tup [.ref q11, .ref q2])
 generalize upd H15 q12 (.tup [.ref q11, .ref q2]) = H16 at L16 ⊢
 clear L15 hq12
 refine ⟨_, rfl, _, rfl, _, rfl, _, rfl, q2, _, rfl, SqL.of (L16.old m_q2), ?_⟩
 have lc4 : (cutV (S9.map V.int) none (some r2)).length ≤ ((S9.map V.int)).length := cutV_length _ _ _
 have mc4 : ∀ x ∈ cutV (S9.map V.int) none (some r2), x ∈ (S9.map V.int) := fun x hx => cut_mem hx
 generalize hc4 : cutV (S9.map V.int) none (some r2) = c4 at lc4 mc4 ⊢
 (try simp only [List.length_map, List.length_append, List.length_cons, List.length_nil] at lc4)
 intro q13 hq13
 have L17 := L16.new hq13 (.lst c4)
 generalize upd H16 q13 (.lst c4) = H17 at L17 ⊢
 clear L16 hq13
 refine ⟨_, rfl, (by show 1 ≤ sizeLine; decide), ?_⟩
 intro q14 hq14
 have L18 := L17.new hq14 (.lst [v1])
 generalize upd H17 q14 (.lst [v1]) = H18 at L18 ⊢
 clear L17 hq14
 refine ⟨q13, q14, _, _, rfl, rfl, L18.at (by repeat (first | exact List.mem_cons_self | apply List.mem_cons_of_mem)), L18.at (by repeat (first | exact List.mem_cons_self | apply List.mem_cons_of_mem)), small (by (try simp only [List.length_append, List.length_cons, List.length_nil, List.length_map, List.length_reverse]); omega), ?_⟩
 intro q15 hq15
 have L19 := L18.new hq15 (.lst (c4 ++ [v1]))
 generalize upd H18 q15 (.lst (c4 ++ [v1])) = H19 at L19 ⊢
 clear L18 hq15
 replace L19 := L19.drop2
 refine ⟨_, rfl, _, rfl, _, rfl, q2, _, rfl, SqL.of (L19.old m_q2), ?_⟩
 have lc5 : (cutV (S9.map V.int) (some r2) none).length ≤ ((S9.map V.int)).length := cutV_length _ _ _
 have mc5 : ∀ x ∈ cutV (S9.map V.int) (some r2) none, x ∈ (S9.map V.int) := fun x hx => cut_mem hx
 generalize hc5 : cutV (S9.map V.int) (some r2) none = c5 at lc5 mc5 ⊢
 (try simp only [List.length_map, List.length_append, List.length_cons, List.length_nil] at lc5)
 intro q16 hq16
 have L20 := L19.new hq16 (.lst c5)
 generalize upd H19 q16 (.lst c5) = H20 at L20 ⊢
 clear L19 hq16
 refine ⟨q15, q16, _, _, rfl, rfl, L20.at (by repeat (first | exact List.mem_cons_self | apply List.mem_cons_of_mem)), L20.at (by repeat (first | exact List.mem_cons_self | apply List.mem_cons_of_mem)), small (by (try simp only [List.length_append, List.length_cons, List.length_nil, List.length_map, List.length_reverse]); omega), ?_⟩
 intro q17 hq17
 have L21 := L20.new hq17 (.lst ((c4 ++ [v1]) ++ c5))
 generalize upd H20 q17 (.lst ((c4 ++ [v1]) ++ c5)) = H21 at L21 ⊢
 clear L20 hq17
 replace L21 := L21.drop2
 refine ⟨two_le, ?_⟩
 intro q18 hq18
 have L22 := L21.new hq18 (.tup [.ref q1, .ref q17])
 generalize upd H21 q18 (.tup [.ref q1, .ref q17]) = H22 at L22 ⊢
 clear L21 hq18
 refine ⟨(by show 0 ≤ sizeLine; decide), ?_⟩
 intro q19 hq19
 have L23 := L22.new hq19 (.lst [])
 generalize upd H22 q19 (.lst []) = H23 at L23 ⊢
 clear L22 hq19
 refine ⟨_, rfl, two_le, ?_⟩
 intro q20 hq20
 have L24 := L23.new hq20 (.tup [.ref q19, .ref q2])
 generalize upd H23 q20 (.tup [.ref q19, .ref q2]) = H24 at L24 ⊢
 clear L23 hq20
 refine ⟨(by show 3 ≤ sizeLine; decide), ?_⟩
 intro q21 hq21
 have L25 := L24.new hq21 (.lst [.ref q12, .ref q18, .ref q20])
 generalize upd H24 q21 (.lst [.ref q12, .ref q18, .ref q20]) = H25 at L25 ⊢
 clear L24 hq21
 replace m_q2 := L25.G _ _ m_q2
 replace m_q1 := L25.G _ _ m_q1
 replace m_q6 := L25.G _ _ m_q6
 replace m_q5 := L25.G _ _ m_q5
 replace m_q4 := L25.G _ _ m_q4
 replace m_q3 := L25.G _ _ m_q3
 have m_q21 := L25.m (q := q21) (o := .lst [.ref q12, .ref q18, .ref q20]) (by repeat (first | exact List.mem_cons_self | apply List.mem_cons_of_mem))
 have m_q20 := L25.m (q := q20) (o := .tup [.ref q19, .ref q2]) (by repeat (first | exact List.mem_cons_self | apply List.mem_cons_of_mem))
 have m_q19 := L25.m (q := q19) (o := .lst []) (by repeat (first | exact List.mem_cons_self | apply List.mem_cons_of_mem))
 have m_q18 := L25.m (q := q18) (o := .tup [.ref q1, .ref q17]) (by repeat (first | exact List.mem_cons_self | apply List.mem_cons_of_mem))
 have m_q17 := L25.m (q := q17) (o := .lst ((c4 ++ [v1]) ++ c5)) (by repeat (first | exact List.mem_cons_self | apply List.mem_cons_of_mem))
 have m_q12 := L25.m (q := q12) (o := .tup [.ref q11, .ref q2]) (by repeat (first | exact List.mem_cons_self | apply List.mem_cons_of_mem))
 have m_q11 := L25.m (q := q11) (o := .lst ((c2 ++ [v1]) ++ c3)) (by repeat (first | exact List.mem_cons_self | apply List.mem_cons_of_mem))
 replace GA : Same (msk (S1 d) H0) (msk (S1 d) H25) := fun b u e => L25.G _ _ (GA b u e)
 replace L25 := Lv.start L25.D
 dsimp only [gName]
 refine st_eq (σ' := [some (.ref d), some (.ref t), some (.ref q1), some (.ref q2), some (.int r1), some (.int r2), some (v1), some (.int one), some (.ref q21), none, none]) rfl ?_
 refine ⟨_, rfl, _, rfl, _, rfl, (by show 1 ≤ sizeLine; decide), ?_⟩
 intro q22 hq22
 have L26 := L25.new hq22 (.lst [.int one])
 generalize upd H25 q22 (.lst [.int one]) = H26 at L26 ⊢
 clear L25 hq22
 refine ⟨q1, q22, _, _, rfl, rfl, L26.old m_q1, L26.at (by repeat (first | exact List.mem_cons_self | apply List.mem_cons_of_mem)), small (by (try simp only [List.length_append, List.length_cons, List.length_nil, List.length_map, List.length_reverse]); omega), ?_⟩
 intro q23 hq23
 have L27 := L26.new hq23 (.lst ((N9.map V.int) ++ [.int one]))
 generalize upd H26 q23 (.lst ((N9.map V.int) ++ [.int one])) = H27 at L27 ⊢
 clear L26 hq23
 replace L27 := L27.drop1
 refine ⟨q23, (N9 ++ [one]), rfl, (by (try simp only [List.map_append, List.map_cons, List.map_nil]); exact SqL.of (L27.at (by repeat (first | exact List.mem_cons_self | apply List.mem_cons_of_mem)))), (by (try simp only [List.length_append, List.length_cons, List.length_nil]); omega), ?_⟩
 intro q24 zq24 hq24 pq24 oq24
 have L28 := L27.new hq24 (.lst (zq24.map V.int))
 generalize upd H27 q24 (.lst (zq24.map V.int)) = H28 at L28 ⊢
 clear L27 hq24
 replace L28 := L28.drop1
 refine ⟨_, rfl, two_le, ?_⟩
 intro q25 hq25
 have L29 := L28.new hq25 (.tup [.ref q24, .ref q2])
 generalize upd H28 q25 (.tup [.ref q24, .ref q2]) = H29 at L29 ⊢
 clear L28 hq25
 refine ⟨_, rfl, (by show 1 ≤ sizeLine; decide), ?_⟩
 intro q26 hq26
 have L30 := L29.new hq26 (.lst [.int 0])
 generalize upd H29 q26 (.lst [.int 0]) = H30 at L30 ⊢
 clear L29 hq26
 refine ⟨q1, q26, _, _, rfl, rfl, L30.old m_q1, L30.at (by repeat (first | exact List.mem_cons_self | apply List.mem_cons_of_mem)), small (by (try simp only [List.length_append, List.length_cons, List.length_nil, List.length_map, List.length_reverse]); omega), ?_⟩
 intro q27 hq27
 have L31 := L30.new hq27 (.lst ((N9.map V.int) ++ [.int 0]))
 generalize upd H30 q27 (.lst ((N9.map V.int) ++ [.int 0])) = H31 at L31 ⊢
 clear L30 hq27
 replace L31 := L31.drop1
 refine ⟨_, rfl, two_le, ?_⟩
 intro q28 hq28
 have L32 := L31.new hq28 (.tup [.ref q27, .ref q2])
 generalize upd H31 q28 (.tup [.ref q27, .ref q2]) = H32 at L32 ⊢
 clear L31 hq28
 refine ⟨_, rfl, _, rfl, _, rfl, _, rfl, _, rfl, q2, _, rfl, SqL.of (L32.old m_q2), ?_⟩
 have lc6 : (cutV (S9.map V.int) (some (-1)) none).length ≤ ((S9.map V.int)).length := cutV_length _ _ _
 have mc6 : ∀ x ∈ cutV (S9.map V.int) (some (-1)) none, x ∈ (S9.map V.int) := fun x hx => cut_mem hx
 generalize hc6 : cutV (S9.map V.int) (some (-1)) none = c6 at lc6 mc6 ⊢
 (try simp only [List.length_map, List.length_append, List.length_cons, List.length_nil] at lc6)
 intro q29 hq29
 have L33 := L32.new hq29 (.lst c6)
 generalize upd H32 q29 (.lst c6) = H33 at L33 ⊢
 clear L32 hq29
 refine ⟨q2, q29, _, _, rfl, rfl, L33.old m_q2, L33.at (by repeat (first | exact List.mem_cons_self | apply List.mem_cons_of_mem)), small (by (try simp only [List.length_append, List.length_cons, List.length_nil, List.length_map, List.length_reverse]); omega), ?_⟩
 intro q30 hq30
 have L34 := L33.new hq30 (.lst ((S9.map V.int) ++ c6))
 generalize upd H33 q30 (.lst ((S9.map V.int) ++ c6)) = H34 at L34 ⊢
 clear L33 hq30
 replace L34 := L34.drop1
 refine ⟨two_le, ?_⟩
 intro q31 hq31
 have L35 := L34.new hq31 (.lst [.int 0, .int 0])
 generalize upd H34 q31 (.lst [.int 0, .int 0]) = H35 at L35 ⊢
 clear L34 hq31
 refine ⟨q30, q31, _, _, rfl, rfl, L35.at (by repeat (first | exact List.mem_cons_self | apply List.mem_cons_of_mem)), L35.at (by repeat (first | exact List.mem_cons_self | apply List.mem_cons_of_mem)), small (by (try simp only [List.length_append, List.length_cons, List.length_nil, List.length_map, List.length_reverse]); omega), ?_⟩
 intro q32 hq32
 have L36 := L35.new hq32 (.lst (((S9.map V.int) ++ c6) ++ [.int 0, .int 0]))
 generalize upd H35 q32 (.lst (((S9.map V.int) ++ c6) ++ [.int 0, .int 0])) = H36 at L36 ⊢
 clear L35 hq32
 replace L36 := L36.drop2
 refine ⟨two_le, ?_⟩
 intro q33 hq33
 have L37 := L36.new hq33 (.tup [.ref q1, .ref q32])
 generalize upd H36 q33 (.tup [.ref q1, .ref q32]) = H37 at L37 ⊢
 clear L36 hq33
 refine ⟨(by show 3 ≤ sizeLine; decide), ?_⟩
 intro q34 hq34
 have L38 := L37.new hq34 (.lst [.ref q25, .ref q28, .ref q33])
 generalize upd H37 q34 (.lst [.ref q25, .ref q28, .ref q33]) = H38 at L38 ⊢
 clear L37 hq34
 refine ⟨q21, q34, _, _, rfl, rfl, L38.old m_q21, L38.at (by repeat (first | exact List.mem_cons_self | apply List.mem_cons_of_mem)), small (by (try simp only [List.length_append, List.length_cons, List.length_nil, List.length_map, List.length_reverse]); omega), ?_⟩
 intro q35 hq35
 have L39 := L38.new hq35 (.lst ([.ref q12, .ref q18, .ref q20] ++ [.ref q25, .ref q28, .ref q33]))
 generalize upd H38 q35 (.lst ([.ref q12, .ref q18, .ref q20] ++ [.ref q25, .ref q28, .ref q33])) = H39 at L39 ⊢
 clear L38 hq35
 replace L39 := L39.drop1
 replace m_q2 := L39.G _ _ m_q2
 replace m_q1 := L39.G _ _ m_q1
 replace m_q6 := L39.G _ _ m_q6
 replace m_q5 := L39.G _ _ m_q5
 replace m_q4 := L39.G _ _ m_q4
 replace m_q3 := L39.G _ _ m_q3
 replace m_q21 := L39.G _ _ m_q21
 replace m_q20 := L39.G _ _ m_q20
 replace m_q19 := L39.G _ _ m_q19
 replace m_q18 := L39.G _ _ m_q18
 replace m_q17 := L39.G _ _ m_q17
 replace m_q12 := L39.G _ _ m_q12
 replace m_q11 := L39.G _ _ m_q11
 have m_q35 := L39.m (q := q35) (o := .lst ([.ref q12, .ref q18, .ref q20] ++ [.ref q25, .ref q28, .ref q33])) (by repeat (first | exact List.mem_cons_self | apply List.mem_cons_of_mem))
 have m_q33 := L39.m (q := q33) (o := .tup [.ref q1, .ref q32]) (by repeat (first | exact List.mem_cons_self | apply List.mem_cons_of_mem))
 have m_q32 := L39.m (q := q32) (o := .lst (((S9.map V.int) ++ c6) ++ [.int 0, .int 0])) (by repeat (first | exact List.mem_cons_self | apply List.mem_cons_of_mem))
 have m_q28 := L39.m (q := q28) (o := .tup [.ref q27, .ref q2]) (by repeat (first | exact List.mem_cons_self | apply List.mem_cons_of_mem))
 have m_q27 := L39.m (q := q27) (o := .lst ((N9.map V.int) ++ [.int 0])) (by repeat (first | exact List.mem_cons_self | apply List.mem_cons_of_mem))
 have m_q25 := L39.m (q := q25) (o := .tup [.ref q24, .ref q2]) (by repeat (first | exact List.mem_cons_self | apply List.mem_cons_of_mem))
 have m_q24 := L39.m (q := q24) (o := .lst (zq24.map V.int)) (by repeat (first | exact List.mem_cons_self | apply List.mem_cons_of_mem))
 replace GA : Same (msk (S1 d) H0) (msk (S1 d) H39) := fun b u e => L39.G _ _ (GA b u e)
 replace L39 := Lv.start L39.D
 dsimp only [gName]
 refine st_eq (σ' := [some (.ref d), some (.ref t), some (.ref q1), some (.ref q2), some (.int r1), some (.int r2), some (v1), some (.int one), some (.ref q35), none, none]) rfl ?_
 refine ⟨_, rfl, _, _, rfl, ⟨by decide, by decide, by decide, by decide⟩, ?_⟩
 intro q36 hq36
 have L40 := L39.new hq36 (.lst ((List.range ((11 : Int) - 0).toNat).map fun k : Nat => V.int (0 + (k : Int))))
 generalize upd H39 q36 (.lst ((List.range ((11 : Int) - 0).toNat).map fun k : Nat => V.int (0 + (k : Int)))) = H40 at L40 ⊢
 clear L39 hq36
 refine ⟨_, rfl, two_le, ?_⟩
 intro q37 hq37
 have L41 := L40.new hq37 (.tup [.ref q36, .ref q2])
 generalize upd H40 q37 (.tup [.ref q36, .ref q2]) = H41 at L41 ⊢
 clear L40 hq37
 refine ⟨_, rfl, _, _, rfl, ⟨by decide, by decide, by decide, by decide⟩, ?_⟩
 intro q38 hq38
 have L42 := L41.new hq38 (.lst ((List.range ((11 : Int) - 0).toNat).map fun k : Nat => V.int (0 + (k : Int))))
 generalize upd H41 q38 (.lst ((List.range ((11 : Int) - 0).toNat).map fun k : Nat => V.int (0 + (k : Int)))) = H42 at L42 ⊢
 clear L41 hq38
 refine ⟨two_le, ?_⟩
 intro q39 hq39
 have L43 := L42.new hq39 (.tup [.ref q1, .ref q38])
 generalize upd H42 q39 (.tup [.ref q1, .ref q38]) = H43 at L43 ⊢
 clear L42 hq39
 refine ⟨two_le, ?_⟩
 intro q40 hq40
 have L44 := L43.new hq40 (.lst [.ref q37, .ref q39])
 generalize upd H43 q40 (.lst [.ref q37, .ref q39]) = H44 at L44 ⊢
 clear L43 hq40
 refine ⟨q35, q40, _, _, rfl, rfl, L44.old m_q35, L44.at (by repeat (first | exact List.mem_cons_self | apply List.mem_cons_of_mem)), small (by (try simp only [List.length_append, List.length_cons, List.length_nil, List.length_map, List.length_reverse]); omega), ?_⟩
 intro q41 hq41
 have L45 := L44.new hq41 (.lst (([.ref q12, .ref q18, .ref q20] ++ [.ref q25, .ref q28, .ref q33]) ++ [.ref q37, .ref q39]))
 generalize upd H44 q41 (.lst (([.ref q12, .ref q18, .ref q20] ++ [.ref q25, .ref q28, .ref q33]) ++ [.ref q37, .ref q39])) = H45 at L45 ⊢
 clear L44 hq41
 replace L45 := L45.drop1
 replace m_q2 := L45.G _ _ m_q2
 replace m_q1 := L45.G _ _ m_q1
 replace m_q6 := L45.G _ _ m_q6
 replace m_q5 := L45.G _ _ m_q5
 replace m_q4 := L45.G _ _ m_q4
 replace m_q3 := L45.G _ _ m_q3
 replace m_q21 := L45.G _ _ m_q21
 replace m_q20 := L45.G _ _ m_q20
 replace m_q19 := L45.G _ _ m_q19
 replace m_q18 := L45.G _ _ m_q18
 replace m_q17 := L45.G _ _ m_q17
 replace m_q12 := L45.G _ _ m_q12
 replace m_q11 := L45.G _ _ m_q11
 replace m_q35 := L45.G _ _ m_q35
 replace m_q33 := L45.G _ _ m_q33
 replace m_q32 := L45.G _ _ m_q32
 replace m_q28 := L45.G _ _ m_q28
 replace m_q27 := L45.G _ _ m_q27
 replace m_q25 := L45.G _ _ m_q25
 replace m_q24 := L45.G _ _ m_q24
 have m_q41 := L45.m (q := q41) (o := .lst (([.ref q12, .ref q18, .ref q20] ++ [.ref q25, .ref q28, .ref q33]) ++ [.ref q37, .ref q39])) (by repeat (first | exact List.mem_cons_self | apply List.mem_cons_of_mem))
 have m_q39 := L45.m (q := q39) (o := .tup [.ref q1, .ref q38]) (by repeat (first | exact List.mem_cons_self | apply List.mem_cons_of_mem))
 have m_q38 := L45.m (q := q38) (o := .lst ((List.range ((11 : Int) - 0).toNat).map fun k : Nat => V.int (0 + (k : Int)))) (by repeat (first | exact List.mem_cons_self | apply List.mem_cons_of_mem))
 have m_q37 := L45.m (q := q37) (o := .tup [.ref q36, .ref q2]) (by repeat (first | exact List.mem_cons_self | apply List.mem_cons_of_mem))
 have m_q36 := L45.m (q := q36) (o := .lst ((List.range ((11 : Int) - 0).toNat).map fun k : Nat => V.int (0 + (k : Int)))) (by repeat (first | exact List.mem_cons_self | apply List.mem_cons_of_mem))
 replace GA : Same (msk (S1 d) H0) (msk (S1 d) H45) := fun b u e => L45.G _ _ (GA b u e)
 replace L45 := Lv.start L45.D
 dsimp only [gName]
 refine st_eq (σ' := [some (.ref d), some (.ref t), some (.ref q1), some (.ref q2), some (.int r1), some (.int r2), some (v1), some (.int one), some (.ref q41), none, none]) rfl ?_
 refine ⟨_, rfl, _, rfl, q1, _, rfl, .inl ⟨SqL.of (L45.old m_q1), ?_⟩⟩
 intro q42 hq42
 have L46 := L45.new hq42 (.tup ((N9.map V.int)))
 generalize upd H45 q42 (.tup ((N9.map V.int))) = H46 at L46 ⊢
 clear L45 hq42
 refine ⟨_, rfl, two_le, ?_⟩
 intro q43 hq43
 have L47 := L46.new hq43 (.tup [.ref q42, .ref q2])
 generalize upd H46 q43 (.tup [.ref q42, .ref q2]) = H47 at L47 ⊢
 clear L46 hq43
 refine ⟨_, rfl, _, rfl, q2, _, rfl, .inl ⟨SqL.of (L47.old m_q2), ?_⟩⟩
 intro q44 hq44
 have L48 := L47.new hq44 (.tup ((S9.map V.int)))
 generalize upd H47 q44 (.tup ((S9.map V.int))) = H48 at L48 ⊢
 clear L47 hq44
 refine ⟨two_le, ?_⟩
 intro q45 hq45
 have L49 := L48.new hq45 (.tup [.ref q1, .ref q44])
 generalize upd H48 q45 (.tup [.ref q1, .ref q44]) = H49 at L49 ⊢
 clear L48 hq45
 refine ⟨two_le, ?_⟩
 intro q46 hq46
 have L50 := L49.new hq46 (.lst [.ref q43, .ref q45])
 generalize upd H49 q46 (.lst [.ref q43, .ref q45]) = H50 at L50 ⊢
 clear L49 hq46
 refine ⟨q41, q46, _, _, rfl, rfl, L50.old m_q41, L50.at (by repeat (first | exact List.mem_cons_self | apply List.mem_cons_of_mem)), small (by (try simp only [List.length_append, List.length_cons, List.length_nil, List.length_map, List.length_reverse]); omega), ?_⟩
 intro q47 hq47
 have L51 := L50.new hq47 (.lst ((([.ref q12, .ref q18, .ref q20] ++ [.ref q25, .ref q28, .ref q33]) ++ [.ref q37, .ref q39]) ++ [.ref q43, .ref q45]))
 generalize upd H50 q47 (.lst ((([.ref q12, .ref q18, .ref q20] ++ [.ref q25, .ref q28, .ref q33]) ++ [.ref q37, .ref q39]) ++ [.ref q43, .ref q45])) = H51 at L51 ⊢
 clear L50 hq47
 replace L51 := L51.drop1
 replace m_q2 := L51.G _ _ m_q2
 replace m_q1 := L51.G _ _ m_q1
 replace m_q6 := L51.G _ _ m_q6
 replace m_q5 := L51.G _ _ m_q5
 replace m_q4 := L51.G _ _ m_q4
 replace m_q3 := L51.G _ _ m_q3
 replace m_q21 := L51.G _ _ m_q21
 replace m_q20 := L51.G _ _ m_q20
 replace m_q19 := L51.G _ _ m_q19
 replace m_q18 := L51.G _ _ m_q18
 replace m_q17 := L51.G _ _ m_q17
 replace m_q12 := L51.G _ _ m_q12
 replace m_q11 := L51.G _ _ m_q11
 replace m_q35 := L51.G _ _ m_q35
 replace m_q33 := L51.G _ _ m_q33
 replace m_q32 := L51.G _ _ m_q32
 replace m_q28 := L51.G _ _ m_q28
 replace m_q27 := L51.G _ _ m_q27
 replace m_q25 := L51.G _ _ m_q25
 replace m_q24 := L51.G _ _ m_q24
 replace m_q41 := L51.G _ _ m_q41
 replace m_q39 := L51.G _ _ m_q39
 replace m_q38 := L51.G _ _ m_q38
 replace m_q37 := L51.G _ _ m_q37
 replace m_q36 := L51.G _ _ m_q36
 have m_q47 := L51.m (q := q47) (o := .lst ((([.ref q12, .ref q18, .ref q20] ++ [.ref q25, .ref q28, .ref q33]) ++ [.ref q37, .ref q39]) ++ [.ref q43, .ref q45])) (by repeat (first | exact List.mem_cons_self | apply List.mem_cons_of_mem))
 have m_q45 := L51.m (q := q45) (o := .tup [.ref q1, .ref q44]) (by repeat (first | exact List.mem_cons_self | apply List.mem_cons_of_mem))
 have m_q44 := L51.m (q := q44) (o := .tup ((S9.map V.int))) (by repeat (first | exact List.mem_cons_self | apply List.mem_cons_of_mem))
 have m_q43 := L51.m (q := q43) (o := .tup [.ref q42, .ref q2]) (by repeat (first | exact List.mem_cons_self | apply List.mem_cons_of_mem))
 have m_q42 := L51.m (q := q42) (o := .tup ((N9.map V.int))) (by repeat (first | exact List.mem_cons_self | apply List.mem_cons_of_mem))
 replace GA : Same (msk (S1 d) H0) (msk (S1 d) H51) := fun b u e => L51.G _ _ (GA b u e)
 replace L51 := Lv.start L51.D
 dsimp only [gName]
 refine st_eq (σ' := [some (.ref d), some (.ref t), some (.ref q1), some (.ref q2), some (.int r1), some (.int r2), some (v1), some (.int one), some (.ref q47), none, none]) rfl ?_
 refine ⟨_, rfl, _, rfl, (by show 1 ≤ sizeLine; decide), ?_⟩
 intro q48 hq48
 have L52 := L51.new hq48 (.tup [.ref q1])
 generalize upd H51 q48 (.tup [.ref q1]) = H52 at L52 ⊢
 clear L51 hq48
 refine ⟨_, rfl, _, rfl, (by show 0 ≤ sizeLine; decide), ?_⟩
 intro q49 hq49
 have L53 := L52.new hq49 (.lst [])
 generalize upd H52 q49 (.lst []) = H53 at L53 ⊢
 clear L52 hq49
 refine ⟨(by show 3 ≤ sizeLine; decide), ?_⟩
 intro q50 hq50
 have L54 := L53.new hq50 (.tup [.ref q1, .ref q2, .ref q49])
 generalize upd H53 q50 (.tup [.ref q1, .ref q2, .ref q49]) = H54 at L54 ⊢
 clear L53 hq50
 refine ⟨_, rfl, _, rfl, two_le, ?_⟩
 intro q51 hq51
 have L55 := L54.new hq51 (.lst [.ref q1, .ref q2])
 generalize upd H54 q51 (.lst [.ref q1, .ref q2]) = H55 at L55 ⊢
 clear L54 hq51
 refine ⟨_, rfl, two_le, ?_⟩
 intro q52 hq52
 have L56 := L55.new hq52 (.tup [.ref q1, .non])
 generalize upd H55 q52 (.tup [.ref q1, .non]) = H56 at L56 ⊢
 clear L55 hq52
 refine ⟨_, rfl, two_le, ?_⟩
 intro q53 hq53
 have L57 := L56.new hq53 (.tup [.non, .ref q2])
 generalize upd H56 q53 (.tup [.non, .ref q2]) = H57 at L57 ⊢
 clear L56 hq53
 refine ⟨(by show 5 ≤ sizeLine; decide), ?_⟩
 intro q54 hq54
 have L58 := L57.new hq54 (.lst [.ref q48, .ref q50, .ref q51, .ref q52, .ref q53])
 generalize upd H57 q54 (.lst [.ref q48, .ref q50, .ref q51, .ref q52, .ref q53]) = H58 at L58 ⊢
 clear L57 hq54
 refine ⟨q47, q54, _, _, rfl, rfl, L58.old m_q47, L58.at (by repeat (first | exact List.mem_cons_self | apply List.mem_cons_of_mem)), small (by (try simp only [List.length_append, List.length_cons, List.length_nil, List.length_map, List.length_reverse]); omega), ?_⟩
 intro q55 hq55
 have L59 := L58.new hq55 (.lst (((([.ref q12, .ref q18, .ref q20] ++ [.ref q25, .ref q28, .ref q33]) ++ [.ref q37, .ref q39]) ++ [.ref q43, .ref q45]) ++ [.ref q48, .ref q50, .ref q51, .ref q52, .ref q53]))
 generalize upd H58 q55 (.lst (((([.ref q12, .ref q18, .ref q20] ++ [.ref q25, .ref q28, .ref q33]) ++ [.ref q37, .ref q39]) ++ [.ref q43, .ref q45]) ++ [.ref q48, .ref q50, .ref q51, .ref q52, .ref q53])) = H59 at L59 ⊢
 clear L58 hq55
 replace L59 := L59.drop1
 replace m_q2 := L59.G _ _ m_q2
 replace m_q1 := L59.G _ _ m_q1
 replace m_q6 := L59.G _ _ m_q6
 replace m_q5 := L59.G _ _ m_q5
 replace m_q4 := L59.G _ _ m_q4
 replace m_q3 := L59.G _ _ m_q3
 replace m_q21 := L59.G _ _ m_q21
 replace m_q20 := L59.G _ _ m_q20
 replace m_q19 := L59.G _ _ m_q19
 replace m_q18 := L59.G _ _ m_q18
 replace m_q17 := L59.G _ _ m_q17
 replace m_q12 := L59.G _ _ m_q12
 replace m_q11 := L59.G _ _ m_q11
 replace m_q35 := L59.G _ _ m_q35
 replace m_q33 := L59.G _ _ m_q33
 replace m_q32 := L59.G _ _ m_q32
 replace m_q28 := L59.G _ _ m_q28
 replace m_q27 := L59.G _ _ m_q27
 replace m_q25 := L59.G _ _ m_q25
 replace m_q24 := L59.G _ _ m_q24
 replace m_q41 := L59.G _ _ m_q41
 replace m_q39 := L59.G _ _ m_q39
 replace m_q38 := L59.G _ _ m_q38
 replace m_q37 := L59.G _ _ m_q37
 replace m_q36 := L59.G _ _ m_q36
 replace m_q47 := L59.G _ _ m_q47
 replace m_q45 := L59.G _ _ m_q45
 replace m_q44 := L59.G _ _ m_q44
 replace m_q43 := L59.G _ _ m_q43
 replace m_q42 := L59.G _ _ m_q42
 have m_q55 := L59.m (q := q55) (o := .lst (((([.ref q12, .ref q18, .ref q20] ++ [.ref q25, .ref q28, .ref q33]) ++ [.ref q37, .ref q39]) ++ [.ref q43, .ref q45]) ++ [.ref q48, .ref q50, .ref q51, .ref q52, .ref q53])) (by repeat (first | exact List.mem_cons_self | apply List.mem_cons_of_mem))
 have m_q53 := L59.m (q := q53) (o := .tup [.non, .ref q2]) (by repeat (first | exact List.mem_cons_self | apply List.mem_cons_of_mem))
 have m_q52 := L59.m (q := q52) (o := .tup [.ref q1, .non]) (by repeat (first | exact List.mem_cons_self | apply List.mem_cons_of_mem))
 have m_q51 := L59.m (q := q51) (o := .lst [.ref q1, .ref q2]) (by repeat (first | exact List.mem_cons_self | apply List.mem_cons_of_mem))
 have m_q50 := L59.m (q := q50) (o := .tup [.ref q1, .ref q2, .ref q49]) (by repeat (first | exact List.mem_cons_self | apply List.mem_cons_of_mem))
 have m_q49 := L59.m (q := q49) (o := .lst []) (by repeat (first | exact List.mem_cons_self | apply List.mem_cons_of_mem))
 have m_q48 := L59.m (q := q48) (o := .tup [.ref q1]) (by repeat (first | exact List.mem_cons_self | apply List.mem_cons_of_mem))
 replace GA : Same (msk (S1 d) H0) (msk (S1 d) H59) := fun b u e => L59.G _ _ (GA b u e)
 replace L59 := Lv.start L59.D
 dsimp only [gName]
 refine st_eq (σ' := [some (.ref d), some (.ref t), some (.ref q1), some (.ref q2), some (.int r1), some (.int r2), some (v1), some (.int one), some (.ref q55), none, none]) rfl ?_
 refine ⟨_, rfl, (by show 0 ≤ sizeLine; decide), ?_⟩
 intro q56 hq56
 have L60 := L59.new hq56 (.lst [])
 generalize upd H59 q56 (.lst []) = H60 at L60 ⊢
 clear L59 hq56
 refine ⟨(by show 0 ≤ sizeLine; decide), ?_⟩
 intro q57 hq57
 have L61 := L60.new hq57 (.tup [])
 generalize upd H60 q57 (.tup []) = H61 at L61 ⊢
 clear L60 hq57
 intro q58 hq58
 have L62 := L61.new hq58 (.dK [])
 generalize upd H61 q58 (.dK []) = H62 at L62 ⊢
 clear L61 hq58
 refine ⟨_, rfl, two_le, ?_⟩
 intro q59 hq59
 have L63 := L62.new hq59 (.lst [.int 5, .int 3])
 generalize upd H62 q59 (.lst [.int 5, .int 3]) = H63 at L63 ⊢
 clear L62 hq59
 refine ⟨q2, q59, _, _, rfl, rfl, L63.old m_q2, L63.at (by repeat (first | exact List.mem_cons_self | apply List.mem_cons_of_mem)), small (by (try simp only [List.length_append, List.length_cons, List.length_nil, List.length_map, List.length_reverse]); omega), ?_⟩
 intro q60 hq60
 have L64 := L63.new hq60 (.lst ((S9.map V.int) ++ [.int 5, .int 3]))
 generalize upd H63 q60 (.lst ((S9.map V.int) ++ [.int 5, .int 3])) = H64 at L64 ⊢
 clear L63 hq60
 replace L64 := L64.drop1
 refine ⟨_, rfl, two_le, ?_⟩
 intro q61 hq61
 have L65 := L64.new hq61 (.tup [.ref q60, .ref q1])
 generalize upd H64 q61 (.tup [.ref q60, .ref q1]) = H65 at L65 ⊢
 clear L64 hq61
 refine ⟨_, rfl, _, rfl, _, rfl, q1, _, (-1), .int la, rfl, rfl, SqL.of (L65.old m_q1), hla, (by show 1 ≤ sizeLine; decide), ?_⟩
 intro q62 hq62
 have L66 := L65.new hq62 (.lst [.int la])
 generalize upd H65 q62 (.lst [.int la]) = H66 at L66 ⊢
 clear L65 hq62
 refine ⟨q1, q62, _, _, rfl, rfl, L66.old m_q1, L66.at (by repeat (first | exact List.mem_cons_self | apply List.mem_cons_of_mem)), small (by (try simp only [List.length_append, List.length_cons, List.length_nil, List.length_map, List.length_reverse]); omega), ?_⟩
 intro q63 hq63
 have L67 := L66.new hq63 (.lst ((N9.map V.int) ++ [.int la]))
 generalize upd H66 q63 (.lst ((N9.map V.int) ++ [.int la])) = H67 at L67 ⊢
 clear L66 hq63
 replace L67 := L67.drop1
 refine ⟨_, rfl, two_le, ?_⟩
 intro q64 hq64
 have L68 := L67.new hq64 (.tup [.ref q63, .ref q2])
 generalize upd H67 q64 (.tup [.ref q63, .ref q2]) = H68 at L68 ⊢
 clear L67 hq64
 refine ⟨(by show 9 ≤ sizeLine; decide), ?_⟩
 intro q65 hq65
 have L69 := L68.new hq65 (.lst [.non, .int 0, .str "", .ref q56, .ref q57, .ref q58, .bl true, .ref q61, .ref q64])
 generalize upd H68 q65 (.lst [.non, .int 0, .str "", .ref q56, .ref q57, .ref q58, .bl true, .ref q61, .ref q64]) = H69 at L69 ⊢
 clear L68 hq65
 refine ⟨q55, q65, _, _, rfl, rfl, L69.old m_q55, L69.at (by repeat (first | exact List.mem_cons_self | apply List.mem_cons_of_mem)), small (by (try simp only [List.length_append, List.length_cons, List.length_nil, List.length_map, List.length_reverse]); omega), ?_⟩
 intro q66 hq66
 have L70 := L69.new hq66 (.lst ((((([.ref q12, .ref q18, .ref q20] ++ [.ref q25, .ref q28, .ref q33]) ++ [.ref q37, .ref q39]) ++ [.ref q43, .ref q45]) ++ [.ref q48, .ref q50, .ref q51, .ref q52, .ref q53]) ++ [.non, .int 0, .str "", .ref q56, .ref q57, .ref q58, .bl true, .ref q61, .ref q64]))
 generalize upd H69 q66 (.lst ((((([.ref q12, .ref q18, .ref q20] ++ [.ref q25, .ref q28, .ref q33]) ++ [.ref q37, .ref q39]) ++ [.ref q43, .ref q45]) ++ [.ref q48, .ref q50, .ref q51, .ref q52, .ref q53]) ++ [.non, .int 0, .str "", .ref q56, .ref q57, .ref q58, .bl true, .ref q61, .ref q64])) = H70 at L70 ⊢
 clear L69 hq66
 replace L70 := L70.drop1
 replace m_q2 := L70.G _ _ m_q2
 replace m_q1 := L70.G _ _ m_q1
 replace m_q6 := L70.G _ _ m_q6
 replace m_q5 := L70.G _ _ m_q5
 replace m_q4 := L70.G _ _ m_q4
 replace m_q3 := L70.G _ _ m_q3
 replace m_q21 := L70.G _ _ m_q21
 replace m_q20 := L70.G _ _ m_q20
 replace m_q19 := L70.G _ _ m_q19
 replace m_q18 := L70.G _ _ m_q18
 replace m_q17 := L70.G _ _ m_q17
 replace m_q12 := L70.G _ _ m_q12
 replace m_q11 := L70.G _ _ m_q11
 replace m_q35 := L70.G _ _ m_q35
 replace m_q33 := L70.G _ _ m_q33
 replace m_q32 := L70.G _ _ m_q32
 replace m_q28 := L70.G _ _ m_q28
 replace m_q27 := L70.G _ _ m_q27
 replace m_q25 := L70.G _ _ m_q25
 replace m_q24 := L70.G _ _ m_q24
 replace m_q41 := L70.G _ _ m_q41
 replace m_q39 := L70.G _ _ m_q39
 replace m_q38 := L70.G _ _ m_q38
 replace m_q37 := L70.G _ _ m_q37
 replace m_q36 := L70.G _ _ m_q36
 replace m_q47 := L70.G _ _ m_q47
 replace m_q45 := L70.G _ _ m_q45
 replace m_q44 := L70.G _ _ m_q44
 replace m_q43 := L70.G _ _ m_q43
 replace m_q42 := L70.G _ _ m_q42
 replace m_q55 := L70.G _ _ m_q55
 replace m_q53 := L70.G _ _ m_q53
 replace m_q52 := L70.G _ _ m_q52
 replace m_q51 := L70.G _ _ m_q51
 replace m_q50 := L70.G _ _ m_q50
 replace m_q49 := L70.G _ _ m_q49
 replace m_q48 := L70.G _ _ m_q48
 have m_q66 := L70.m (q := q66) (o := .lst ((((([.ref q12, .ref q18, .ref q20] ++ [.ref q25, .ref q28, .ref q33]) ++ [.ref q37, .ref q39]) ++ [.ref q43, .ref q45]) ++ [.ref q48, .ref q50, .ref q51, .ref q52, .ref q53]) ++ [.non, .int 0, .str "", .ref q56, .ref q57, .ref q58, .bl true, .ref q61, .ref q64])) (by repeat (first | exact List.mem_cons_self | apply List.mem_cons_of_mem))
 have m_q64 := L70.m (q := q64) (o := .tup [.ref q63, .ref q2]) (by repeat (first | exact List.mem_cons_self | apply List.mem_cons_of_mem))
 have m_q63 := L70.m (q := q63) (o := .lst ((N9.map V.int) ++ [.int la])) (by repeat (first | exact List.mem_cons_self | apply List.mem_cons_of_mem))
 have m_q61 := L70.m (q := q61) (o := .tup [.ref q60, .ref q1]) (by repeat (first | exact List.mem_cons_self | apply List.mem_cons_of_mem))
 have m_q60 := L70.m (q := q60) (o := .lst ((S9.map V.int) ++ [.int 5, .int 3])) (by repeat (first | exact List.mem_cons_self | apply List.mem_cons_of_mem))
 have m_q58 := L70.m (q := q58) (o := .dK []) (by repeat (first | exact List.mem_cons_self | apply List.mem_cons_of_mem))
 have m_q57 := L70.m (q := q57) (o := .tup []) (by repeat (first | exact List.mem_cons_self | apply List.mem_cons_of_mem))
 have m_q56 := L70.m (q := q56) (o := .lst []) (by repeat (first | exact List.mem_cons_self | apply List.mem_cons_of_mem))
 replace GA : Same (msk (S1 d) H0) (msk (S1 d) H70) := fun b u e => L70.G _ _ (GA b u e)
 replace L70 := Lv.start L70.D
 dsimp only [gName]
 refine st_eq (σ' := [some (.ref d), some (.ref t), some (.ref q1), some (.ref q2), some (.int r1), some (.int r2), some (v1), some (.int one), some (.ref q66), none, none]) rfl ?_
 refine ⟨(by show 1 ≤ sizeLine; decide), ?_⟩
 intro q67 hq67
 have L71 := L70.new hq67 (.lst [.int 0])
 generalize upd H70 q67 (.lst [.int 0]) = H71 at L71 ⊢
 clear L70 hq67
 refine ⟨_, rfl, q67, q2, _, _, rfl, rfl, L71.at (by repeat (first | exact List.mem_cons_self | apply List.mem_cons_of_mem)), L71.old m_q2, small (by (try simp only [List.length_append, List.length_cons, List.length_nil, List.length_map, List.length_reverse]); omega), ?_⟩
 intro q68 hq68
 have L72 := L71.new hq68 (.lst ([.int 0] ++ (S9.map V.int)))
 generalize upd H71 q68 (.lst ([.int 0] ++ (S9.map V.int))) = H72 at L72 ⊢
 clear L71 hq68
 refine ⟨_, rfl, q68, _, (-1), .int gr, rfl, rfl, SqL.of (L72.at (by repeat (first | exact List.mem_cons_self | apply List.mem_cons_of_mem))), hgr, ?_⟩
 replace m_q2 := L72.G _ _ m_q2
 replace m_q1 := L72.G _ _ m_q1
 replace m_q6 := L72.G _ _ m_q6
 replace m_q5 := L72.G _ _ m_q5
 replace m_q4 := L72.G _ _ m_q4
 replace m_q3 := L72.G _ _ m_q3
 replace m_q21 := L72.G _ _ m_q21
 replace m_q20 := L72.G _ _ m_q20
 replace m_q19 := L72.G _ _ m_q19
 replace m_q18 := L72.G _ _ m_q18
 replace m_q17 := L72.G _ _ m_q17
 replace m_q12 := L72.G _ _ m_q12
 replace m_q11 := L72.G _ _ m_q11
 replace m_q35 := L72.G _ _ m_q35
 replace m_q33 := L72.G _ _ m_q33
 replace m_q32 := L72.G _ _ m_q32
 replace m_q28 := L72.G _ _ m_q28
 replace m_q27 := L72.G _ _ m_q27
 replace m_q25 := L72.G _ _ m_q25
 replace m_q24 := L72.G _ _ m_q24
 replace m_q41 := L72.G _ _ m_q41
 replace m_q39 := L72.G _ _ m_q39
 replace m_q38 := L72.G _ _ m_q38
 replace m_q37 := L72.G _ _ m_q37
 replace m_q36 := L72.G _ _ m_q36
 replace m_q47 := L72.G _ _ m_q47
 replace m_q45 := L72.G _ _ m_q45
 replace m_q44 := L72.G _ _ m_q44
 replace m_q43 := L72.G _ _ m_q43
 replace m_q42 := L72.G _ _ m_q42
 replace m_q55 := L72.G _ _ m_q55
 replace m_q53 := L72.G _ _ m_q53
 replace m_q52 := L72.G _ _ m_q52
 replace m_q51 := L72.G _ _ m_q51
 replace m_q50 := L72.G _ _ m_q50
 replace m_q49 := L72.G _ _ m_q49
 replace m_q48 := L72.G _ _ m_q48
 replace m_q66 := L72.G _ _ m_q66
 replace m_q64 := L72.G _ _ m_q64
 replace m_q63 := L72.G _ _ m_q63
 replace m_q61 := L72.G _ _ m_q61
 replace m_q60 := L72.G _ _ m_q60
 replace m_q58 := L72.G _ _ m_q58
 replace m_q57 := L72.G _ _ m_q57
 replace m_q56 := L72.G _ _ m_q56
 have m_q68 := L72.m (q := q68) (o := .lst ([.int 0] ++ (S9.map V.int))) (by repeat (first | exact List.mem_cons_self | apply List.mem_cons_of_mem))
 have m_q67 := L72.m (q := q67) (o := .lst [.int 0]) (by repeat (first | exact List.mem_cons_self | apply List.mem_cons_of_mem))
 replace GA : Same (msk (S1 d) H0) (msk (S1 d) H72) := fun b u e => L72.G _ _ (GA b u e)
 replace L72 := Lv.start L72.D
 dsimp only [gName]
 refine st_eq (σ' := [some (.ref d), some (.ref t), some (.ref q1), some (.ref q2), some (.int r1), some (.int r2), some (v1), some (.int one), some (.ref q66), some (.int gr), none]) rfl ?_
 refine ⟨_, rfl, two_le, ?_⟩
 intro q69 hq69
 have L73 := L72.new hq69 (.lst [.int 5, .int 3])
 generalize upd H72 q69 (.lst [.int 5, .int 3]) = H73 at L73 ⊢
 clear L72 hq69
 refine ⟨two_le, ?_⟩
 intro q70 hq70
 have L74 := L73.new hq70 (.tup [.ref q1, .ref q69])
 generalize upd H73 q70 (.tup [.ref q1, .ref q69]) = H74 at L74 ⊢
 clear L73 hq70
 refine ⟨_, rfl, _, rfl, _, rfl, q2, _, rfl, SqL.of (L74.old m_q2), ?_⟩
 have lc7 : (cutV (S9.map V.int) none (some 8)).length ≤ ((S9.map V.int)).length := cutV_length _ _ _
 have mc7 : ∀ x ∈ cutV (S9.map V.int) none (some 8), x ∈ (S9.map V.int) := fun x hx => cut_mem hx
 generalize hc7 : cutV (S9.map V.int) none (some 8) = c7 at lc7 mc7 ⊢
 (try simp only [List.length_map, List.length_append, List.length_cons, List.length_nil] at lc7)
 intro q71 hq71
 have L75 := L74.new hq71 (.lst c7)
 generalize upd H74 q71 (.lst c7) = H75 at L75 ⊢
 clear L74 hq71
 refine ⟨_, rfl, _, _, rfl, rfl, _, rfl, _, _, rfl, rfl, two_le, ?_⟩
 intro q72 hq72
 have L76 := L75.new hq72 (.lst [.int (gr + 2), .int (gr + 1)])
 generalize upd H75 q72 (.lst [.int (gr + 2), .int (gr + 1)]) = H76 at L76 ⊢
 clear L75 hq72
 refine ⟨q71, q72, _, _, rfl, rfl, L76.at (by repeat (first | exact List.mem_cons_self | apply List.mem_cons_of_mem)), L76.at (by repeat (first | exact List.mem_cons_self | apply List.mem_cons_of_mem)), small (by (try simp only [List.length_append, List.length_cons, List.length_nil, List.length_map, List.length_reverse]); omega), ?_⟩
 intro q73 hq73
 have L77 := L76.new hq73 (.lst (c7 ++ [.int (gr + 2), .int (gr + 1)]))
 generalize upd H76 q73 (.lst (c7 ++ [.int (gr + 2), .int (gr + 1)])) = H77 at L77 ⊢
 clear L76 hq73
 replace L77 := L77.drop2
 refine ⟨two_le, ?_⟩
 intro q74 hq74
 have L78 := L77.new hq74 (.tup [.ref q1, .ref q73])
 generalize upd H77 q74 (.tup [.ref q1, .ref q73]) = H78 at L78 ⊢
 clear L77 hq74
 refine ⟨two_le, ?_⟩
 intro q75 hq75
 have L79 := L78.new hq75 (.lst [.ref q70, .ref q74])
 generalize upd H78 q75 (.lst [.ref q70, .ref q74]) = H79 at L79 ⊢
 clear L78 hq75
 replace m_q2 := L79.G _ _ m_q2
 replace m_q1 := L79.G _ _ m_q1
 replace m_q6 := L79.G _ _ m_q6
 replace m_q5 := L79.G _ _ m_q5
 replace m_q4 := L79.G _ _ m_q4
 replace m_q3 := L79.G _ _ m_q3
 replace m_q21 := L79.G _ _ m_q21
 replace m_q20 := L79.G _ _ m_q20
 replace m_q19 := L79.G _ _ m_q19
 replace m_q18 := L79.G _ _ m_q18
 replace m_q17 := L79.G _ _ m_q17
 replace m_q12 := L79.G _ _ m_q12
 replace m_q11 := L79.G _ _ m_q11
 replace m_q35 := L79.G _ _ m_q35
 replace m_q33 := L79.G _ _ m_q33
 replace m_q32 := L79.G _ _ m_q32
 replace m_q28 := L79.G _ _ m_q28
 replace m_q27 := L79.G _ _ m_q27
 replace m_q25 := L79.G _ _ m_q25
 replace m_q24 := L79.G _ _ m_q24
 replace m_q41 := L79.G _ _ m_q41
 replace m_q39 := L79.G _ _ m_q39
 replace m_q38 := L79.G _ _ m_q38
 replace m_q37 := L79.G _ _ m_q37
 replace m_q36 := L79.G _ _ m_q36
 replace m_q47 := L79.G _ _ m_q47
 replace m_q45 := L79.G _ _ m_q45
 replace m_q44 := L79.G _ _ m_q44
 replace m_q43 := L79.G _ _ m_q43
 replace m_q42 := L79.G _ _ m_q42
 replace m_q55 := L79.G _ _ m_q55
 replace m_q53 := L79.G _ _ m_q53
 replace m_q52 := L79.G _ _ m_q52
 replace m_q51 := L79.G _ _ m_q51
 replace m_q50 := L79.G _ _ m_q50
 replace m_q49 := L79.G _ _ m_q49
 replace m_q48 := L79.G _ _ m_q48
 replace m_q66 := L79.G _ _ m_q66
 replace m_q64 := L79.G _ _ m_q64
 replace m_q63 := L79.G _ _ m_q63
 replace m_q61 := L79.G _ _ m_q61
 replace m_q60 := L79.G _ _ m_q60
 replace m_q58 := L79.G _ _ m_q58
 replace m_q57 := L79.G _ _ m_q57
 replace m_q56 := L79.G _ _ m_q56
 replace m_q68 := L79.G _ _ m_q68
 replace m_q67 := L79.G _ _ m_q67
 have m_q75 := L79.m (q := q75) (o := .lst [.ref q70, .ref q74]) (by repeat (first | exact List.mem_cons_self | apply List.mem_cons_of_mem))
 have m_q74 := L79.m (q := q74) (o := .tup [.ref q1, .ref q73]) (by repeat (first | exact List.mem_cons_self | apply List.mem_cons_of_mem))
 have m_q73 := L79.m (q := q73) (o := .lst (c7 ++ [.int (gr + 2), .int (gr + 1)])) (by repeat (first | exact List.mem_cons_self | apply List.mem_cons_of_mem))
 have m_q70 := L79.m (q := q70) (o := .tup [.ref q1, .ref q69]) (by repeat (first | exact List.mem_cons_self | apply List.mem_cons_of_mem))
 have m_q69 := L79.m (q := q69) (o := .lst [.int 5, .int 3]) (by repeat (first | exact List.mem_cons_self | apply List.mem_cons_of_mem))
 replace GA : Same (msk (S1 d) H0) (msk (S1 d) H79) := fun b u e => L79.G _ _ (GA b u e)
 replace L79 := Lv.start L79.D
 dsimp only [gName]
 refine st_eq (σ' := [some (.ref d), some (.ref t), some (.ref q1), some (.ref q2), some (.int r1), some (.int r2), some (v1), some (.int one), some (.ref q66), some (.int gr), some (.ref q75)]) rfl ?_
 refine ⟨_, rfl, _, rfl, q66, q75, _, _, rfl, rfl, L79.old m_q66, L79.old m_q75, small (by (try simp only [List.length_append, List.length_cons, List.length_nil, List.length_map, List.length_reverse]); omega), ?_⟩
 intro q76 hq76
 have L80 := L79.new hq76 (.lst (((((([.ref q12, .ref q18, .ref q20] ++ [.ref q25, .ref q28, .ref q33]) ++ [.ref q37, .ref q39]) ++ [.ref q43, .ref q45]) ++ [.ref q48, .ref q50, .ref q51, .ref q52, .ref q53]) ++ [.non, .int 0, .str "", .ref q56, .ref q57, .ref q58, .bl true, .ref q61, .ref q64]) ++ [.ref q70, .ref q74]))
 generalize upd H79 q76 (.lst (((((([.ref q12, .ref q18, .ref q20] ++ [.ref q25, .ref q28, .ref q33]) ++ [.ref q37, .ref q39]) ++ [.ref q43, .ref q45]) ++ [.ref q48, .ref q50, .ref q51, .ref q52, .ref q53]) ++ [.non, .int 0, .str "", .ref q56, .ref q57, .ref q58, .bl true, .ref q61, .ref q64]) ++ [.ref q70, .ref q74])) = H80 at L80 ⊢
 clear L79 hq76
 refine ⟨_, rfl, d, _, rfl, L80.D, by decide, by decide, ?_⟩
 intro r5 H81 r50 r51 D81 o81
 have L81 := L80.mv D81 (off_msk o81)
 clear L80 D81 o81
 obtain ⟨v8, hv8, mv8⟩ := pick_any (xs := [(.ref q12 : V), (.ref q18 : V), (.ref q20 : V), (.ref q25 : V), (.ref q28 : V), (.ref q33 : V), (.ref q37 : V), (.ref q39 : V), (.ref q43 : V), (.ref q45 : V), (.ref q48 : V), (.ref q50 : V), (.ref q51 : V), (.ref q52 : V), (.ref q53 : V), (.non : V), (.int 0 : V), (.str "" : V), (.ref q56 : V), (.ref q57 : V), (.ref q58 : V), (.bl true : V), (.ref q61 : V), (.ref q64 : V), (.ref q70 : V), (.ref q74 : V)]) r50 r51
 replace m_q2 := L81.G _ _ m_q2
 replace m_q1 := L81.G _ _ m_q1
 replace m_q6 := L81.G _ _ m_q6
 replace m_q5 := L81.G _ _ m_q5
 replace m_q4 := L81.G _ _ m_q4
 replace m_q3 := L81.G _ _ m_q3
 replace m_q21 := L81.G _ _ m_q21
 replace m_q20 := L81.G _ _ m_q20
 replace m_q19 := L81.G _ _ m_q19
 replace m_q18 := L81.G _ _ m_q18
 replace m_q17 := L81.G _ _ m_q17
 replace m_q12 := L81.G _ _ m_q12
 replace m_q11 := L81.G _ _ m_q11
 replace m_q35 := L81.G _ _ m_q35
 replace m_q33 := L81.G _ _ m_q33
 replace m_q32 := L81.G _ _ m_q32
 replace m_q28 := L81.G _ _ m_q28
 replace m_q27 := L81.G _ _ m_q27
 replace m_q25 := L81.G _ _ m_q25
 replace m_q24 := L81.G _ _ m_q24
 replace m_q41 := L81.G _ _ m_q41
 replace m_q39 := L81.G _ _ m_q39
 replace m_q38 := L81.G _ _ m_q38
 replace m_q37 := L81.G _ _ m_q37
 replace m_q36 := L81.G _ _ m_q36
 replace m_q47 := L81.G _ _ m_q47
 replace m_q45 := L81.G _ _ m_q45
 replace m_q44 := L81.G _ _ m_q44
 replace m_q43 := L81.G _ _ m_q43
 replace m_q42 := L81.G _ _ m_q42
 replace m_q55 := L81.G _ _ m_q55
 replace m_q53 := L81.G _ _ m_q53
 replace m_q52 := L81.G _ _ m_q52
 replace m_q51 := L81.G _ _ m_q51
 replace m_q50 := L81.G _ _ m_q50
 replace m_q49 := L81.G _ _ m_q49
 replace m_q48 := L81.G _ _ m_q48
 replace m_q66 := L81.G _ _ m_q66
 replace m_q64 := L81.G _ _ m_q64
 replace m_q63 := L81.G _ _ m_q63
 replace m_q61 := L81.G _ _ m_q61
 replace m_q60 := L81.G _ _ m_q60
 replace m_q58 := L81.G _ _ m_q58
 replace m_q57 := L81.G _ _ m_q57
 replace m_q56 := L81.G _ _ m_q56
 replace m_q68 := L81.G _ _ m_q68
 replace m_q67 := L81.G _ _ m_q67
 replace m_q75 := L81.G _ _ m_q75
 replace m_q74 := L81.G _ _ m_q74
 replace m_q73 := L81.G _ _ m_q73
 replace m_q70 := L81.G _ _ m_q70
 replace m_q69 := L81.G _ _ m_q69
 have m_q76 := L81.m (q := q76) (o := .lst (((((([.ref q12, .ref q18, .ref q20] ++ [.ref q25, .ref q28, .ref q33]) ++ [.ref q37, .ref q39]) ++ [.ref q43, .ref q45]) ++ [.ref q48, .ref q50, .ref q51, .ref q52, .ref q53]) ++ [.non, .int 0, .str "", .ref q56, .ref q57, .ref q58, .bl true, .ref q61, .ref q64]) ++ [.ref q70, .ref q74])) (by repeat (first | exact List.mem_cons_self | apply List.mem_cons_of_mem))
 replace GA : Same (msk (S1 d) H0) (msk (S1 d) H81) := fun b u e => L81.G _ _ (GA b u e)
 replace L81 := Lv.start L81.D
 refine ⟨q76, _, r5, v8, rfl, rfl, SqL.of (L81.old m_q76), hv8, q v8 H81 L81.D GA ?_⟩
 exact nop_cases rN lN1 lN9 bN lS bS mx0 mla mone gb pq24 (by omega) mc2 (by omega) mc3 (by omega) mc4 (by omega) mc5 (by omega) mc6 (by omega) mc7 m_q1 m_q2 m_q3 m_q4 m_q5 m_q11 m_q12 m_q17 m_q18 m_q19 m_q20 m_q24 m_q25 m_q27 m_q28 m_q32 m_q33 m_q36 m_q37 m_q38 m_q39 m_q42 m_q43 m_q44 m_q45 m_q48 m_q49 m_q50 m_q51 m_q52 m_q53 m_q56 m_q57 m_q58 m_q60 m_q61 m_q63 m_q64 m_q69 m_q70 m_q73 m_q74 mv1 mv8
end
abbrev sKnd : Stmt := top 44
theorem boot_ValueError : bootBuiltins "ValueError" = some (.type "ValueError") := by decide +kernel
structure ExT (mg : Str → Option Value) (x0 x1 x2 x3 x4 x5 x6 x7 x8 x9 x10 x11 XS : Addr) : Prop where
 m0 : mg "NoPlan" = some (.ref x0)
 m1 : mg "NoNumber" = some (.ref x1)
 m2 : mg "NoKind" = some (.ref x2)
 m3 : mg "NoPlace" = some (.ref x3)
 m4 : mg "NoRow" = some (.ref x4)
 m5 : mg "NoCut" = some (.ref x5)
 m6 : mg "NoPart" = some (.ref x6)
 m7 : mg "NoSum" = some (.ref x7)
 m8 : mg "TooMany" = some (.ref x8)
 m9 : mg "NoText" = some (.ref x9)
 m10 : mg "NoName" = some (.ref x10)
 m11 : mg "NoSaying" = some (.ref x11)
 mS : mg "SumError" = some (.ref XS)
 mV : mg "ValueError" = none
structure ExD (K : PySem.W.Frag) (xs : List Addr) (XS D : Addr) (n : Int) : Prop where
 k : xs.map (fun x => PySem.W.kitOne K (.ref D) (.ref x)) = (List.range 12).map fun i : Nat => some (decide ((i : Int) = n))
 v : PySem.W.kitOne K (.ref D) (.type "ValueError") = some true
 c : ExcCls K D
 e : PySem.W.exmOne K (.ref D) (.ref XS) = some true
 i : PySem.W.excIn K D bmV "ValueError.__new__" = true
 lt : n < 12
def kWords : List Str := ["plan", "number", "kind", "place", "row", "cut", "part", "sum", "many", "text", "name", "saying"]
theorem rcv_two {K : PySem.W.Frag} {H : Hp} {a b : Addr} {y z : Str} (h1 : H a = some (.lst [.str y])) (h2 : H b = some (.lst [.str z])) : RcV K H (.ref a) (.ref b) (y == z) := by
 have q : RcV K H (.ref a) (.ref b) ((List.range [V.str y].length).all fun _ => y == z) := by
  refine RcV.lst (SqL.of h1) (SqL.of h2) rfl fun j x u hx hu => ?_
  match j, hx, hu with
  | 0, hx, hu => cases hx; cases hu; exact EqV.str y z
  | j + 1, hx, _ => cases hx
 have e : ((List.range [V.str y].length).all fun _ => y == z) = (y == z) := by
  show ((y == z) && true) = (y == z)
  exact Bool.and_true _
 rw [e] at q
 exact q
theorem one_of : ∀ m : _root_.Fin 12, (List.range 12).filter (fun i => decide (i = m.val)) = [m.val] := by decide +kernel
def spKnd (K : PySem.W.Frag) (xs : List Addr) (XS : Addr) : Sp := fun vs H Q _ => ∃ (ea D : Addr) (m : Nat) (z wd : Str), vs = [.ref ea, .str z] ∧ H ea = some (.ext (ExcAt ea (.ref D))) ∧ ExD K xs XS D m ∧ kWords[m]? = some wd ∧ ∀ H', Same H H' → Q (.bl (wd == z)) H'
section
variable {f x0 x1 x2 x3 x4 x5 x6 x7 x8 x9 x10 x11 XS : Addr} {fd : FuncData}
theorem scKnd : FnScope ["e", "due", "kinds", "words", "found"] ["e", "due"] (defScope sKnd) := ⟨rfl, rfl, rfl, by decide +kernel, rfl, by decide +kernel, by decide +kernel⟩
theorem ok_knd (F : Fun K "_law_kind" "_law_kind" sKnd f fd) (B : Bt4 mg) (T : ExT mg x0 x1 x2 x3 x4 x5 x6 x7 x8 x9 x10 x11 XS) : FnOk P w K mg base CX0 1 f fd ["e", "due"] (spKnd K [x0, x1, x2, x3, x4, x5, x6, x7, x8, x9, x10, x11] XS) := by
 refine F.ok scKnd (fun vs H Q E h => ?_) (fun cdv A outer s H vs Q E hr h => ?_)
 ·obtain ⟨ea, D, m, z, wd, rfl, _⟩ := h
  rfl
 obtain ⟨ea, D, m, z, wd, rfl, he, ex, hz, q⟩ := h
 refine ⟨_, (QSs.h (qss_cons (qs_set (i := 2) scKnd.nd rfl (Or.inl rfl) (qe_lst (qa_cons (QE.mk (pe_callB call_isiE rfl B.isinstance boot_isinstance (QA.h (qa_cons (QE.mk (pv 0)) (qa_cons (QE.mk (pe_glob (v := .ref x0) rfl T.m0 rfl)) qa_nil))))) (qa_cons (QE.mk (pe_callB call_isiE rfl B.isinstance boot_isinstance (QA.h (qa_cons (QE.mk (pv 0)) (qa_cons (QE.mk (pe_glob (v := .ref x1) rfl T.m1 rfl)) qa_nil))))) (qa_cons (QE.mk (pe_callB call_isiE rfl B.isinstance boot_isinstance (QA.h (qa_cons (QE.mk (pv 0)) (qa_cons (QE.mk (pe_glob (v := .ref x2) rfl T.m2 rfl)) qa_nil))))) (qa_cons (QE.mk (pe_callB call_isiE rfl B.isinstance boot_isinstance (QA.h (qa_cons (QE.mk (pv 0)) (qa_cons (QE.mk (pe_glob (v := .ref x3) rfl T.m3 rfl)) qa_nil))))) qa_nil)))))) (qss_cons (qs_set (i := 2) scKnd.nd rfl (Or.inl rfl) (qe_op op_cat (QE.mk (pv 2)) (qe_lst (qa_cons (QE.mk (pe_callB call_isiE rfl B.isinstance boot_isinstance (QA.h (qa_cons (QE.mk (pv 0)) (qa_cons (QE.mk (pe_glob (v := .ref x4) rfl T.m4 rfl)) qa_nil))))) (qa_cons (QE.mk (pe_callB call_isiE rfl B.isinstance boot_isinstance (QA.h (qa_cons (QE.mk (pv 0)) (qa_cons (QE.mk (pe_glob (v := .ref x5) rfl T.m5 rfl)) qa_nil))))) (qa_cons (QE.mk (pe_callB call_isiE rfl B.isinstance boot_isinstance (QA.h (qa_cons (QE.mk (pv 0)) (qa_cons (QE.mk (pe_glob (v := .ref x6) rfl T.m6 rfl)) qa_nil))))) (qa_cons (QE.mk (pe_callB call_isiE rfl B.isinstance boot_isinstance (QA.h (qa_cons (QE.mk (pv 0)) (qa_cons (QE.mk (pe_glob (v := .ref x7) rfl T.m7 rfl)) qa_nil))))) qa_nil))))))) (qss_cons (qs_set (i := 2) scKnd.nd rfl (Or.inl rfl) (qe_op op_cat (QE.mk (pv 2)) (qe_lst (qa_cons (QE.mk (pe_callB call_isiE rfl B.isinstance boot_isinstance (QA.h (qa_cons (QE.mk (pv 0)) (qa_cons (QE.mk (pe_glob (v := .ref x8) rfl T.m8 rfl)) qa_nil))))) (qa_cons (QE.mk (pe_callB call_isiE rfl B.isinstance boot_isinstance (QA.h (qa_cons (QE.mk (pv 0)) (qa_cons (QE.mk (pe_glob (v := .ref x9) rfl T.m9 rfl)) qa_nil))))) (qa_cons (QE.mk (pe_callB call_isiE rfl B.isinstance boot_isinstance (QA.h (qa_cons (QE.mk (pv 0)) (qa_cons (QE.mk (pe_glob (v := .ref x10) rfl T.m10 rfl)) qa_nil))))) (qa_cons (QE.mk (pe_callB call_isiE rfl B.isinstance boot_isinstance (QA.h (qa_cons (QE.mk (pv 0)) (qa_cons (QE.mk (pe_glob (v := .ref x11) rfl T.m11 rfl)) qa_nil))))) qa_nil))))))) (qss_cons (qs_set (i := 3) scKnd.nd rfl (Or.inl rfl) (qe_lst (qa_cons (QE.mk pe_str) (qa_cons (QE.mk pe_str) (qa_cons (QE.mk pe_str) (qa_cons (QE.mk pe_str) (qa_cons (QE.mk pe_str) (qa_cons (QE.mk pe_str) (qa_cons (QE.mk pe_str) (qa_cons (QE.mk pe_str) (qa_cons (QE.mk pe_str) (qa_cons (QE.mk pe_str) (qa_cons (QE.mk pe_str) (qa_cons (QE.mk pe_str) qa_nil)))))))))))))) (qss_cons (QS.mk (ps_comp ["word", "kind"] rfl (blk_ok (defScope sKnd) ["e", "due", "kinds", "words", "found"] rfl rfl (by decide +kernel)) (pi_zip rfl B.zip (QA.h (qa_cons (QE.mk (pv 3)) (qa_cons (QE.mk (pv 2)) qa_nil)))) (fun pins C fp s3 H3 => ⟨(pg_tupK (n := 2) K rfl (pgs_cons (pg_name (i := 0) (show (blkN ["word", "kind"] ["e", "due", "kinds", "words", "found"]).Nodup by decide +kernel) rfl (Or.inl rfl)) (pgs_cons (pg_name (i := 1) (show (blkN ["word", "kind"] ["e", "due", "kinds", "words", "found"]).Nodup by decide +kernel) rfl (Or.inl rfl)) pgs_nil))), (pif_one (pt_val (pv 1))), (pv 0)⟩) (j := 4) scKnd.nd rfl (Or.inl rfl) rfl)) (qss_one (QS.mk (ps_ret (pe_and (pe_callB call_isiE rfl B.isinstance boot_isinstance (QA.h (qa_cons (QE.mk (pv 0)) (qa_cons (QE.mk (pe_bltn (v := .ty "ValueError") rfl T.mV boot_ValueError rfl)) qa_nil)))) (pe_one (pe_cmpR (op_eqD hr.units) (pv 4) (pe_lst (QA.h (qa_cons (QE.mk (pv 1)) qa_nil))) (nomark _))))))))))))), ?_⟩
 obtain ⟨n, hn⟩ : ∃ n : Int, n = (m : Int) := ⟨_, rfl⟩
 rw [← hn] at ex
 have m12 : m < 12 := by have := ex.lt; omega
 have kk : ∀ (i : Nat) (x : Addr), [x0, x1, x2, x3, x4, x5, x6, x7, x8, x9, x10, x11][i]? = some x → PySem.W.kitOne K (.ref D) (.ref x) = some (decide ((i : Int) = n)) := fun i x hx => by
  have hk := congrArg (fun l : List (Option Bool) => l[i]?) ex.k
  simp only [List.getElem?_map, hx, Option.map_some] at hk
  have hi : i < 12 := (List.getElem?_eq_some_iff.mp hx).1
  rw [List.getElem?_range hi] at hk
  exact Option.some.inj hk
 refine ⟨_, rfl, ea, D, _, _, _, rfl, he, ex.c, fun _ z => z, kk 0 _ rfl, _, rfl, ea, D, _, _, _, rfl, he, ex.c, fun _ z => z, kk 1 _ rfl, _, rfl, ea, D, _, _, _, rfl, he, ex.c, fun _ z => z, kk 2 _ rfl, _, rfl, ea, D, _, _, _, rfl, he, ex.c, fun _ z => z, kk 3 _ rfl, (by show 4 ≤ sizeLine; decide), ?_⟩
 intro q0 hq0
 have kq0 : Same H (upd H q0 (.lst [V.bl (decide (((0 : Nat) : Int) = n)), V.bl (decide (((1 : Nat) : Int) = n)), V.bl (decide (((2 : Nat) : Int) = n)), V.bl (decide (((3 : Nat) : Int) = n))])) := Same.new hq0 _
 have eq0 : upd H q0 (.lst [V.bl (decide (((0 : Nat) : Int) = n)), V.bl (decide (((1 : Nat) : Int) = n)), V.bl (decide (((2 : Nat) : Int) = n)), V.bl (decide (((3 : Nat) : Int) = n))]) q0 = some (.lst [V.bl (decide (((0 : Nat) : Int) = n)), V.bl (decide (((1 : Nat) : Int) = n)), V.bl (decide (((2 : Nat) : Int) = n)), V.bl (decide (((3 : Nat) : Int) = n))]) := upd_same
 generalize upd H q0 (.lst [V.bl (decide (((0 : Nat) : Int) = n)), V.bl (decide (((1 : Nat) : Int) = n)), V.bl (decide (((2 : Nat) : Int) = n)), V.bl (decide (((3 : Nat) : Int) = n))]) = H0 at kq0 eq0 ⊢
 have g0 := kq0
 refine ⟨_, rfl, _, rfl, ea, D, _, _, _, rfl, (g0 _ _ he), ex.c, fun _ z => z, kk 4 _ rfl, _, rfl, ea, D, _, _, _, rfl, (g0 _ _ he), ex.c, fun _ z => z, kk 5 _ rfl, _, rfl, ea, D, _, _, _, rfl, (g0 _ _ he), ex.c, fun _ z => z, kk 6 _ rfl, _, rfl, ea, D, _, _, _, rfl, (g0 _ _ he), ex.c, fun _ z => z, kk 7 _ rfl, (by show 4 ≤ sizeLine; decide), ?_⟩
 intro q1 hq1
 have kq1 : Same H0 (upd H0 q1 (.lst [V.bl (decide (((4 : Nat) : Int) = n)), V.bl (decide (((5 : Nat) : Int) = n)), V.bl (decide (((6 : Nat) : Int) = n)), V.bl (decide (((7 : Nat) : Int) = n))])) := Same.new hq1 _
 have eq1 : upd H0 q1 (.lst [V.bl (decide (((4 : Nat) : Int) = n)), V.bl (decide (((5 : Nat) : Int) = n)), V.bl (decide (((6 : Nat) : Int) = n)), V.bl (decide (((7 : Nat) : Int) = n))]) q1 = some (.lst [V.bl (decide (((4 : Nat) : Int) = n)), V.bl (decide (((5 : Nat) : Int) = n)), V.bl (decide (((6 : Nat) : Int) = n)), V.bl (decide (((7 : Nat) : Int) = n))]) := upd_same
 generalize upd H0 q1 (.lst [V.bl (decide (((4 : Nat) : Int) = n)), V.bl (decide (((5 : Nat) : Int) = n)), V.bl (decide (((6 : Nat) : Int) = n)), V.bl (decide (((7 : Nat) : Int) = n))]) = H1 at kq1 eq1 ⊢
 have g1 := g0.trans kq1
 refine ⟨_, _, _, _, rfl, rfl, kq1 _ _ eq0, eq1, (by show 8 ≤ sizeLine; decide), ?_⟩
 intro q2 hq2
 have kq2 : Same H1 (upd H1 q2 (.lst ([V.bl (decide (((0 : Nat) : Int) = n)), V.bl (decide (((1 : Nat) : Int) = n)), V.bl (decide (((2 : Nat) : Int) = n)), V.bl (decide (((3 : Nat) : Int) = n))] ++ [V.bl (decide (((4 : Nat) : Int) = n)), V.bl (decide (((5 : Nat) : Int) = n)), V.bl (decide (((6 : Nat) : Int) = n)), V.bl (decide (((7 : Nat) : Int) = n))]))) := Same.new hq2 _
 have eq2 : upd H1 q2 (.lst ([V.bl (decide (((0 : Nat) : Int) = n)), V.bl (decide (((1 : Nat) : Int) = n)), V.bl (decide (((2 : Nat) : Int) = n)), V.bl (decide (((3 : Nat) : Int) = n))] ++ [V.bl (decide (((4 : Nat) : Int) = n)), V.bl (decide (((5 : Nat) : Int) = n)), V.bl (decide (((6 : Nat) : Int) = n)), V.bl (decide (((7 : Nat) : Int) = n))])) q2 = some (.lst ([V.bl (decide (((0 : Nat) : Int) = n)), V.bl (decide (((1 : Nat) : Int) = n)), V.bl (decide (((2 : Nat) : Int) = n)), V.bl (decide (((3 : Nat) : Int) = n))] ++ [V.bl (decide (((4 : Nat) : Int) = n)), V.bl (decide (((5 : Nat) : Int) = n)), V.bl (decide (((6 : Nat) : Int) = n)), V.bl (decide (((7 : Nat) : Int) = n))])) := upd_same
 generalize upd H1 q2 (.lst ([V.bl (decide (((0 : Nat) : Int) = n)), V.bl (decide (((1 : Nat) : Int) = n)), V.bl (decide (((2 : Nat) : Int) = n)), V.bl (decide (((3 : Nat) : Int) = n))] ++ [V.bl (decide (((4 : Nat) : Int) = n)), V.bl (decide (((5 : Nat) : Int) = n)), V.bl (decide (((6 : Nat) : Int) = n)), V.bl (decide (((7 : Nat) : Int) = n))])) = H2 at kq2 eq2 ⊢
 have g2 := g1.trans kq2
 refine ⟨_, rfl, _, rfl, ea, D, _, _, _, rfl, (g2 _ _ he), ex.c, fun _ z => z, kk 8 _ rfl, _, rfl, ea, D, _, _, _, rfl, (g2 _ _ he), ex.c, fun _ z => z, kk 9 _ rfl, _, rfl, ea, D, _, _, _, rfl, (g2 _ _ he), ex.c, fun _ z => z, kk 10 _ rfl, _, rfl, ea, D, _, _, _, rfl, (g2 _ _ he), ex.c, fun _ z => z, kk 11 _ rfl, (by show 4 ≤ sizeLine; decide), ?_⟩
 intro q3 hq3
 have kq3 : Same H2 (upd H2 q3 (.lst [V.bl (decide (((8 : Nat) : Int) = n)), V.bl (decide (((9 : Nat) : Int) = n)), V.bl (decide (((10 : Nat) : Int) = n)), V.bl (decide (((11 : Nat) : Int) = n))])) := Same.new hq3 _
 have eq3 : upd H2 q3 (.lst [V.bl (decide (((8 : Nat) : Int) = n)), V.bl (decide (((9 : Nat) : Int) = n)), V.bl (decide (((10 : Nat) : Int) = n)), V.bl (decide (((11 : Nat) : Int) = n))]) q3 = some (.lst [V.bl (decide (((8 : Nat) : Int) = n)), V.bl (decide (((9 : Nat) : Int) = n)), V.bl (decide (((10 : Nat) : Int) = n)), V.bl (decide (((11 : Nat) : Int) = n))]) := upd_same
 generalize upd H2 q3 (.lst [V.bl (decide (((8 : Nat) : Int) = n)), V.bl (decide (((9 : Nat) : Int) = n)), V.bl (decide (((10 : Nat) : Int) = n)), V.bl (decide (((11 : Nat) : Int) = n))]) = H3 at kq3 eq3 ⊢
 have g3 := g2.trans kq3
 refine ⟨_, _, _, _, rfl, rfl, kq3 _ _ eq2, eq3, (by show 12 ≤ sizeLine; decide), ?_⟩
 intro q4 hq4
 have kq4 : Same H3 (upd H3 q4 (.lst ([V.bl (decide (((0 : Nat) : Int) = n)), V.bl (decide (((1 : Nat) : Int) = n)), V.bl (decide (((2 : Nat) : Int) = n)), V.bl (decide (((3 : Nat) : Int) = n))] ++ [V.bl (decide (((4 : Nat) : Int) = n)), V.bl (decide (((5 : Nat) : Int) = n)), V.bl (decide (((6 : Nat) : Int) = n)), V.bl (decide (((7 : Nat) : Int) = n))] ++ [V.bl (decide (((8 : Nat) : Int) = n)), V.bl (decide (((9 : Nat) : Int) = n)), V.bl (decide (((10 : Nat) : Int) = n)), V.bl (decide (((11 : Nat) : Int) = n))]))) := Same.new hq4 _
 have eq4 : upd H3 q4 (.lst ([V.bl (decide (((0 : Nat) : Int) = n)), V.bl (decide (((1 : Nat) : Int) = n)), V.bl (decide (((2 : Nat) : Int) = n)), V.bl (decide (((3 : Nat) : Int) = n))] ++ [V.bl (decide (((4 : Nat) : Int) = n)), V.bl (decide (((5 : Nat) : Int) = n)), V.bl (decide (((6 : Nat) : Int) = n)), V.bl (decide (((7 : Nat) : Int) = n))] ++ [V.bl (decide (((8 : Nat) : Int) = n)), V.bl (decide (((9 : Nat) : Int) = n)), V.bl (decide (((10 : Nat) : Int) = n)), V.bl (decide (((11 : Nat) : Int) = n))])) q4 = some (.lst ([V.bl (decide (((0 : Nat) : Int) = n)), V.bl (decide (((1 : Nat) : Int) = n)), V.bl (decide (((2 : Nat) : Int) = n)), V.bl (decide (((3 : Nat) : Int) = n))] ++ [V.bl (decide (((4 : Nat) : Int) = n)), V.bl (decide (((5 : Nat) : Int) = n)), V.bl (decide (((6 : Nat) : Int) = n)), V.bl (decide (((7 : Nat) : Int) = n))] ++ [V.bl (decide (((8 : Nat) : Int) = n)), V.bl (decide (((9 : Nat) : Int) = n)), V.bl (decide (((10 : Nat) : Int) = n)), V.bl (decide (((11 : Nat) : Int) = n))])) := upd_same
 generalize upd H3 q4 (.lst ([V.bl (decide (((0 : Nat) : Int) = n)), V.bl (decide (((1 : Nat) : Int) = n)), V.bl (decide (((2 : Nat) : Int) = n)), V.bl (decide (((3 : Nat) : Int) = n))] ++ [V.bl (decide (((4 : Nat) : Int) = n)), V.bl (decide (((5 : Nat) : Int) = n)), V.bl (decide (((6 : Nat) : Int) = n)), V.bl (decide (((7 : Nat) : Int) = n))] ++ [V.bl (decide (((8 : Nat) : Int) = n)), V.bl (decide (((9 : Nat) : Int) = n)), V.bl (decide (((10 : Nat) : Int) = n)), V.bl (decide (((11 : Nat) : Int) = n))])) = H4 at kq4 eq4 ⊢
 have g4 := g3.trans kq4
 refine ⟨(by show 12 ≤ sizeLine; decide), ?_⟩
 intro q5 hq5
 have kq5 : Same H4 (upd H4 q5 (.lst [.str "plan", .str "number", .str "kind", .str "place", .str "row", .str "cut", .str "part", .str "sum", .str "many", .str "text", .str "name", .str "saying"])) := Same.new hq5 _
 have eq5 : upd H4 q5 (.lst [.str "plan", .str "number", .str "kind", .str "place", .str "row", .str "cut", .str "part", .str "sum", .str "many", .str "text", .str "name", .str "saying"]) q5 = some (.lst [.str "plan", .str "number", .str "kind", .str "place", .str "row", .str "cut", .str "part", .str "sum", .str "many", .str "text", .str "name", .str "saying"]) := upd_same
 generalize upd H4 q5 (.lst [.str "plan", .str "number", .str "kind", .str "place", .str "row", .str "cut", .str "part", .str "sum", .str "many", .str "text", .str "name", .str "saying"]) = H5 at kq5 eq5 ⊢
 have g5 := g4.trans kq5
 have eK : H5 q4 = some (.lst ((List.range 12).map fun i : Nat => V.bl (decide ((i : Int) = n)))) := kq5 _ _ eq4
 have eW : H5 q5 = some (.lst (kWords.map V.str)) := eq5
 refine ⟨_, rfl, _, rfl, q5, q4, _, _, rfl, eW, eK, fun D' hD => ?_⟩
 refine turns_zip (n := 12) (σ := [some (.ref ea), some (.str z), some (.ref q4), some (.ref q5), none]) (xs := kWords.map V.str) (ys := (List.range 12).map fun i : Nat => V.bl (decide ((i : Int) = n))) (fun i => decide ((i : Int) = n)) (fun i => (kWords.map V.str).getD i .non) eW eK rfl hD (by decide) (fun i H' hi g P hP => ?_) (fun i H' hi _ g P hP => ?_) fun H6 g6 e6 => ?_
 ·have d2 : ((List.range 12).map fun i : Nat => V.bl (decide ((i : Int) = n))).getD i .non = .bl (decide ((i : Int) = n)) := by
   rw [List.getD_eq_getElem?_getD, List.getElem?_map, List.getElem?_range hi]; rfl
  rw [d2]
  exact ⟨_, rfl, _, rfl, hP _ Same.rfl'⟩
 ·exact ⟨_, rfl, hP _ Same.rfl'⟩
 have e7 : H6 D' = some (.lst [.str wd]) := by
  rw [e6]
  have ef : (List.range 12).filter (fun i : Nat => decide ((i : Int) = n)) = [m] := by
   have q := one_of ⟨m, m12⟩
   rw [← q]
   refine List.filter_congr fun i _ => ?_
   rw [hn]
   show decide ((i : Int) = (m : Int)) = decide (i = m)
   exact decide_eq_decide.mpr ⟨fun h => by omega, fun h => by omega⟩
  rw [ef, List.map_cons, List.map_nil, List.getD_eq_getElem?_getD, List.getElem?_map, hz]
  rfl
 refine ⟨_, rfl, ea, D, _, _, _, rfl, g6 _ _ (g5 _ _ he), ex.c, fun _ z => z, ex.v, _, rfl, iteT ?_⟩
 refine ⟨_, rfl, _, rfl, (by show 1 ≤ sizeLine; decide), ?_⟩
 intro l2 hl2
 have gl : Same H6 (upd H6 l2 (.lst [.str z])) := Same.new hl2 _
 exact ⟨wd == z, rcv_two (gl _ _ e7) upd_same, q _ (g5.trans (g6.trans gl))⟩
end
abbrev sWord : Stmt := top 45
def doorD (i : Int) (ns ss : List Int) (d d2 : PyData) : Option Nat := if partD ns ss d = true then (if i = 0 ∨ i = 1 then none else (match intsD d with | some zs => if placeD ss zs d2 = true then none else some 3 | none => none)) else some 6
def sayD (o : Option Nat) (z : Str) : Str := match o with
 | none => "told"
 | some m => if ((kWords[m]?).getD "" == z) = true then z else "other"
def spWord : Sp := fun vs H Q _ => ∃ (i : Int) (v0 v v2 : V) (d0 d d2 : PyData) (z : Str), vs = [.int i, v0, v, v2, .str z] ∧ Dat H v0 d0 ∧ Dat H v d ∧ Dat H v2 d2 ∧ shortD d ∧
 (planD d0 = true → ∀ (t a b : Addr) (ns ss : List Int), v0 = .ref t → IsPl H t a b ns ss → ∀ H', Same H H' → Q (.str (sayD (doorD i ns ss d d2) z)) H') ∧ (planD d0 = false → ∀ H', Same H H' → Q (.str (sayD (some 0) z)) H')
section
variable {f tp ae ta ki XP XT XL XS : Addr} {xs : List Addr} {fd tpd aed tad kid : FuncData}
theorem scWord : FnScope ["door", "plan", "thing", "place", "due", "caught", "e"] ["door", "plan", "thing", "place", "due"] (defScope sWord) := ⟨rfl, rfl, rfl, by decide +kernel, rfl, by decide +kernel, by decide +kernel⟩
theorem ok_word (F : Fun K "_law_word" "_law_word" sWord f fd) (B : Bt2 mg) (mXS : mg "SumError" = some (.ref XS)) (exP : ExD K xs XS XP 0) (exT : ExD K xs XS XT 6) (exL : ExD K xs XS XL 3)
  (GP : FnOk P w K mg base (CX1 P w) 7 tp tpd ["plan", "part"] (spTpX XP XT)) (bP : Binds K tpd ["plan", "part"] []) (kP : Kee K tp) (mP : mg "turn_places" = some (.ref tp))
  (GA : FnOk P w K mg base (CX1 P w) 7 ae aed ["plan", "part"] (spTpX XP XT)) (bA : Binds K aed ["plan", "part"] []) (kA : Kee K ae) (mA : mg "all_ends" = some (.ref ae))
  (GT : FnOk P w K mg base (CX1 P w) 7 ta tad ["plan", "part", "place"] (spTatX XP XT XL)) (bT : Binds K tad ["plan", "part", "place"] []) (kT : Kee K ta) (mT : mg "turned_at" = some (.ref ta))
  (GK : FnOk P w K mg base CX0 7 ki kid ["e", "due"] (spKnd K xs XS)) (bK : Binds K kid ["e", "due"] []) (kK : Kee K ki) (mK : mg "_law_kind" = some (.ref ki)) : FnOk P w K mg base CX0 8 f fd ["door", "plan", "thing", "place", "due"] spWord := by
 refine F.ok scWord (fun vs H Q E h => ?_) (fun cdv A outer s H vs Q E hr h => ?_)
 ·obtain ⟨i, v0, v, v2, d0, d, d2, z, rfl, _⟩ := h
  rfl
 obtain ⟨i, v0, v, v2, d0, d, d2, z, rfl, hd0, hd, hd2, sh, q, qe⟩ := h
 refine ⟨_, (@pss_cons _ _ _ _ _ (ps_set (i := 5) scWord.nd rfl (Or.inl rfl) pe_non) (@pss_cons _ _ _ _ _ (ps_try (S := XS) (i := 5) (j := 6) (pb_if (fun _ _ z => z) (pt_cmpR op_eq (pv 0) pe_int (nomark _)) (pb_call (fun _ _ z => z) GP hr rfl mP kP bP .nil (pa_cons (pv 1) (pa_cons (pv 2) pa_nil))) (pb_if (fun _ _ z => z) (pt_cmpR op_eq (pv 0) pe_int (nomark _)) (pb_call (fun _ _ z => z) GA hr rfl mA kA bA .nil (pa_cons (pv 1) (pa_cons (pv 2) pa_nil))) (pb_call (fun _ _ z => z) GT hr rfl mT kT bT .nil (pa_cons (pv 1) (pa_cons (pv 2) (pa_cons (pv 3) pa_nil)))))) rfl rfl rfl scWord.nd rfl mXS rfl (Or.inl rfl) rfl rfl (by decide)) (@pss_cons _ _ _ _ _ (ps_if (pt_cmpR op_isN (pv 5) pe_non (nomark _)) (@pss_one _ _ _ (ps_ret pe_str)) pss_nil) (@pss_one _ _ _ (ps_ret (pe_ix ix_list (pe_lst (pa_cons pe_str (pa_cons (pv 4) pa_nil))) (pe_callTy call_int1 rfl B.int PyProof.Rows.boot_int (pa_cons (pe_call GK hr rfl mK kK bK .nil pass0 (pa_cons (pv 5) (pa_cons (pv 4) pa_nil))) pa_nil)) (fun _ _ => rfl))))))), ?_⟩
 have pick : ∀ (b : Bool) (l2 : Addr), atI [V.str "other", V.str z] (if b then 1 else 0) = some (.str (if b = true then z else "other")) := fun b l2 => by cases b <;> rfl
 refine ⟨_, rfl, rfl, _, rfl, ite2 (fun c => ?_) (fun c => ?_)⟩
 ·have i0 : i = 0 := V.int.inj (of_decide_eq_true c)
  have dr : ∀ {ns ss : List Int}, partD ns ss d = true → doorD i ns ss d d2 = none := fun h => by unfold doorD; rw [if_pos h, if_pos (.inl i0)]
  have dr2 : ∀ {ns ss : List Int}, partD ns ss d = false → doorD i ns ss d d2 = some 6 := fun h => by unfold doorD; rw [if_neg (by rw [h]; exact Bool.false_ne_true)]
  refine ⟨_, rfl, _, rfl, v0, d0, v, d, rfl, hd0, hd, sh, fun c1 t a b ns ss e0 pl => ⟨fun c2 r H1 g1 => ?_, fun c2 H1 g1 => ⟨exT.e, fun ea hn => ?_⟩⟩, fun c1 => ⟨exP.e, fun ea hn => ?_⟩⟩
  ·refine ⟨_, rfl, rfl, _, rfl, iteT ?_⟩
   have := q c1 t a b ns ss e0 pl _ g1
   rw [dr c2] at this
   exact this
  ·have q := q c1 t a b ns ss e0 pl
   rw [dr2 c2] at q
   have gn : Same H1 (upd H1 ea (.ext (ExcAt ea (.ref XT)))) := Same.new hn _
   refine ⟨_, rfl, rfl, _, rfl, iteF ?_⟩
   refine ⟨_, rfl, two_le, ?_⟩
   intro l2 hl2
   have g2 := gn.trans (Same.new hl2 (.lst [.str "other", .str z]))
   have e2 := upd_same (H := (upd H1 ea (.ext (ExcAt ea (.ref XT))))) (a := l2) (o := .lst [.str "other", .str z])
   have ee := Same.new hl2 (.lst [.str "other", .str z]) _ _ (upd_same (a := ea))
   generalize upd (upd H1 ea (.ext (ExcAt ea (.ref XT)))) l2 (.lst [.str "other", .str z]) = H5 at g2 e2 ee ⊢
   refine ⟨_, rfl, _, rfl, ea, _, 6, z, "part", rfl, ee, exT, rfl, fun H6 g6 => ?_⟩
   refine .inr ⟨_, rfl, l2, _, _, _, rfl, rfl, SqL.of (g6 _ _ e2), pick _ l2, ?_⟩
   exact q _ (g1.trans (g2.trans g6))
  ·have q := qe c1
   have gn : Same H (upd H ea (.ext (ExcAt ea (.ref XP)))) := Same.new hn _
   refine ⟨_, rfl, rfl, _, rfl, iteF ?_⟩
   refine ⟨_, rfl, two_le, ?_⟩
   intro l2 hl2
   have g2 := gn.trans (Same.new hl2 (.lst [.str "other", .str z]))
   have e2 := upd_same (H := (upd H ea (.ext (ExcAt ea (.ref XP))))) (a := l2) (o := .lst [.str "other", .str z])
   have ee := Same.new hl2 (.lst [.str "other", .str z]) _ _ (upd_same (a := ea))
   generalize upd (upd H ea (.ext (ExcAt ea (.ref XP)))) l2 (.lst [.str "other", .str z]) = H5 at g2 e2 ee ⊢
   refine ⟨_, rfl, _, rfl, ea, _, 0, z, "plan", rfl, ee, exP, rfl, fun H6 g6 => ?_⟩
   refine .inr ⟨_, rfl, l2, _, _, _, rfl, rfl, SqL.of (g6 _ _ e2), pick _ l2, ?_⟩
   exact q _ (g2.trans g6)
 refine ⟨_, rfl, rfl, _, rfl, ite2 (fun c' => ?_) (fun c' => ?_)⟩
 ·have i1 : i = 1 := V.int.inj (of_decide_eq_true c')
  have dr : ∀ {ns ss : List Int}, partD ns ss d = true → doorD i ns ss d d2 = none := fun h => by unfold doorD; rw [if_pos h, if_pos (.inr i1)]
  have dr2 : ∀ {ns ss : List Int}, partD ns ss d = false → doorD i ns ss d d2 = some 6 := fun h => by unfold doorD; rw [if_neg (by rw [h]; exact Bool.false_ne_true)]
  refine ⟨_, rfl, _, rfl, v0, d0, v, d, rfl, hd0, hd, sh, fun c1 t a b ns ss e0 pl => ⟨fun c2 r H1 g1 => ?_, fun c2 H1 g1 => ⟨exT.e, fun ea hn => ?_⟩⟩, fun c1 => ⟨exP.e, fun ea hn => ?_⟩⟩
  ·refine ⟨_, rfl, rfl, _, rfl, iteT ?_⟩
   have := q c1 t a b ns ss e0 pl _ g1
   rw [dr c2] at this
   exact this
  ·have q := q c1 t a b ns ss e0 pl
   rw [dr2 c2] at q
   have gn : Same H1 (upd H1 ea (.ext (ExcAt ea (.ref XT)))) := Same.new hn _
   refine ⟨_, rfl, rfl, _, rfl, iteF ?_⟩
   refine ⟨_, rfl, two_le, ?_⟩
   intro l2 hl2
   have g2 := gn.trans (Same.new hl2 (.lst [.str "other", .str z]))
   have e2 := upd_same (H := (upd H1 ea (.ext (ExcAt ea (.ref XT))))) (a := l2) (o := .lst [.str "other", .str z])
   have ee := Same.new hl2 (.lst [.str "other", .str z]) _ _ (upd_same (a := ea))
   generalize upd (upd H1 ea (.ext (ExcAt ea (.ref XT)))) l2 (.lst [.str "other", .str z]) = H5 at g2 e2 ee ⊢
   refine ⟨_, rfl, _, rfl, ea, _, 6, z, "part", rfl, ee, exT, rfl, fun H6 g6 => ?_⟩
   refine .inr ⟨_, rfl, l2, _, _, _, rfl, rfl, SqL.of (g6 _ _ e2), pick _ l2, ?_⟩
   exact q _ (g1.trans (g2.trans g6))
  ·have q := qe c1
   have gn : Same H (upd H ea (.ext (ExcAt ea (.ref XP)))) := Same.new hn _
   refine ⟨_, rfl, rfl, _, rfl, iteF ?_⟩
   refine ⟨_, rfl, two_le, ?_⟩
   intro l2 hl2
   have g2 := gn.trans (Same.new hl2 (.lst [.str "other", .str z]))
   have e2 := upd_same (H := (upd H ea (.ext (ExcAt ea (.ref XP))))) (a := l2) (o := .lst [.str "other", .str z])
   have ee := Same.new hl2 (.lst [.str "other", .str z]) _ _ (upd_same (a := ea))
   generalize upd (upd H ea (.ext (ExcAt ea (.ref XP)))) l2 (.lst [.str "other", .str z]) = H5 at g2 e2 ee ⊢
   refine ⟨_, rfl, _, rfl, ea, _, 0, z, "plan", rfl, ee, exP, rfl, fun H6 g6 => ?_⟩
   refine .inr ⟨_, rfl, l2, _, _, _, rfl, rfl, SqL.of (g6 _ _ e2), pick _ l2, ?_⟩
   exact q _ (g2.trans g6)
 ·have ni : ¬ (i = 0 ∨ i = 1) := fun h => h.elim (fun h => c (decide_eq_true (by rw [h]))) (fun h => c' (decide_eq_true (by rw [h])))
  have dr : ∀ {ns ss zs : List Int}, partD ns ss d = true → intsD d = some zs → placeD ss zs d2 = true → doorD i ns ss d d2 = none := fun h h1 h2 => by unfold doorD; rw [if_pos h, if_neg ni, h1]; exact if_pos h2
  have dr1 : ∀ {ns ss zs : List Int}, partD ns ss d = true → intsD d = some zs → placeD ss zs d2 = false → doorD i ns ss d d2 = some 3 := fun h h1 h2 => by unfold doorD; rw [if_pos h, if_neg ni, h1]; exact if_neg (by rw [h2]; exact Bool.false_ne_true)
  have dr2 : ∀ {ns ss : List Int}, partD ns ss d = false → doorD i ns ss d d2 = some 6 := fun h => by unfold doorD; rw [if_neg (by rw [h]; exact Bool.false_ne_true)]
  have yes : ∀ {ns ss zs : List Int}, intsD d = some zs → PartOk ns ss zs → partD ns ss d = true := fun h1 h2 => by unfold partD; rw [h1]; exact partB_iff.mpr h2
  refine ⟨_, rfl, _, rfl, _, rfl, v0, d0, v, d, v2, d2, rfl, hd0, hd, hd2, sh, fun c1 t a b ns ss e0 pl => ⟨fun zs ez pk => ⟨fun c2 r H1 g1 => ?_, fun c2 H1 g1 => ⟨exL.e, fun ea hn => ?_⟩⟩, fun c2 H1 g1 => ⟨exT.e, fun ea hn => ?_⟩⟩, fun c1 => ⟨exP.e, fun ea hn => ?_⟩⟩
  ·refine ⟨_, rfl, rfl, _, rfl, iteT ?_⟩
   have := q c1 t a b ns ss e0 pl _ g1
   rw [dr (yes ez pk) ez c2] at this
   exact this
  ·have q := q c1 t a b ns ss e0 pl
   rw [dr1 (yes ez pk) ez c2] at q
   have gn : Same H1 (upd H1 ea (.ext (ExcAt ea (.ref XL)))) := Same.new hn _
   refine ⟨_, rfl, rfl, _, rfl, iteF ?_⟩
   refine ⟨_, rfl, two_le, ?_⟩
   intro l2 hl2
   have g2 := gn.trans (Same.new hl2 (.lst [.str "other", .str z]))
   have e2 := upd_same (H := (upd H1 ea (.ext (ExcAt ea (.ref XL))))) (a := l2) (o := .lst [.str "other", .str z])
   have ee := Same.new hl2 (.lst [.str "other", .str z]) _ _ (upd_same (a := ea))
   generalize upd (upd H1 ea (.ext (ExcAt ea (.ref XL)))) l2 (.lst [.str "other", .str z]) = H5 at g2 e2 ee ⊢
   refine ⟨_, rfl, _, rfl, ea, _, 3, z, "place", rfl, ee, exL, rfl, fun H6 g6 => ?_⟩
   refine .inr ⟨_, rfl, l2, _, _, _, rfl, rfl, SqL.of (g6 _ _ e2), pick _ l2, ?_⟩
   exact q _ (g1.trans (g2.trans g6))
  ·have q := q c1 t a b ns ss e0 pl
   rw [dr2 c2] at q
   have gn : Same H1 (upd H1 ea (.ext (ExcAt ea (.ref XT)))) := Same.new hn _
   refine ⟨_, rfl, rfl, _, rfl, iteF ?_⟩
   refine ⟨_, rfl, two_le, ?_⟩
   intro l2 hl2
   have g2 := gn.trans (Same.new hl2 (.lst [.str "other", .str z]))
   have e2 := upd_same (H := (upd H1 ea (.ext (ExcAt ea (.ref XT))))) (a := l2) (o := .lst [.str "other", .str z])
   have ee := Same.new hl2 (.lst [.str "other", .str z]) _ _ (upd_same (a := ea))
   generalize upd (upd H1 ea (.ext (ExcAt ea (.ref XT)))) l2 (.lst [.str "other", .str z]) = H5 at g2 e2 ee ⊢
   refine ⟨_, rfl, _, rfl, ea, _, 6, z, "part", rfl, ee, exT, rfl, fun H6 g6 => ?_⟩
   refine .inr ⟨_, rfl, l2, _, _, _, rfl, rfl, SqL.of (g6 _ _ e2), pick _ l2, ?_⟩
   exact q _ (g1.trans (g2.trans g6))
  ·have q := qe c1
   have gn : Same H (upd H ea (.ext (ExcAt ea (.ref XP)))) := Same.new hn _
   refine ⟨_, rfl, rfl, _, rfl, iteF ?_⟩
   refine ⟨_, rfl, two_le, ?_⟩
   intro l2 hl2
   have g2 := gn.trans (Same.new hl2 (.lst [.str "other", .str z]))
   have e2 := upd_same (H := (upd H ea (.ext (ExcAt ea (.ref XP))))) (a := l2) (o := .lst [.str "other", .str z])
   have ee := Same.new hl2 (.lst [.str "other", .str z]) _ _ (upd_same (a := ea))
   generalize upd (upd H ea (.ext (ExcAt ea (.ref XP)))) l2 (.lst [.str "other", .str z]) = H5 at g2 e2 ee ⊢
   refine ⟨_, rfl, _, rfl, ea, _, 0, z, "plan", rfl, ee, exP, rfl, fun H6 g6 => ?_⟩
   refine .inr ⟨_, rfl, l2, _, _, _, rfl, rfl, SqL.of (g6 _ _ e2), pick _ l2, ?_⟩
   exact q _ (g2.trans g6)
end
abbrev sLip : Stmt := top 42
theorem intsL_ints : ∀ {ds : List PyData} {zs : List Int}, intsL ds = some zs → ds = zs.map PyData.int
 | [], _, e => by cases e; rfl
 | .int n :: r, zs, e => by
  change (intsL r).map (n :: ·) = some zs at e
  cases hh : intsL r with
  | none => rw [hh] at e; cases e
  | some ys =>
   rw [hh] at e
   cases e
   rw [intsL_ints hh]
   rfl
 | .none :: _, _, e => by cases e
 | .bool _ :: _, _, e => by cases e
 | .str _ :: _, _, e => by cases e
 | .list _ :: _, _, e => by cases e
 | .tuple _ :: _, _, e => by cases e
 | .dict _ :: _, _, e => by cases e
theorem cut_firstV (xs : List V) (i : Nat) : cutV xs none (some (i : Int)) = xs.take i := by
 unfold cutV
 rw [HT.sIx_none, HT.sIx_nat]
 simp
section
variable {f g1 : Addr} {fd gd1 : FuncData}
theorem scLip : FnScope ["plan", "thing", "k", "one"] ["plan", "thing"] (defScope sLip) := ⟨rfl, rfl, rfl, by decide +kernel, rfl, by decide +kernel, by decide +kernel⟩
set_option maxHeartbeats 0 in
theorem ok_lip {j : Nat} (F : Fun K "_law_is_part" "_law_is_part" sLip f fd) (B : Bt3 mg)
  (GA : FnOk P w K mg base CX0 j g1 gd1 ["plan", "one", "other"] spAdd) (bA : Binds K gd1 ["plan", "one", "other"] []) (kA : Kee K g1) (mA : mg "_law_partners" = some (.ref g1)) : FnOk P w K mg base CX0 (j + 1) f fd ["plan", "thing"] spIsTX := by
 refine F.ok scLip (fun vs H Q E h => ?_) (fun cdv A outer s H vs Q E hr h => ?_)
 ·obtain ⟨t, a, b, ns, ss, v, d, rfl, _⟩ := h
  rfl
 obtain ⟨t, a, b, ns, ss, v, d, rfl, pl, hd, sh, q⟩ := h
 refine ⟨_, (@pss_cons _ _ _ _ _ (ps_if (PW.pt (pw_or (pt_not (pt_val (pe_callB (call_isi "list") rfl B.isinstance boot_isinstance (pa_cons (pv 1) (pa_cons (pe_bltn (v := .ty "list") rfl B.list PyProof.Rows.boot_list rfl) pa_nil))))) (pw_or1 (pt_cmpR (op_eqD hr.units) (pv 1) (pe_lst pa_nil) (nomark _))))) (@pss_one _ _ _ (ps_ret pe_bl)) pss_nil) (@pss_cons _ _ _ _ _ (ps_for PassesOwn.never rfl (pi_enum rfl B.enumerate (pa_cons (pv 1) pa_nil)) (pg_tup rfl (pgs_cons (pg_name (i := 2) scLip.nd rfl (Or.inl rfl)) (pgs_cons (pg_name (i := 3) scLip.nd rfl (Or.inl rfl)) pgs_nil))) (@pss_cons _ _ _ _ _ (ps_if (PW.pt (pw_or (pt_not (pt_val (pe_callB (call_isi "int") rfl B.isinstance boot_isinstance (pa_cons (pv 3) (pa_cons (pe_bltn (v := .ty "int") rfl B.int PyProof.Rows.boot_int rfl) pa_nil))))) (pw_or1 (pt_val (pe_callB (call_isi "bool") rfl B.isinstance boot_isinstance (pa_cons (pv 3) (pa_cons (pe_bltn (v := .ty "bool") rfl B.bool PyProof.Rows.boot_bool rfl) pa_nil))))))) (@pss_one _ _ _ (ps_ret pe_bl)) pss_nil) (@pss_cons _ _ _ _ _ (ps_if (PW.pt (pw_or (pt_cmpR (op_notInI K) (pv 3) (pe_ix ix_tup (pv 0) pe_int (fun _ _ => rfl)) rfl) (pw_or1 (pt_cmpR (op_inI K) (pv 3) (pe_slice sl_list (pv 1) po_none (po_some (pv 2))) rfl)))) (@pss_one _ _ _ (ps_ret pe_bl)) pss_nil) (@pss_one _ _ _ (ps_if (PW.pt (pw_and (pt_cmpR op_gt (pv 2) pe_int (nomark _)) (pw_and1 (pt_not (pt_val (pe_call GA hr rfl mA kA bA .nil pass0 (pa_cons (pv 0) (pa_cons (pe_ix ix_list (pv 1) (pe_op op_sub (pv 2) pe_int) (fun _ _ => rfl)) (pa_cons (pv 3) pa_nil))))))))) (@pss_one _ _ _ (ps_ret pe_bl)) pss_nil))))) (@pss_one _ _ _ (ps_ret pe_bl)))), ?_⟩
 refine ⟨_, rfl, _, _, isL d, rfl, hd.ty, kit_l _ d, _, rfl, ite2 (fun c => ?_) (fun c => ?_)⟩
 ·have e : partD ns ss d = false := by cases d <;> first | rfl | cases c
  rw [e] at q
  exact q _ Same.rfl'
 cases hd with
 | lst ha hx =>
  rename_i p xs ds
  have hl := hx.len
  have fail : (∀ ws, ds = ws.map PyData.int → PartOk ns ss ws → False) → ∀ H', Same H H' → Q (.bl false) H' := fun no => by
   have e : partD ns ss (.list ds) = false := by
    unfold partD
    cases ez : intsD (.list ds) with
    | none => rfl
    | some ws =>
     show partB ns ss ws = false
     exact Bool.eq_false_iff.mpr fun h => no ws (intsL_ints ez) (partB_iff.mp h)
   rw [e] at q
   exact q
  refine ⟨_, rfl, (by show 0 ≤ sizeLine; decide), fun e0 he0 => ?_⟩
  have g1 := Same.new he0 (.lst [])
  have ee : upd H e0 (.lst []) e0 = some (.lst []) := upd_same
  generalize upd H e0 (.lst []) = H1 at g1 ee ⊢
  refine ⟨_, rcv_nil (SqL.of (g1 _ _ ha)) (SqL.of ee), _, rfl, ite2 (fun c1 => ?_) (fun c1 => ?_)⟩
  ·refine fail (fun ws e pk => ?_) _ g1
   have : xs = [] := List.isEmpty_iff.mp c1
   subst this
   have h1 := pk.ne
   have h2 : ds.length = ws.length := by rw [e, List.length_map]
   have h3 : ([] : List V).length = ds.length := hl
   have h4 : ds.length = 0 := h3.symm
   omega
  have x1 : xs ≠ [] := fun z => c1 (by rw [z]; rfl)
  refine ⟨_, rfl, p, _, rfl, g1 _ _ ha, ?_⟩
  refine for_enum (xs := xs) (fun i σ H' => ∃ (y2 y3 : Option V) (zs : List Int), σ = [some (.ref t), some (.ref p), y2, y3] ∧ Same H H' ∧ xs.take i = zs.map V.int ∧ ds.take i = zs.map PyData.int ∧ (zs = [] ∨ PartOk ns ss zs))
   ⟨none, none, [], rfl, g1, rfl, rfl, .inl rfl⟩ (fun i σ H' _ ⟨_, _, _, _, g, _⟩ => g _ _ ha) ?_ ?_
  ·rintro i x σ H3 T hxi ⟨y2, y3, zs, rfl, g3, tx, td, zk⟩ hT
   obtain ⟨d', ed, hd'⟩ := hx.at hxi
   obtain ⟨hi, hv⟩ := List.getElem?_eq_some_iff.mp ed
   have hix : i < xs.length := (List.getElem?_eq_some_iff.mp hxi).1
   have zl : zs.length = i := by
    have := congrArg List.length tx
    rw [List.length_map, List.length_take] at this
    omega
   have eqz : ∀ {ws : List Int}, ds = ws.map PyData.int → zs = ws.take i ∧ i < ws.length := fun {ws} e => by
    rw [e, ← List.map_take] at td
    refine ⟨((List.map_inj_right (fun _ _ h => PyData.int.inj h)).mp td).symm, ?_⟩
    rw [e, List.length_map] at hi
    exact hi
   have gT : Same H3 (upd H3 T (.tup [.int (i : Int), x])) := Same.new hT _
   have eT : (upd H3 T (.tup [.int (i : Int), x])) T = some (.tup [.int (i : Int), x]) := upd_same
   generalize upd H3 T (.tup [.int (i : Int), x]) = H4 at gT eT ⊢
   have g4 := g3.trans gT
   have hd4 := hd'.same g4
   have pl4 := pl.same g4
   have ha4 := g4 _ _ ha
   refine ⟨T, _, rfl, SqT.of eT, rfl, _, _, rfl, _, _, rfl, rfl, ?_⟩
   have notI : isW d' = false → Q (.bl false) H4 := fun e => fail (fun ws ew _ => by
    rw [ew, List.getElem?_map] at ed
    obtain ⟨z, _, rfl⟩ := Option.map_eq_some_iff.mp ed
    cases e) _ g4
   refine ⟨_, rfl, _, _, isI d', rfl, hd4.ty, kit_i _ d', _, rfl, ite2 (fun c3 => ?_) (fun c3 => ?_)⟩
   ·exact notI (by cases d' <;> first | rfl | cases c3)
   refine ⟨_, rfl, _, _, isB d', rfl, hd4.ty, kit_b _ d', _, rfl, ite2 (fun c4 => ?_) (fun c4 => ?_)⟩
   ·exact notI (by cases d' <;> first | rfl | cases c4)
   obtain ⟨z, rfl⟩ : ∃ z, d' = .int z := by cases d' <;> first | exact ⟨_, rfl⟩ | exact absurd rfl c3 | exact absurd rfl c4
   have ex : x = .int z := Dat.ofInt hd4
   subst ex
   have atw : ∀ {ws : List Int}, ds = ws.map PyData.int → ws[i]? = some z := fun {ws} e => by
    rw [e, List.getElem?_map] at ed
    obtain ⟨y, hy, e2⟩ := Option.map_eq_some_iff.mp ed
    cases e2
    exact hy
   refine ⟨_, rfl, _, rfl, t, _, 0, _, rfl, rfl, SqT.of pl4.t, rfl, a, z, ns, rfl, rfl, SqL.of pl4.a, _, rfl, ite2 (fun c5 => ?_) (fun c5 => ?_)⟩
   ·refine fail (fun ws ew pk => ?_) _ g4
    have c6 : (!ns.contains z) = true := c5
    rw [List.contains_iff_mem.mpr (pk.sub z (List.mem_of_getElem? (atw ew)))] at c6
    cases c6
   have zin : z ∈ ns := by
    cases hc : ns.contains z with
    | true => exact List.contains_iff_mem.mp hc
    | false => exact absurd (show (!ns.contains z) = true by rw [hc]; rfl) c5
   refine ⟨_, rfl, _, rfl, _, rfl, _, rfl, p, _, rfl, SqL.of ha4, fun c0 hc0 => ?_⟩
   rw [cut_firstV, tx]
   have g5 := Same.new hc0 (.lst (zs.map V.int))
   have e5 : upd H4 c0 (.lst (zs.map V.int)) c0 = some (.lst (zs.map V.int)) := upd_same
   generalize upd H4 c0 (.lst (zs.map V.int)) = H5 at g5 e5 ⊢
   have G5 := g4.trans g5
   have pl5 := pl.same G5
   have ha5 := G5 _ _ ha
   refine ⟨c0, z, zs, rfl, rfl, SqL.of e5, _, rfl, ite2 (fun c6 => ?_) (fun c6 => ?_)⟩
   ·refine fail (fun ws ew pk => ?_) _ G5
    have c7 : zs.contains z = true := c6
    have hz := List.contains_iff_mem.mp c7
    obtain ⟨e1, e2⟩ := eqz ew
    rw [e1] at hz
    obtain ⟨m, hm, e3⟩ := List.mem_take_iff_getElem.mp hz
    have e4 := atw ew
    rw [List.getElem?_eq_getElem e2] at e4
    have := (List.getElem_inj pk.nd).mp (e3.trans (Option.some.inj e4).symm)
    omega
   have nin : zs.contains z = false := Bool.eq_false_iff.mpr c6
   have tx1 : xs.take (i + 1) = (zs ++ [z]).map V.int := by rw [List.take_add_one, tx, hxi, List.map_append]; rfl
   have td1 : ds.take (i + 1) = (zs ++ [z]).map PyData.int := by rw [List.take_add_one, td, ed, List.map_append]; rfl
   refine ⟨_, rfl, _, _, rfl, rfl, _, rfl, ite2 (fun ck => ?_) (fun ck => ?_)⟩
   ·have i0 : 0 < i := by
     have : (0 : Int) < (i : Int) := of_decide_eq_true ck
     omega
    have pk : PartOk ns ss zs := zk.elim (fun h => by rw [h] at zl; exact absurd zl.symm (by show ¬ i = 0; omega)) id
    have hat : atI xs ((i : Int) - 1) = some (.int (zs.getD (zs.length - 1) 0)) := by
     rw [show (i : Int) - 1 = ((i - 1 : Nat) : Int) by omega, show zs.length - 1 = i - 1 by omega]
     refine atI_nat ?_
     have h1 : (xs.take i)[i - 1]? = xs[i - 1]? := List.getElem?_take_of_lt (by omega)
     rw [← h1, tx, List.getElem?_map, List.getD_eq_getElem?_getD, List.getElem?_eq_getElem (show i - 1 < zs.length by omega)]
     rfl
    refine ⟨_, rfl, _, rfl, _, rfl, _, _, rfl, rfl, p, _, _, _, rfl, rfl, SqL.of ha5, hat, _, rfl, t, a, b, ns, ss, _, z, rfl, pl5, _, rfl, ite2 (fun c8 => ?_) (fun c8 => ?_)⟩
    ·refine fail (fun ws ew pw => ?_) _ G5
     obtain ⟨e1, e2⟩ := eqz ew
     have nb := pw.nb
     unfold nbB at nb
     rw [List.all_eq_true] at nb
     have h1 := nb (i - 1) (List.mem_range.mpr (by omega))
     have e3 : ws.getD (i - 1) 0 = zs.getD (zs.length - 1) 0 := by
      rw [zl, List.getD_eq_getElem?_getD, List.getD_eq_getElem?_getD, e1, List.getElem?_take_of_lt (by omega)]
     have e4 : ws.getD (i - 1 + 1) 0 = z := by rw [show i - 1 + 1 = i by omega, List.getD_eq_getElem?_getD, atw ew]; rfl
     rw [e3, e4] at h1
     have c9 : (!addUp ss (zs.getD (zs.length - 1) 0) z) = true := c8
     rw [h1] at c9
     cases c9
    ·have ad : addUp ss (zs.getD (zs.length - 1) 0) z = true := by
      cases hc : addUp ss (zs.getD (zs.length - 1) 0) z with
      | true => rfl
      | false => exact absurd (show (!addUp ss (zs.getD (zs.length - 1) 0) z) = true by rw [hc]; rfl) c8
     exact ⟨_, _, zs ++ [z], rfl, G5, tx1, td1, .inr (nb_more pk zin nin ad)⟩
   ·have i0 : i = 0 := by
     have : ¬ (0 : Int) < (i : Int) := fun h => ck (decide_eq_true h)
     omega
    have ze : zs = [] := List.length_eq_zero_iff.mp (by omega)
    refine iteF ⟨_, _, zs ++ [z], rfl, G5, tx1, td1, .inr ?_⟩
    rw [ze]
    exact nb_one zin
  ·rintro σ H3 ⟨y2, y3, zs, rfl, g3, tx, td, zk⟩
   rw [List.take_of_length_le (Nat.le_refl _)] at tx
   rw [hl, List.take_of_length_le (Nat.le_refl _)] at td
   have pk : PartOk ns ss zs := zk.elim (fun h => absurd (by rw [tx, h]; rfl) x1) id
   have il : ∀ zs : List Int, intsL (zs.map PyData.int) = some zs := fun zs => by
    induction zs with
    | nil => rfl
    | cons y r ih => show (intsL (r.map PyData.int)).map (y :: ·) = _; rw [ih]; rfl
   have e : partD ns ss (.list ds) = true := by
    unfold partD
    show (match intsL ds with | some zs => partB ns ss zs | none => false) = true
    rw [td, il]
    exact partB_iff.mpr pk
   rw [e] at q
   exact q _ g3
 | _ => exact absurd rfl c
end
abbrev sOdl : Stmt := top 47
def NPl (M : Hp) (ss zs : List Int) (v : V) : Prop := ∃ dd, Dat M v dd ∧ Fine 2000 4 dd ∧ placeD ss zs dd = false
theorem npl_of {M : Hp} {ss zs : List Int} {v : V} (th : Th M v 2000 4) (h : ∀ i : Int, v = .int i → (iv (plcs ss zs)).contains i = false) : NPl M ss zs v := by
 obtain ⟨dd, hd, f⟩ := th
 refine ⟨dd, hd, f, ?_⟩
 cases hd with
 | int i => exact h i rfl
 | _ => rfl
theorem ex_same {d : Addr} {H H' : Hp} (e : Ex (· = d) H H') : Same (msk (S1 d) H) (msk (S1 d) H') := fun b o h => by
 obtain ⟨n, h⟩ := msk_some h
 rw [msk_in n]
 exact e b o n h
theorem plc_in {ss zs : List Int} {x : Int} (h : x ∈ iv (plcs ss zs)) : 0 ≤ x ∧ x < zs.length := by
 obtain ⟨k, hk, rfl⟩ := List.mem_map.mp h
 have := List.mem_range.mp (List.mem_filter.mp hk).1
 omega
def spOdl : Sp := fun vs H Q _ => ∃ (d t a b p : Addr) (ns ss zs : List Int), vs = [.ref d, .ref t, .ref p] ∧ StT H d ∧ IsPl H t a b ns ss ∧ (t ≠ d ∧ a ≠ d ∧ b ≠ d) ∧ H p = some (.lst (zs.map V.int)) ∧ p ≠ d ∧ 1 ≤ zs.length ∧ zs.length ≤ 10 ∧
 ∀ (v : V) (H' : Hp), StT H' d → Ex (· = d) H H' → NPl (msk (S1 d) H') ss zs v → Q v H'
section
variable {f tk lp : Addr} {fd tkd lpd : FuncData}
theorem scOdl : FnScope ["store", "plan", "part", "good", "n", "some"] ["store", "plan", "part"] (defScope sOdl) := ⟨rfl, rfl, rfl, by decide +kernel, rfl, by decide +kernel, by decide +kernel⟩
set_option maxHeartbeats 0 in
theorem ok_odl (F : Fun K "_law_odd_place" "_law_odd_place" sOdl f fd) (B : Bt2 mg) (GT : FnOk P w K mg base CX0 2 tk tkd ["store", "many"] spTkT) (bT : Binds K tkd ["store", "many"] []) (kT : Kee K tk) (mT : mg "_law_take" = some (.ref tk))
  (GL : FnOk P w K mg base CX0 2 lp lpd ["plan", "part"] spPtt) (bL : Binds K lpd ["plan", "part"] []) (kL : Kee K lp) (mL : mg "_law_places" = some (.ref lp)) : FnOk P w K mg base CX0 3 f fd ["store", "plan", "part"] spOdl := by
 refine F.ok scOdl (fun vs H Q E h => ?_) (fun cdv A outer s H vs Q E hr h => ?_)
 ·obtain ⟨d, t, a, b, p, ns, ss, zs, rfl, _⟩ := h
  rfl
 obtain ⟨d, t, a, b, p, ns, ss, zs, rfl, S0, pl, ⟨td, ad, bd⟩, hp, pd, z1, z10, q⟩ := h
 refine ⟨_, (@pss_cons _ _ _ _ _ (ps_set (i := 3) scOdl.nd rfl (Or.inr rfl) (pe_call GL hr rfl mL kL bL .nil pass0 (QA.h (qa_cons (QE.mk (pv 1)) (qa_cons (QE.mk (pv 2)) qa_nil))))) (@pss_cons _ _ _ _ _ (ps_set (i := 4) scOdl.nd rfl (Or.inl rfl) (pe_callB call_len_seq rfl B.len PySem.boot_len (QA.h (qa_cons (QE.mk (pv 2)) qa_nil)))) (@pss_cons _ _ _ _ _ (ps_set (i := 5) scOdl.nd rfl (Or.inl rfl) (QE.h (qe_lst (qa_cons (qe_op op_sub (QE.mk (pv 4)) (QE.mk pe_int)) (qa_cons (qe_op op_sub (QE.mk (pv 4)) (QE.mk pe_int)) (qa_cons (QE.mk (pv 4)) (qa_cons (qe_op op_add (QE.mk (pv 4)) (QE.mk (pe_call GT hr rfl mT kT bT .nil pass0 (QA.h (qa_cons (QE.mk (pv 0)) (qa_cons (QE.mk pe_int) qa_nil)))))) (qa_cons (QE.mk (pe_un un_neg pe_int)) (qa_cons (qe_op op_sub (QE.mk pe_int) (QE.mk (pv 4))) (qa_cons (qe_op op_sub (QE.mk (pv 4)) (QE.mk pe_int)) (qa_cons (QE.mk pe_int) qa_nil))))))))))) (@pss_cons _ _ _ _ _ (ps_comp ["p"] rfl (blk_ok (defScope sOdl) ["store", "plan", "part", "good", "n", "some"] rfl rfl (by decide +kernel)) (pi_list (pv 5)) (fun pins C fp s3 H3 => ⟨(pg_name (i := 0) (show (blkN ["p"] ["store", "plan", "part", "good", "n", "some"]).Nodup by decide +kernel) rfl (Or.inl rfl)), (pif_one (pt_cmpR (op_notInI K) (pv 0) (pv 4) rfl)), (pv 0)⟩) (j := 5) scOdl.nd rfl (Or.inl rfl) rfl) (@pss_cons _ _ _ _ _ (ps_set (i := 5) scOdl.nd rfl (Or.inl rfl) (QE.h (qe_op op_cat (QE.mk (pv 5)) (QE.mk (pe_comp ["p"] rfl (blk_ok (defScope sOdl) ["store", "plan", "part", "good", "n", "some"] rfl rfl (by decide +kernel)) (pi_range1 rfl B.range (QA.h (qa_cons (QE.mk (pv 4)) qa_nil))) (fun pins C fp s3 H3 => ⟨(pg_name (i := 0) (show (blkN ["p"] ["store", "plan", "part", "good", "n", "some"]).Nodup by decide +kernel) rfl (Or.inl rfl)), (pif_one (pt_cmpR (op_notInI K) (pv 0) (pv 4) rfl)), (pv 0)⟩)))))) (@pss_cons _ _ _ _ _ (ps_set (i := 5) scOdl.nd rfl (Or.inl rfl) (QE.h (qe_op op_cat (QE.mk (pv 5)) (qe_lst (qa_cons (QE.mk pe_bl) (qa_cons (QE.mk pe_bl) (qa_cons (QE.mk pe_non) (qa_cons (QE.mk pe_str) (qa_cons (qe_lst (qa_cons (QE.mk pe_int) qa_nil)) (qa_cons (qe_tup (qa_cons (QE.mk pe_int) qa_nil)) (qa_cons (QE.mk pe_dnewK) (qa_cons (qe_op op_pow (QE.mk pe_int) (QE.mk pe_int)) (qa_cons (qe_op op_sub (QE.mk (pe_un un_neg pe_int)) (QE.mk (pe_call GT hr rfl mT kT bT .nil pass0 (QA.h (qa_cons (QE.mk (pv 0)) (qa_cons (QE.mk pe_int) qa_nil)))))) qa_nil))))))))))))) (@pss_one _ _ _ (ps_ret (pe_ix ix_list (pv 5) (pe_call GT hr rfl mT kT bT .nil pass0 (QA.h (qa_cons (QE.mk (pv 0)) (qa_cons (QE.mk (pe_callB call_len_seq rfl B.len PySem.boot_len (QA.h (qa_cons (QE.mk (pv 5)) qa_nil)))) qa_nil)))) (fun _ _ => rfl)))))))))), ?_⟩
 have zml : (zs.map V.int).length = zs.length := List.length_map _
 refine ⟨_, rfl, _, rfl, t, a, b, p, ns, ss, zs, rfl, pl, hp, z1, z10, fun gd H1 g1 ngd egd => ?_⟩
 have gdd : gd ≠ d := S0.out ngd
 have S1' := S0.ex g1
 have E1 : Ex (· = d) H H1 := Ex.same g1
 have hin : ∀ {x : Int}, x ∈ iv (plcs ss zs) → 0 ≤ x ∧ x < zs.length := fun h => plc_in h
 obtain ⟨G, eG⟩ : ∃ G, G = iv (plcs ss zs) := ⟨_, rfl⟩
 rw [← eG] at egd hin
 refine ⟨_, rfl, p, _, rfl, .inl (SqL.of (g1 _ _ hp)), ?_⟩
 rw [zml]
 obtain ⟨n, en⟩ : ∃ n : Int, n = ((zs.length : Nat) : Int) := ⟨_, rfl⟩
 rw [← en]
 refine ⟨_, rfl, _, _, rfl, rfl, _, rfl, _, _, rfl, rfl, _, rfl, _, rfl, _, rfl, d, _, rfl, S1', by decide, by decide, fun r1 H2 r10 r11 S2 o2 => ⟨_, _, rfl, rfl, _, rfl, _, rfl, _, _, rfl, rfl, _, rfl, _, _, rfl, rfl, (by show 8 ≤ sizeLine; decide), fun l1 hl1 => ?_⟩⟩
 have E2 := E1.trans o2.ex
 have egd2 := (o2 gd gdd).trans egd
 obtain ⟨xs1, ex1⟩ : ∃ xs1 : List Int, xs1 = [n - 2, n - 1, n, n + r1, -1, 0 - n, n - 3, 0] := ⟨_, rfl⟩
 have xl1 : xs1.length = 8 := by rw [ex1]; rfl
 have xb1 : ∀ x ∈ xs1, -100 < x ∧ x < 100 := fun x hx => by
  rw [ex1] at hx
  simp only [List.mem_cons, List.not_mem_nil, or_false] at hx
  omega
 have g3 := Same.new hl1 (.lst (xs1.map V.int))
 have e3 : upd H2 l1 (.lst (xs1.map V.int)) l1 = some (.lst (xs1.map V.int)) := upd_same
 have S3 := S2.ex g3
 have E3 := E2.trans (Ex.same (S := (· = d)) g3)
 have egd3 := g3 _ _ egd2
 rw [show [V.int (n - 2), V.int (n - 1), V.int n, V.int (n + r1), V.int (-1), V.int (0 - n), V.int (n - 3), V.int 0] = xs1.map V.int by rw [ex1]; rfl]
 generalize upd H2 l1 (.lst (xs1.map V.int)) = H3 at g3 e3 S3 E3 egd3 ⊢
 have xml1 : (xs1.map V.int).length = xs1.length := List.length_map _
 refine ⟨_, rfl, l1, rfl, ⟨_, SqL.of e3⟩, fun D hD => ?_⟩
 refine turns_list (σ := [some (.ref d), some (.ref t), some (.ref p), some (.ref gd), some (.int n), some (.ref l1)]) (xs := xs1.map V.int) (fun i => !G.contains (xs1.getD i 0)) (fun i => .int (xs1.getD i 0)) (SqL.of e3) hD (by omega) (fun i H' hi g P hP => ?_) (fun i H' hi _ g P hP => ?_) fun H4 g4 e4 => ?_
 ·rw [getD_map_int _ (by rw [xml1] at hi; exact hi)]
  exact ⟨_, rfl, _, rfl, gd, xs1.getD i 0, G, rfl, rfl, SqL.of (g _ _ egd3), _, rfl, hP _ Same.rfl'⟩
 ·rw [getD_map_int _ (by rw [xml1] at hi; exact hi)]
  exact ⟨_, rfl, hP _ Same.rfl'⟩
 have ef : (((List.range (xs1.map V.int).length).filter fun i => !G.contains (xs1.getD i 0)).map fun i => V.int (xs1.getD i 0)) = (xs1.filter fun x => !G.contains x).map V.int := by
  rw [xml1, ← range_getD_filter (fun x => !G.contains x) (0 : Int) xs1, List.map_map]
  rfl
 rw [ef] at e4
 have S4 := S3.ex g4
 have E4 := E3.trans (Ex.same (S := (· = d)) g4)
 have egd4 := g4 _ _ egd3
 have yl : (xs1.filter fun x => !G.contains x).length ≤ 8 := Nat.le_trans (List.length_filter_le _ _) (by omega)
 have yb : ∀ x ∈ xs1.filter fun x => !G.contains x, x.natAbs < 10 ^ 30 ∧ G.contains x = false := fun x hx => by
  obtain ⟨h1, h2⟩ := List.mem_filter.mp hx
  have := xb1 x h1
  refine ⟨by omega, ?_⟩
  cases hc : G.contains x with
  | false => rfl
  | true => rw [hc] at h2; cases h2
 generalize xs1.filter (fun x => !G.contains x) = ys at e4 yl yb ⊢
 have yml : (ys.map V.int).length = ys.length := List.length_map _
 refine ⟨_, rfl, _, rfl, n, rfl, by omega, by omega, fun D2 hD2 => ?_⟩
 refine turns_range (lo := 0) (n := n.toNat) (σ := [some (.ref d), some (.ref t), some (.ref p), some (.ref gd), some (.int n), some (.ref D)]) (fun i => !G.contains ((i : Nat) : Int)) (fun i => .int ((i : Nat) : Int)) hD2 (by omega) (fun i H' hi g P hP => ?_) (fun i H' hi _ g P hP => ?_) fun H5 g5 e5 => ?_
 ·rw [← Int.zero_add (i : Int)] at hP
  exact ⟨_, rfl, _, rfl, gd, 0 + (i : Int), G, rfl, rfl, SqL.of (g _ _ egd4), _, rfl, hP _ Same.rfl'⟩
 ·rw [← Int.zero_add (i : Int)] at hP
  exact ⟨_, rfl, hP _ Same.rfl'⟩
 obtain ⟨ws, ew, wl, wb⟩ : ∃ ws : List Int, H5 D2 = some (.lst (ws.map V.int)) ∧ ws.length ≤ 10 ∧ ∀ x ∈ ws, x.natAbs < 10 ^ 30 ∧ G.contains x = false := by
  refine ⟨((List.range n.toNat).filter fun i => !G.contains ((i : Nat) : Int)).map fun i : Nat => (i : Int), by rw [e5, List.map_map]; rfl, ?_, fun x hx => ?_⟩
  ·rw [List.length_map]
   have := List.length_filter_le (fun i : Nat => !G.contains ((i : Nat) : Int)) (List.range n.toNat)
   rw [List.length_range] at this
   omega
  ·obtain ⟨k, hk, rfl⟩ := List.mem_map.mp hx
   obtain ⟨h1, h2⟩ := List.mem_filter.mp hk
   have := List.mem_range.mp h1
   refine ⟨by omega, ?_⟩
   cases hc : G.contains (k : Int) with
   | false => rfl
   | true => rw [hc] at h2; cases h2
 have wml : (ws.map V.int).length = ws.length := List.length_map _
 refine ⟨D, D2, _, _, rfl, rfl, g5 _ _ e4, ew, small (by rw [yml, wml]; omega), fun l2 hl2 => ?_⟩
 have g6 := Same.new hl2 (.lst (ys.map V.int ++ ws.map V.int))
 have e6 : upd H5 l2 (.lst (ys.map V.int ++ ws.map V.int)) l2 = some (.lst (ys.map V.int ++ ws.map V.int)) := upd_same
 have S6 := (S4.ex g5).ex g6
 have E6 := E4.trans (Ex.same (S := (· = d)) (g5.trans g6))
 have l2d : l2 ≠ d := (S4.ex g5).out hl2
 generalize upd H5 l2 (.lst (ys.map V.int ++ ws.map V.int)) = H6 at g6 e6 S6 E6 ⊢
 refine ⟨_, rfl, (by show 1 ≤ sizeLine; decide), fun q1 hq1 => ⟨(by show 1 ≤ sizeLine; decide), fun q2 hq2 q3 hq3 => ⟨_, _, rfl, rfl, ⟨by decide, by decide, by decide⟩, _, rfl, _, rfl, d, _, rfl, ?_⟩⟩⟩
 have g7 := Same.new hq1 (.lst [.int 0])
 have g8 := Same.new hq2 (.tup [.int 0])
 have g9 := Same.new hq3 (.dK [])
 have f1 : upd (upd (upd H6 q1 (.lst [.int 0])) q2 (.tup [.int 0])) q3 (.dK []) q1 = some (.lst [.int 0]) := g9 _ _ (g8 _ _ upd_same)
 have f2 : upd (upd (upd H6 q1 (.lst [.int 0])) q2 (.tup [.int 0])) q3 (.dK []) q2 = some (.tup [.int 0]) := g9 _ _ upd_same
 have f3 : upd (upd (upd H6 q1 (.lst [.int 0])) q2 (.tup [.int 0])) q3 (.dK []) q3 = some (.dK []) := upd_same
 have q1d : q1 ≠ d := S6.out hq1
 have q2d : q2 ≠ d := (S6.ex g7).out hq2
 have q3d : q3 ≠ d := ((S6.ex g7).ex g8).out hq3
 have g79 := g7.trans (g8.trans g9)
 have S9 := S6.ex g79
 have E9 := E6.trans (Ex.same (S := (· = d)) g79)
 have e69 := g79 _ _ e6
 generalize upd (upd (upd H6 q1 (.lst [.int 0])) q2 (.tup [.int 0])) q3 (.dK []) = H9 at g7 g8 g9 f1 f2 f3 g79 S9 E9 e69 ⊢
 refine ⟨S9, by decide, by decide, fun r2 H10 r20 r21 S10 o10 => ⟨_, _, rfl, rfl, (by show 9 ≤ sizeLine; decide), fun l3 hl3 => ?_⟩⟩
 have e10 := (o10 l2 l2d).trans e69
 have h1 := (o10 q1 q1d).trans f1
 have h2 := (o10 q2 q2d).trans f2
 have h3 := (o10 q3 q3d).trans f3
 have E10 := E9.trans o10.ex
 have l3d : l3 ≠ d := S10.out hl3
 have g11 := Same.new hl3 (.lst [.bl true, .bl false, .non, .str "0", .ref q1, .ref q2, .ref q3, .int (10 ^ (20 : Int).toNat), .int (-1 - r2)])
 have e11 : upd H10 l3 (.lst [.bl true, .bl false, .non, .str "0", .ref q1, .ref q2, .ref q3, .int (10 ^ (20 : Int).toNat), .int (-1 - r2)]) l3 = some (.lst [.bl true, .bl false, .non, .str "0", .ref q1, .ref q2, .ref q3, .int (10 ^ (20 : Int).toNat), .int (-1 - r2)]) := upd_same
 refine ⟨l2, l3, _, _, rfl, rfl, g11 _ _ e10, e11, small (by (try simp only [List.length_append, List.length_cons, List.length_nil]); rw [yml, wml]; omega), fun l4 hl4 => ?_⟩
 have S11 := S10.ex g11
 have l4d : l4 ≠ d := S11.out hl4
 have E11 := E10.trans (Ex.same (S := (· = d)) g11)
 have k1 := g11 _ _ h1
 have k2 := g11 _ _ h2
 have k3 := g11 _ _ h3
 generalize upd H10 l3 (.lst [.bl true, .bl false, .non, .str "0", .ref q1, .ref q2, .ref q3, .int (10 ^ (20 : Int).toNat), .int (-1 - r2)]) = H11 at g11 e11 S11 E11 k1 k2 k3 hl4 ⊢
 have g12 := Same.new hl4 (.lst ((ys.map V.int ++ ws.map V.int) ++ [.bl true, .bl false, .non, .str "0", .ref q1, .ref q2, .ref q3, .int (10 ^ (20 : Int).toNat), .int (-1 - r2)]))
 have e12 : upd H11 l4 (.lst ((ys.map V.int ++ ws.map V.int) ++ [.bl true, .bl false, .non, .str "0", .ref q1, .ref q2, .ref q3, .int (10 ^ (20 : Int).toNat), .int (-1 - r2)])) l4 = some (.lst ((ys.map V.int ++ ws.map V.int) ++ [.bl true, .bl false, .non, .str "0", .ref q1, .ref q2, .ref q3, .int (10 ^ (20 : Int).toNat), .int (-1 - r2)])) := upd_same
 have S12 := S11.ex g12
 have E12 := E11.trans (Ex.same (S := (· = d)) g12)
 have k1 := g12 _ _ k1
 have k2 := g12 _ _ k2
 have k3 := g12 _ _ k3
 generalize upd H11 l4 (.lst ((ys.map V.int ++ ws.map V.int) ++ [.bl true, .bl false, .non, .str "0", .ref q1, .ref q2, .ref q3, .int (10 ^ (20 : Int).toNat), .int (-1 - r2)])) = H12 at g12 e12 S12 E12 k1 k2 k3 ⊢
 obtain ⟨al, eal⟩ : ∃ al : List V, al = (ys.map V.int ++ ws.map V.int) ++ [.bl true, .bl false, .non, .str "0", .ref q1, .ref q2, .ref q3, .int (10 ^ (20 : Int).toNat), .int (-1 - r2)] := ⟨_, rfl⟩
 rw [← eal] at e12
 have all : al.length = ys.length + ws.length + 9 := by rw [eal, List.length_append, List.length_append, yml, wml]; rfl
 refine ⟨_, rfl, _, rfl, _, rfl, l4, _, rfl, .inl (SqL.of e12), d, _, rfl, S12, by rw [all]; omega, by rw [all]; omega, fun r3 H13 r30 r31 S13 o13 => ?_⟩
 obtain ⟨v, hv, mv⟩ := pick_any (xs := al) r30 r31
 refine ⟨l4, _, _, v, rfl, rfl, SqL.of ((o13 l4 l4d).trans e12), hv, q v _ S13 (E12.trans o13.ex) (npl_of ?_ fun i ei => ?_)⟩
 ·rw [eal] at mv
  rcases List.mem_append.mp mv with z | z
  ·rcases List.mem_append.mp z with z | z
   ·obtain ⟨x, hx, rfl⟩ := List.mem_map.mp z
    exact Th.int (yb x hx).1
   ·obtain ⟨x, hx, rfl⟩ := List.mem_map.mp z
    exact Th.int (wb x hx).1
  ·have m1 : msk (S1 d) H13 q1 = some (.lst [.int 0]) := by rw [msk_in (S := S1 d) q1d]; exact (o13 q1 q1d).trans k1
   have m2 : msk (S1 d) H13 q2 = some (.tup [.int 0]) := by rw [msk_in (S := S1 d) q2d]; exact (o13 q2 q2d).trans k2
   have m3 : msk (S1 d) H13 q3 = some (.dK []) := by rw [msk_in (S := S1 d) q3d]; exact (o13 q3 q3d).trans k3
   simp only [List.mem_cons, List.not_mem_nil, or_false] at z
   rcases z with e | e | e | e | e | e | e | e | e <;> rw [e]
   ·exact Th.bl _
   ·exact Th.bl _
   ·exact Th.non
   ·exact Th.str (by decide) (by decide)
   ·exact (Th.lst (xs := [.int 0]) (n := 0) (k := 0) m1 fun x hx => by rw [List.mem_singleton.mp hx]; exact Th.int (by decide)).mono (by show 1 * 1 ≤ 2000; decide) (by decide)
   ·exact (Th.tup (xs := [.int 0]) (n := 0) (k := 0) m2 fun x hx => by rw [List.mem_singleton.mp hx]; exact Th.int (by decide)).mono (by show 1 * 1 ≤ 2000; decide) (by decide)
   ·exact (Th.dct (k := 3) m3)
   ·exact Th.int (by decide)
   ·exact Th.int (by omega)
 ·subst ei
  rw [← eG]
  rw [eal] at mv
  have out : ∀ x : Int, (x < 0 ∨ 10 ≤ x) → G.contains x = false := fun x hx => by
   cases hc : G.contains x with
   | false => rfl
   | true =>
    have := hin (List.contains_iff_mem.mp hc)
    omega
  rcases List.mem_append.mp mv with z | z
  ·rcases List.mem_append.mp z with z | z
   ·obtain ⟨x, hx, e⟩ := List.mem_map.mp z
    cases e
    exact (yb _ hx).2
   ·obtain ⟨x, hx, e⟩ := List.mem_map.mp z
    cases e
    exact (wb _ hx).2
  ·simp only [List.mem_cons, List.not_mem_nil, or_false] at z
   rcases z with e | e | e | e | e | e | e | e | e
   ·cases e
   ·cases e
   ·cases e
   ·cases e
   ·cases e
   ·cases e
   ·cases e
   ·rw [V.int.inj e]
    exact out _ (.inr (by decide))
   ·rw [V.int.inj e]
    exact out _ (.inl (by omega))
end
abbrev sOdp : Stmt := top 46
def OdT (M : Hp) (v : V) : Prop := ∃ dd, Dat M v dd ∧ Fine 2000 4 dd ∧ shortD dd
theorem odt_lst {M : Hp} {q : Addr} {xs : List V} (h : M q = some (.lst xs)) (l : xs.length ≤ 40) (hx : ∀ x ∈ xs, Th M x 40 1) : OdT M (.ref q) := by
 obtain ⟨dd, hd, f⟩ := (Th.lst (n := 40) (k := 1) h hx).mono (show xs.length * 41 ≤ 2000 by omega) (show 2 ≤ 4 by decide)
 refine ⟨dd, hd, f, ?_⟩
 cases hd with
 | lst ha hall =>
  rw [h] at ha
  cases ha
  have := hall.len
  show _ < 64
  omega
 | tup ha _ => trivial
 | dct ha => trivial
theorem odt_tup {M : Hp} {q : Addr} {xs : List V} (h : M q = some (.tup xs)) (l : xs.length ≤ 40) (hx : ∀ x ∈ xs, Th M x 40 1) : OdT M (.ref q) := by
 obtain ⟨dd, hd, f⟩ := (Th.tup (n := 40) (k := 1) h hx).mono (show xs.length * 41 ≤ 2000 by omega) (show 2 ≤ 4 by decide)
 refine ⟨dd, hd, f, ?_⟩
 cases hd with
 | lst ha hall => rw [h] at ha; cases ha
 | tup ha _ => trivial
 | dct ha => trivial
theorem odt_flat {M : Hp} {v : V} (th : Th M v 2000 4) (h : ∀ q, v ≠ .ref q) : OdT M v := by
 obtain ⟨dd, hd, f⟩ := th
 refine ⟨dd, hd, f, ?_⟩
 cases hd with
 | lst _ _ => exact absurd rfl (h _)
 | _ => trivial
theorem odt_dct {M : Hp} {q : Addr} (h : M q = some (.dK [])) : OdT M (.ref q) := ⟨_, .dct h, (let ⟨dd, hd, f⟩ := Th.dct (n := 2000) (k := 3) h; by cases hd with | lst ha _ => rw [h] at ha; cases ha | tup ha _ => rw [h] at ha; cases ha | dct _ => exact f), trivial⟩
theorem odt_one {M : Hp} {q p : Addr} {xs : List V} (h : M q = some (.lst [.ref p])) (hp : M p = some (.lst xs)) (l : xs.length ≤ 10) (hx : ∀ x ∈ xs, Th M x 40 1) : OdT M (.ref q) := by
 obtain ⟨dd, hd, f⟩ := (Th.lst (xs := [.ref p]) (n := 500) (k := 2) h fun x hx' => by rw [List.mem_singleton.mp hx']; exact (Th.lst (n := 40) (k := 1) hp hx).mono (show xs.length * 41 ≤ 500 by omega) (by decide)).mono (show 1 * 501 ≤ 2000 by decide) (show 3 ≤ 4 by decide)
 refine ⟨dd, hd, f, ?_⟩
 cases hd with
 | lst ha hall =>
  rw [h] at ha
  cases ha
  have := hall.len
  show _ < 64
  have e : [V.ref p].length = 1 := rfl
  omega
 | tup ha _ => trivial
 | dct ha => trivial
theorem ixN_of {n : Nat} {i : Int} (h0 : 0 ≤ i) (h1 : i < (n : Int)) : ixN n i = some i.toNat := by unfold ixN; rw [if_pos h0, if_pos h1]
def spOdp : Sp := fun vs H Q _ => ∃ (d t a b p : Addr) (ns ss zs : List Int), vs = [.ref d, .ref t, .ref p] ∧ StT H d ∧ IsPl (msk (S1 d) H) t a b ns ss ∧ msk (S1 d) H p = some (.lst (zs.map V.int)) ∧ 1 ≤ zs.length ∧ zs.length ≤ 10 ∧ (∀ x ∈ zs, x ∈ ns) ∧ (∀ x ∈ ns, x < 5 * 10 ^ 25) ∧ (∀ x ∈ ss, x < 10 ^ 26) ∧
 ∀ (v : V) (H' : Hp), StT H' d → Same (msk (S1 d) H) (msk (S1 d) H') → OdT (msk (S1 d) H') v → Q v H'
section
variable {f tk : Addr} {fd tkd : FuncData}
theorem scOdp : FnScope ["store", "plan", "part", "at", "to", "one", "odd", "beside", "turned", "some"] ["store", "plan", "part"] (defScope sOdp) := ⟨rfl, rfl, rfl, by decide +kernel, rfl, by decide +kernel, by decide +kernel⟩
set_option maxHeartbeats 0 in
theorem ok_odp (F : Fun K "_law_odd_part" "_law_odd_part" sOdp f fd) (B : Bt2 mg) (GT : FnOk P w K mg base CX0 1 tk tkd ["store", "many"] spTkT) (bT : Binds K tkd ["store", "many"] []) (kT : Kee K tk) (mT : mg "_law_take" = some (.ref tk)) : FnOk P w K mg base CX0 2 f fd ["store", "plan", "part"] spOdp := by
 refine F.ok scOdp (fun vs H Q E h => ?_) (fun cdv A outer s H vs Q E hr h => ?_)
 ·obtain ⟨d, t, a, b, p, ns, ss, zs, rfl, _⟩ := h
  rfl
 obtain ⟨d, t, a, b, p, ns, ss, zs, rfl, S0, pl, m_p, z1, z10, sub, b25, b26, q⟩ := h
 refine ⟨_, (@pss_cons _ _ _ _ _ (ps_set (i := 3) scOdp.nd rfl (Or.inr rfl) (pe_call GT hr rfl mT kT bT .nil pass0 (QA.h (qa_cons (QE.mk (pv 0)) (qa_cons (QE.mk (pe_callB call_len_seq rfl B.len PySem.boot_len (QA.h (qa_cons (QE.mk (pv 2)) qa_nil)))) qa_nil))))) (@pss_cons _ _ _ _ _ (ps_set (i := 4) scOdp.nd rfl (Or.inl rfl) (pe_call GT hr rfl mT kT bT .nil pass0 (QA.h (qa_cons (QE.mk (pv 0)) (qa_cons (QE.mk (pe_callB call_len_seq rfl B.len PySem.boot_len (QA.h (qa_cons (QE.mk (pv 2)) qa_nil)))) qa_nil))))) (@pss_cons _ _ _ _ _ (ps_set (i := 5) scOdp.nd rfl (Or.inl rfl) (pe_ix ix_list (pe_ix ix_tup (pv 1) pe_int (fun _ _ => rfl)) (pe_call GT hr rfl mT kT bT .nil pass0 (QA.h (qa_cons (QE.mk (pv 0)) (qa_cons (QE.mk (pe_callB call_len_seq rfl B.len PySem.boot_len (QA.h (qa_cons (QE.mk (pe_ix ix_tup (pv 1) pe_int (fun _ _ => rfl))) qa_nil)))) qa_nil)))) (fun _ _ => rfl))) (@pss_cons _ _ _ _ _ (ps_set (i := 6) scOdp.nd rfl (Or.inl rfl) (QE.h (qe_lst (qa_cons (QE.mk (pe_un un_neg pe_int)) (qa_cons (qe_op op_add (QE.mk (pe_ix ix_list (pe_ix ix_tup (pv 1) pe_int (fun _ _ => rfl)) (pe_un un_neg pe_int) (fun _ _ => rfl))) (QE.mk pe_int)) (qa_cons (QE.mk pe_bl) (qa_cons (QE.mk pe_bl) (qa_cons (QE.mk pe_non) (qa_cons (QE.mk (pe_callTy call_strI rfl B.str boot_str (QA.h (qa_cons (QE.mk (pv 5)) qa_nil)))) (qa_cons (qe_lst (qa_cons (QE.mk (pv 5)) qa_nil)) (qa_cons (qe_tup (qa_cons (QE.mk (pv 5)) qa_nil)) (qa_cons (QE.mk pe_dnewK) (qa_cons (qe_op op_sub (QE.mk (pv 5)) (qe_op op_mul (QE.mk pe_int) (qe_op op_pow (QE.mk pe_int) (QE.mk pe_int)))) (qa_cons (QE.mk (pv 5)) qa_nil)))))))))))))) (@pss_cons _ _ _ _ _ (ps_set (i := 6) scOdp.nd rfl (Or.inl rfl) (pe_ix ix_list (pv 6) (pe_call GT hr rfl mT kT bT .nil pass0 (QA.h (qa_cons (QE.mk (pv 0)) (qa_cons (QE.mk pe_int) qa_nil)))) (fun _ _ => rfl))) (@pss_cons _ _ _ _ _ (ps_set (i := 7) scOdp.nd rfl (Or.inl rfl) (QE.h (qe_op op_cat (QE.mk (pe_comp ["number"] rfl (blk_ok (defScope sOdp) ["store", "plan", "part", "at", "to", "one", "odd", "beside", "turned", "some"] rfl rfl (by decide +kernel)) (pi_list (pe_ix ix_tup (pv 1) pe_int (fun _ _ => rfl))) (fun pins C fp s3 H3 => ⟨(pg_name (i := 0) (show (blkN ["number"] ["store", "plan", "part", "at", "to", "one", "odd", "beside", "turned", "some"]).Nodup by decide +kernel) rfl (Or.inl rfl)), pif_nil, (pe_op op_sub (pv 0) (pe_ix (ix_listK K) (pv 3) (pe_op op_sub (pv 4) pe_int) (fun _ _ => rfl)))⟩))) (qe_lst (qa_cons (QE.mk (pe_call GT hr rfl mT kT bT .nil pass0 (QA.h (qa_cons (QE.mk (pv 0)) (qa_cons (qe_op op_add (QE.mk (pe_ix ix_list (pe_ix ix_tup (pv 1) pe_int (fun _ _ => rfl)) (pe_un un_neg pe_int) (fun _ _ => rfl))) (QE.mk pe_int)) qa_nil))))) qa_nil))))) (@pss_cons _ _ _ _ _ (ps_set (i := 7) scOdp.nd rfl (Or.inl rfl) (pe_ix ix_list (pv 7) (pe_call GT hr rfl mT kT bT .nil pass0 (QA.h (qa_cons (QE.mk (pv 0)) (qa_cons (QE.mk (pe_callB call_len_seq rfl B.len PySem.boot_len (QA.h (qa_cons (QE.mk (pv 7)) qa_nil)))) qa_nil)))) (fun _ _ => rfl))) (@pss_cons _ _ _ _ _ (ps_if (pt_cmpR op_eq (pe_call GT hr rfl mT kT bT .nil pass0 (QA.h (qa_cons (QE.mk (pv 0)) (qa_cons (QE.mk pe_int) qa_nil)))) pe_int (nomark _)) (@pss_one _ _ _ (ps_ret (pe_ix ix_list (pe_lst (QA.h (qa_cons (qe_op op_cat (QE.mk (pe_slice sl_list (pv 2) po_none (po_some (pv 3)))) (qe_lst (qa_cons (QE.mk (pv 7)) qa_nil))) (qa_cons (qe_op op_cat (qe_op op_cat (QE.mk (pe_slice sl_list (pv 2) po_none (po_some (pv 3)))) (qe_lst (qa_cons (QE.mk (pv 7)) qa_nil))) (QE.mk (pe_slice sl_list (pv 2) (po_some (pe_op op_add (pv 3) pe_int)) po_none))) (qa_cons (qe_lst (qa_cons (QE.mk (pv 7)) qa_nil)) qa_nil))))) (pe_call GT hr rfl mT kT bT .nil pass0 (QA.h (qa_cons (QE.mk (pv 0)) (qa_cons (QE.mk pe_int) qa_nil)))) (fun _ _ => rfl)))) pss_nil) (@pss_cons _ _ _ _ _ (ps_set (i := 8) scOdp.nd rfl (Or.inl rfl) (pe_callTy call_list_of rfl B.list PyProof.Rows.boot_list (QA.h (qa_cons (QE.mk (pv 2)) qa_nil)))) (@pss_cons _ _ _ _ _ (ps_asg (pe_ix ix_list (pv 2) (pv 4) (fun _ _ => rfl)) (pg_sub (pv 8) (pv 3) set_list)) (@pss_cons _ _ _ _ _ (ps_asg (pe_ix ix_list (pv 2) (pv 3) (fun _ _ => rfl)) (pg_sub (pv 8) (pv 4) set_list)) (@pss_cons _ _ _ _ _ (ps_set (i := 9) scOdp.nd rfl (Or.inl rfl) (QE.h (qe_lst (qa_cons (qe_op op_cat (qe_op op_cat (QE.mk (pe_slice sl_list (pv 2) po_none (po_some (pv 3)))) (qe_lst (qa_cons (QE.mk (pv 6)) qa_nil))) (QE.mk (pe_slice sl_list (pv 2) (po_some (pe_op op_add (pv 3) pe_int)) po_none))) (qa_cons (qe_op op_cat (qe_op op_cat (QE.mk (pe_slice sl_list (pv 2) po_none (po_some (pv 3)))) (qe_lst (qa_cons (QE.mk (pv 6)) qa_nil))) (QE.mk (pe_slice sl_list (pv 2) (po_some (pv 3)) po_none))) (qa_cons (qe_op op_cat (QE.mk (pe_slice sl_list (pv 2) po_none (po_some (pv 3)))) (QE.mk (pe_slice sl_list (pv 2) (po_some (pe_op op_add (pv 3) pe_int)) po_none))) (qa_cons (QE.mk (pv 8)) qa_nil))))))) (@pss_cons _ _ _ _ _ (ps_set (i := 9) scOdp.nd rfl (Or.inl rfl) (QE.h (qe_op op_cat (QE.mk (pv 9)) (qe_lst (qa_cons (qe_op op_cat (QE.mk (pv 2)) (qe_lst (qa_cons (QE.mk (pe_ix ix_list (pv 2) (pv 4) (fun _ _ => rfl))) qa_nil))) (qa_cons (qe_op op_cat (QE.mk (pv 2)) (qe_lst (qa_cons (QE.mk (pv 5)) qa_nil))) (qa_cons (qe_op op_cat (QE.mk (pe_slice sl_list (pv 2) po_none (po_some (pe_op op_add (pv 3) pe_int)))) (QE.mk (pe_slice sl_list (pv 2) (po_some (pv 3)) po_none))) (qa_cons (QE.mk (pe_callTy call_list_of rfl B.list PyProof.Rows.boot_list (QA.h (qa_cons (QE.mk (pe_ix ix_tup (pv 1) pe_int (fun _ _ => rfl))) qa_nil)))) (qa_cons (qe_lst qa_nil) (qa_cons (QE.mk (pe_callTy call_tuple_of rfl B.tuple PyProof.Rows.boot_tuple (QA.h (qa_cons (QE.mk (pv 2)) qa_nil)))) (qa_cons (QE.mk pe_non) qa_nil))))))))))) (@pss_one _ _ _ (ps_ret (pe_ix ix_list (pe_op op_cat (pv 9) (pe_lst (QA.h (qa_cons (QE.mk pe_str) (qa_cons (QE.mk pe_int) (qa_cons (QE.mk pe_dnewK) (qa_cons (QE.mk pe_bl) (qa_cons (qe_lst (qa_cons (QE.mk (pv 2)) qa_nil)) (qa_cons (qe_op op_cat (QE.mk (pv 2)) (qe_lst (qa_cons (QE.mk (pv 6)) qa_nil))) qa_nil))))))))) (pe_call GT hr rfl mT kT bT .nil pass0 (QA.h (qa_cons (QE.mk (pv 0)) (qa_cons (QE.mk pe_int) qa_nil)))) (fun _ _ => rfl))))))))))))))))), ?_⟩
 have L0 : Lv d H H [] := Lv.start S0
 have zml : (zs.map V.int).length = zs.length := List.length_map _
 have nml : (ns.map V.int).length = ns.length := List.length_map _
 have sml : (ss.map V.int).length = ss.length := List.length_map _
 have n1 := pl.ok.n1
 have n10 := pl.ok.n2
 have s10 := pl.ok.s2
 have bn : ∀ x ∈ ns, 0 ≤ x ∧ x < 5 * 10 ^ 25 := fun x hx => ⟨pl.ok.n.bd x hx, b25 x hx⟩
 have bz : ∀ x ∈ zs, 0 ≤ x ∧ x < 5 * 10 ^ 25 := fun x hx => bn x (sub x hx)
 have bs26 : ∀ x ∈ ss, 0 ≤ x ∧ x < 10 ^ 26 := fun x hx => ⟨pl.ok.s.bd x hx, b26 x hx⟩
 obtain ⟨la, hla, hli⟩ := last_inT n1
 have bl := bn _ hli
 have m_t := pl.t
 have m_a := pl.a
 have m_b := pl.b
 refine ⟨_, rfl, _, rfl, p, _, rfl, .inl (SqL.of (L0.old m_p)), d, _, rfl, L0.D, (by rw [zml]; omega), Int.lt_of_lt_of_le (show _ < (20 : Int) by rw [zml]; omega) (by decide), ?_⟩
 intro at_ H1 at_0 at_1 D1 o1
 have L1 := L0.mv D1 (off_msk o1)
 refine ⟨_, rfl, _, rfl, p, _, rfl, .inl (SqL.of (L1.old m_p)), d, _, rfl, L1.D, (by rw [zml]; omega), Int.lt_of_lt_of_le (show _ < (20 : Int) by rw [zml]; omega) (by decide), ?_⟩
 intro to H2 to0 to1 D2 o2
 have L2 := L1.mv D2 (off_msk o2)
 rw [zml] at at_1 to1
 refine ⟨_, rfl, t, _, 0, _, rfl, rfl, SqT.of (L2.old m_t), rfl, _, rfl, _, rfl, t, _, 0, _, rfl, rfl, SqT.of (L2.old m_t), rfl, a, _, rfl, .inl (SqL.of (L2.old m_a)), d, _, rfl, L2.D, (by rw [nml]; omega), Int.lt_of_lt_of_le (show _ < (20 : Int) by rw [nml]; omega) (by decide), ?_⟩
 intro r1 H3 r10 r11 D3 o3
 have L3 := L2.mv D3 (off_msk o3)
 rw [nml] at r11
 obtain ⟨one, hone, hoi⟩ := pick_int ns r10 r11
 have bo := bn _ hoi
 refine ⟨a, _, r1, .int one, rfl, rfl, SqL.of (L3.old m_a), hone, ?_⟩
 refine ⟨_, rfl, _, rfl, t, _, 0, _, rfl, rfl, SqT.of (L3.old m_t), rfl, _, rfl, a, _, -1, .int la, rfl, rfl, SqL.of (L3.old m_a), hla, _, _, rfl, rfl, _, rfl, one, rfl, (by omega), _, rfl, (by show 1 ≤ sizeLine; decide), ?_⟩
 intro q1 hq1
 have L4 := L3.new hq1 (.lst [.int one])
 generalize upd H3 q1 (.lst [.int one]) = H4 at L4 ⊢
 refine ⟨_, rfl, (by show 1 ≤ sizeLine; decide), ?_⟩
 intro q2 hq2
 have L5 := L4.new hq2 (.tup [.int one])
 generalize upd H4 q2 (.tup [.int one]) = H5 at L5 ⊢
 intro q3 hq3
 have L6 := L5.new hq3 (.dK [])
 generalize upd H5 q3 (.dK []) = H6 at L6 ⊢
 refine ⟨_, rfl, _, _, rfl, rfl, ⟨by decide, by decide, by decide⟩, _, _, rfl, rfl, .inl ⟨by decide, by decide⟩, _, _, rfl, rfl, _, rfl, (by show 11 ≤ sizeLine; decide), ?_⟩
 intro q4 hq4
 have L7 := L6.new hq4 (.lst [.int (-1), .int (la + 1), .bl true, .bl false, .non, .str (toString one), .ref q1, .ref q2, .ref q3, .int (one - 9 * (10 : Int) ^ (25 : Int).toNat), .int one])
 generalize upd H6 q4 (.lst [.int (-1), .int (la + 1), .bl true, .bl false, .non, .str (toString one), .ref q1, .ref q2, .ref q3, .int (one - 9 * (10 : Int) ^ (25 : Int).toNat), .int one]) = H7 at L7 ⊢
 refine ⟨_, rfl, _, rfl, d, _, rfl, L7.D, by decide, by decide, ?_⟩
 intro r2 H8 r20 r21 D8 o8
 have L8 := L7.mv D8 (off_msk o8)
 obtain ⟨odd, hod, hom⟩ := pick_any (xs := ([.int (-1), .int (la + 1), .bl true, .bl false, .non, .str (toString one), .ref q1, .ref q2, .ref q3, .int (one - 9 * (10 : Int) ^ (25 : Int).toNat), .int one] : List V)) r20 (by show r2 < ((11 : Nat) : Int); exact r21)
 refine ⟨q4, _, r2, odd, rfl, rfl, SqL.of (L8.at (by repeat (first | exact List.mem_cons_self | apply List.mem_cons_of_mem))), hod, ?_⟩
 have tOd : Th (msk (S1 d) H8) odd 40 1 := by
  simp only [List.mem_cons, List.not_mem_nil, or_false] at hom
  have e25 : (10 : Int) ^ (25 : Int).toNat = 10 ^ 25 := by decide
  rcases hom with e | e | e | e | e | e | e | e | e | e | e <;> rw [e]
  ·exact Th.int (by decide)
  ·exact Th.int (by omega)
  ·exact Th.bl _
  ·exact Th.bl _
  ·exact Th.non
  ·exact Th.strI (by omega) (by decide)
  ·exact (Th.lst (xs := [.int one]) (n := 0) (k := 0) (L8.m (by repeat (first | exact List.mem_cons_self | apply List.mem_cons_of_mem))) fun x hx => by rw [List.mem_singleton.mp hx]; exact Th.int (by omega)).mono (by show 1 * 1 ≤ 40; decide) (by decide)
  ·exact (Th.tup (xs := [.int one]) (n := 0) (k := 0) (L8.m (by repeat (first | exact List.mem_cons_self | apply List.mem_cons_of_mem))) fun x hx => by rw [List.mem_singleton.mp hx]; exact Th.int (by omega)).mono (by show 1 * 1 ≤ 40; decide) (by decide)
  ·exact Th.dct (L8.m (by repeat (first | exact List.mem_cons_self | apply List.mem_cons_of_mem)))
  ·exact Th.int (by rw [e25]; omega)
  ·exact Th.int (by omega)
 obtain ⟨pv, hpv, mpv⟩ : ∃ x, atI (zs.map V.int) (at_ - 1) = some (.int x) ∧ x ∈ zs := by
  rcases (by omega : at_ = 0 ∨ 1 ≤ at_) with z | z
  ·rw [z]; exact last_inT z1
  ·exact pick_int zs (by omega) (by omega)
 have bpv := bz pv mpv
 refine ⟨_, rfl, t, _, 1, _, rfl, rfl, SqT.of (L8.old m_t), rfl, b, rfl, ⟨_, SqL.of (L8.old m_b)⟩, fun DD hDD => ?_⟩
 refine turns_list (σ := [some (.ref d), some (.ref t), some (.ref p), some (.int at_), some (.int to), some (.int one), some odd, none, none, none]) (xs := ss.map V.int) (fun _ => true) (fun i => .int (ss.getD i 0 - pv)) (SqL.of (L8.old m_b)) hDD (by omega) (fun i H' hi g => tells_true) (fun i H' hi _ g P hP => ?_) fun HB gB eB => ?_
 ·rw [getD_map_int _ (by rw [sml] at hi; exact hi)]
  exact ⟨_, rfl, _, rfl, _, rfl, _, _, rfl, rfl, p, _, _, _, rfl, rfl, SqL.of (g _ _ (L8.old m_p)), hpv, _, _, rfl, rfl, hP _ Same.rfl'⟩
 obtain ⟨bs, ebs, bsl, bsb⟩ : ∃ bs : List Int, HB DD = some (.lst (bs.map V.int)) ∧ bs.length ≤ 10 ∧ ∀ x ∈ bs, x.natAbs < 10 ^ 28 := by
  refine ⟨(List.range ss.length).map fun i => ss.getD i 0 - pv, by rw [eB, fltT, sml, List.map_map]; rfl, by rw [List.length_map, List.length_range]; exact s10, fun x hx => ?_⟩
  obtain ⟨i, hi, rfl⟩ := List.mem_map.mp hx
  have hi' := List.mem_range.mp hi
  have := bs26 (ss.getD i 0) (by rw [List.getD_eq_getElem?_getD, List.getElem?_eq_getElem hi']; exact List.getElem_mem hi')
  omega
 have bml : (bs.map V.int).length = bs.length := List.length_map _
 have gK : Same (msk (S1 d) H) (msk (S1 d) HB) := fun b u e => msk_same gB _ _ (L8.G _ _ e)
 have DDd : DD ≠ d := L8.D.out hDD
 have mDD : msk (S1 d) HB DD = some (.lst (bs.map V.int)) := by rw [msk_in (S := S1 d) DDd]; exact ebs
 replace tOd := tOd.same (msk_same gB)
 have LB : Lv d HB HB [] := Lv.start (L8.D.ex gB)
 replace m_t := gK _ _ m_t
 replace m_a := gK _ _ m_a
 replace m_b := gK _ _ m_b
 replace m_p := gK _ _ m_p
 clear L0 L1 L2 L3 L4 L5 L6 L7 L8
 have L0 := LB
 generalize HB = H0 at L0 tOd m_t m_a m_b m_p mDD gK ⊢
 refine ⟨_, rfl, _, rfl, t, _, 0, _, rfl, rfl, SqT.of (L0.old m_t), rfl, _, rfl, a, _, -1, .int la, rfl, rfl, SqL.of (L0.old m_a), hla, _, _, rfl, rfl, d, _, rfl, L0.D, (by omega), (by have : (5 : Int) * 10 ^ 25 + 40 < 2 ^ 100 := (by decide); omega), ?_⟩
 intro r3 H1 r30 r31 D1 o1
 have L1 := L0.mv D1 (off_msk o1)
 refine ⟨(by show 1 ≤ sizeLine; decide), ?_⟩
 intro e1 he1
 have L2 := L1.new he1 (.lst [.int r3])
 generalize upd H1 e1 (.lst [.int r3]) = H2 at L2 ⊢
 refine ⟨DD, e1, _, _, rfl, rfl, L2.old mDD, L2.at (by repeat (first | exact List.mem_cons_self | apply List.mem_cons_of_mem)), small (by rw [bml]; show bs.length + 1 ≤ 1000; omega), ?_⟩
 intro e2 he2
 have L3 := L2.new he2 (.lst (bs.map V.int ++ [.int r3]))
 generalize upd H2 e2 (.lst (bs.map V.int ++ [.int r3])) = H3 at L3 ⊢
 have al : (bs.map V.int ++ [V.int r3]).length = bs.length + 1 := by rw [List.length_append, bml]; rfl
 refine ⟨_, rfl, _, rfl, _, rfl, e2, _, rfl, .inl (SqL.of (L3.at (by repeat (first | exact List.mem_cons_self | apply List.mem_cons_of_mem)))), d, _, rfl, L3.D, (by rw [al]; omega), Int.lt_of_lt_of_le (show _ < (20 : Int) by rw [al]; omega) (by decide), ?_⟩
 intro r4 H4 r40 r41 D4 o4
 have L4 := L3.mv D4 (off_msk o4)
 obtain ⟨bv, hbv, mbv⟩ := pick_any (xs := (bs.map V.int ++ [.int r3] : List V)) r40 r41
 refine ⟨e2, _, r4, bv, rfl, rfl, SqL.of (L4.at (by repeat (first | exact List.mem_cons_self | apply List.mem_cons_of_mem))), hbv, ?_⟩
 obtain ⟨be, rfl, bbe⟩ : ∃ be : Int, bv = .int be ∧ be.natAbs < 10 ^ 28 := by
  rcases List.mem_append.mp mbv with z | z
  ·obtain ⟨x, hx, e⟩ := List.mem_map.mp z; exact ⟨x, e.symm, bsb x hx⟩
  ·exact ⟨r3, List.mem_singleton.mp z, by omega⟩
 have lc1 : (cutV (zs.map V.int) none (some at_)).length ≤ 10 := Nat.le_trans (cutV_length _ _ _) (by rw [List.length_map]; omega)
 have mc1 : ∀ x ∈ cutV (zs.map V.int) none (some at_), ∃ z : Int, x = .int z ∧ z ∈ ns := fun x hx => by obtain ⟨z, hz, e⟩ := List.mem_map.mp (cut_mem hx); exact ⟨z, e.symm, sub z hz⟩
 generalize hc1 : cutV (zs.map V.int) none (some at_) = c1 at lc1 mc1
 have lc2 : (cutV (zs.map V.int) (some (at_ + 1)) none).length ≤ 10 := Nat.le_trans (cutV_length _ _ _) (by rw [List.length_map]; omega)
 have mc2 : ∀ x ∈ cutV (zs.map V.int) (some (at_ + 1)) none, ∃ z : Int, x = .int z ∧ z ∈ ns := fun x hx => by obtain ⟨z, hz, e⟩ := List.mem_map.mp (cut_mem hx); exact ⟨z, e.symm, sub z hz⟩
 generalize hc2 : cutV (zs.map V.int) (some (at_ + 1)) none = c2 at lc2 mc2
 have lc3 : (cutV (zs.map V.int) (some at_) none).length ≤ 10 := Nat.le_trans (cutV_length _ _ _) (by rw [List.length_map]; omega)
 have mc3 : ∀ x ∈ cutV (zs.map V.int) (some at_) none, ∃ z : Int, x = .int z ∧ z ∈ ns := fun x hx => by obtain ⟨z, hz, e⟩ := List.mem_map.mp (cut_mem hx); exact ⟨z, e.symm, sub z hz⟩
 generalize hc3 : cutV (zs.map V.int) (some at_) none = c3 at lc3 mc3
 have lc4 : (cutV (zs.map V.int) none (some (at_ + 1))).length ≤ 10 := Nat.le_trans (cutV_length _ _ _) (by rw [List.length_map]; omega)
 have mc4 : ∀ x ∈ cutV (zs.map V.int) none (some (at_ + 1)), ∃ z : Int, x = .int z ∧ z ∈ ns := fun x hx => by obtain ⟨z, hz, e⟩ := List.mem_map.mp (cut_mem hx); exact ⟨z, e.symm, sub z hz⟩
 generalize hc4 : cutV (zs.map V.int) none (some (at_ + 1)) = c4 at lc4 mc4
 refine ⟨_, rfl, d, _, rfl, L4.D, by decide, by decide, ?_⟩
 intro r5 H5 r50 r51 D5 o5
 have L5 := L4.mv D5 (off_msk o5)
 refine ⟨rfl, _, rfl, ite2 (fun _ => ?_) (fun _ => ?_)⟩
 ·-- with what is beside
  refine ⟨_, rfl, _, rfl, _, rfl, p, _, rfl, SqL.of (L5.old m_p), ?_⟩
  rw [hc1]
  intro p1 hp1
  have L6 := L5.new hp1 (.lst c1)
  generalize upd H5 p1 (.lst c1) = H6 at L6 ⊢
  refine ⟨_, rfl, (by show 1 ≤ sizeLine; decide), ?_⟩
  intro p2 hp2
  have L7 := L6.new hp2 (.lst [.int be])
  generalize upd H6 p2 (.lst [.int be]) = H7 at L7 ⊢
  refine ⟨p1, p2, _, _, rfl, rfl, L7.at (by repeat (first | exact List.mem_cons_self | apply List.mem_cons_of_mem)), L7.at (by repeat (first | exact List.mem_cons_self | apply List.mem_cons_of_mem)), small (by (try simp only [List.length_append, List.length_cons, List.length_nil]); omega), ?_⟩
  intro p3 hp3
  have L8 := L7.new hp3 (.lst (c1 ++ [.int be]))
  generalize upd H7 p3 (.lst (c1 ++ [.int be])) = H8 at L8 ⊢
  refine ⟨_, rfl, _, rfl, _, rfl, p, _, rfl, SqL.of (L8.old m_p), ?_⟩
  rw [hc1]
  intro p4 hp4
  have L9 := L8.new hp4 (.lst c1)
  generalize upd H8 p4 (.lst c1) = H9 at L9 ⊢
  refine ⟨_, rfl, (by show 1 ≤ sizeLine; decide), ?_⟩
  intro p5 hp5
  have L10 := L9.new hp5 (.lst [.int be])
  generalize upd H9 p5 (.lst [.int be]) = H10 at L10 ⊢
  refine ⟨p4, p5, _, _, rfl, rfl, L10.at (by repeat (first | exact List.mem_cons_self | apply List.mem_cons_of_mem)), L10.at (by repeat (first | exact List.mem_cons_self | apply List.mem_cons_of_mem)), small (by (try simp only [List.length_append, List.length_cons, List.length_nil]); omega), ?_⟩
  intro p6 hp6
  have L11 := L10.new hp6 (.lst (c1 ++ [.int be]))
  generalize upd H10 p6 (.lst (c1 ++ [.int be])) = H11 at L11 ⊢
  refine ⟨_, rfl, _, rfl, _, _, rfl, rfl, _, rfl, p, _, rfl, SqL.of (L11.old m_p), ?_⟩
  rw [hc2]
  intro p7 hp7
  have L12 := L11.new hp7 (.lst c2)
  generalize upd H11 p7 (.lst c2) = H12 at L12 ⊢
  refine ⟨p6, p7, _, _, rfl, rfl, L12.at (by repeat (first | exact List.mem_cons_self | apply List.mem_cons_of_mem)), L12.at (by repeat (first | exact List.mem_cons_self | apply List.mem_cons_of_mem)), small (by (try simp only [List.length_append, List.length_cons, List.length_nil]); omega), ?_⟩
  intro p8 hp8
  have L13 := L12.new hp8 (.lst ((c1 ++ [.int be]) ++ c2))
  generalize upd H12 p8 (.lst ((c1 ++ [.int be]) ++ c2)) = H13 at L13 ⊢
  refine ⟨_, rfl, (by show 1 ≤ sizeLine; decide), ?_⟩
  intro p9 hp9
  have L14 := L13.new hp9 (.lst [.int be])
  generalize upd H13 p9 (.lst [.int be]) = H14 at L14 ⊢
  refine ⟨(by show 3 ≤ sizeLine; decide), ?_⟩
  intro s1 hs1
  have L15 := L14.new hs1 (.lst [.ref p3, .ref p8, .ref p9])
  generalize upd H14 s1 (.lst [.ref p3, .ref p8, .ref p9]) = H15 at L15 ⊢
  refine ⟨_, rfl, d, _, rfl, L15.D, by decide, by decide, ?_⟩
  intro r6 H16 r60 r61 D16 o16
  have L16 := L15.mv D16 (off_msk o16)
  obtain ⟨v, hv, hvm⟩ := pick_any (xs := ([.ref p3, .ref p8, .ref p9] : List V)) r60 (by show r6 < ((3 : Nat) : Int); exact r61)
  have ti : ∀ {x : V}, (∃ z : Int, x = .int z ∧ z ∈ ns) → Th (msk (S1 d) H16) x 40 1 := fun {x} h => by
   obtain ⟨z, e, hz⟩ := h
   rw [e]
   have := bn z hz
   exact Th.int (by omega)
  have T : ∀ {A : List V}, (∀ x ∈ A, ∃ z : Int, x = .int z ∧ z ∈ ns) → ∀ x ∈ A, Th (msk (S1 d) H16) x 40 1 := fun h x hx => ti (h x hx)
  have mem2 : ∀ {A B : List V}, (∀ x ∈ A, Th (msk (S1 d) H16) x 40 1) → (∀ x ∈ B, Th (msk (S1 d) H16) x 40 1) → ∀ x ∈ A ++ B, Th (msk (S1 d) H16) x 40 1 := fun h1 h2 x hx => (List.mem_append.mp hx).elim (h1 x) (h2 x)
  have len2 : ∀ (A B : List V) (i j : Nat), A.length ≤ i → B.length ≤ j → (A ++ B).length ≤ i + j := fun A B i j h1 h2 => by rw [List.length_append]; omega
  have tB : ∀ x ∈ [V.int be], Th (msk (S1 d) H16) x 40 1 := fun x hx => by rw [List.mem_singleton.mp hx]; exact Th.int (by omega)
  have tO : ∀ x ∈ [odd], Th (msk (S1 d) H16) x 40 1 := fun x hx => by rw [List.mem_singleton.mp hx]; exact tOd.same L16.G
  have GE : Same (msk (S1 d) H) (msk (S1 d) H16) := fun b u e => L16.G _ _ (gK b u e)
  refine ⟨s1, _, r6, v, rfl, rfl, SqL.of (L16.at (by repeat (first | exact List.mem_cons_self | apply List.mem_cons_of_mem))), hv, q v _ L16.D GE ?_⟩
  simp only [List.mem_cons, List.not_mem_nil, or_false] at hvm
  rcases hvm with e | e | e <;> rw [e]
  ·exact odt_lst (L16.m (by repeat (first | exact List.mem_cons_self | apply List.mem_cons_of_mem))) (Nat.le_trans (len2 _ _ 10 1 lc1 (Nat.le_refl _)) (by decide)) (mem2 (T mc1) tB)
  ·exact odt_lst (L16.m (by repeat (first | exact List.mem_cons_self | apply List.mem_cons_of_mem))) (Nat.le_trans (len2 _ _ 11 10 (len2 _ _ 10 1 lc1 (Nat.le_refl _)) lc2) (by decide)) (mem2 (mem2 (T mc1) tB) (T mc2))
  ·exact odt_lst (xs := [.int be]) (L16.m (by repeat (first | exact List.mem_cons_self | apply List.mem_cons_of_mem))) (by show 1 ≤ 40; decide) tB
 ·-- the others
  obtain ⟨xt, hxt, mxt⟩ := pick_int zs to0 to1
  obtain ⟨xa, hxa, mxa⟩ := pick_int zs at_0 at_1
  refine ⟨_, rfl, p, _, rfl, .inl (SqL.of (L5.old m_p)), ?_⟩
  intro tu htu
  have L6 := L5.new htu (.lst (zs.map V.int))
  generalize upd H5 tu (.lst (zs.map V.int)) = H6 at L6 ⊢
  refine ⟨_, rfl, _, rfl, p, _, _, _, rfl, rfl, SqL.of (L6.old m_p), hxt, _, rfl, _, rfl, tu, _, at_, at_.toNat, rfl, rfl, L6.at (by repeat (first | exact List.mem_cons_self | apply List.mem_cons_of_mem)), ixN_of at_0 (by rw [zml]; exact at_1), ?_⟩
  have L7 := L6.put (.lst ((zs.map V.int).set at_.toNat (.int xt)))
  generalize upd H6 tu (.lst ((zs.map V.int).set at_.toNat (.int xt))) = H7 at L7 ⊢
  refine ⟨_, rfl, _, rfl, p, _, _, _, rfl, rfl, SqL.of (L7.old m_p), hxa, _, rfl, _, rfl, tu, _, to, to.toNat, rfl, rfl, L7.at (by repeat (first | exact List.mem_cons_self | apply List.mem_cons_of_mem)), ixN_of to0 (by rw [List.length_set, zml]; exact to1), ?_⟩
  have L8 := L7.put (.lst (((zs.map V.int).set at_.toNat (.int xt)).set to.toNat (.int xa)))
  generalize upd H7 tu (.lst (((zs.map V.int).set at_.toNat (.int xt)).set to.toNat (.int xa))) = H8 at L8 ⊢
  refine ⟨_, rfl, _, rfl, _, rfl, p, _, rfl, SqL.of (L8.old m_p), ?_⟩
  rw [hc1]
  intro p1 hp1
  have L9 := L8.new hp1 (.lst c1)
  generalize upd H8 p1 (.lst c1) = H9 at L9 ⊢
  refine ⟨_, rfl, (by show 1 ≤ sizeLine; decide), ?_⟩
  intro p2 hp2
  have L10 := L9.new hp2 (.lst [odd])
  generalize upd H9 p2 (.lst [odd]) = H10 at L10 ⊢
  refine ⟨p1, p2, _, _, rfl, rfl, L10.at (by repeat (first | exact List.mem_cons_self | apply List.mem_cons_of_mem)), L10.at (by repeat (first | exact List.mem_cons_self | apply List.mem_cons_of_mem)), small (by (try simp only [List.length_append, List.length_cons, List.length_nil]); omega), ?_⟩
  intro p3 hp3
  have L11 := L10.new hp3 (.lst (c1 ++ [odd]))
  generalize upd H10 p3 (.lst (c1 ++ [odd])) = H11 at L11 ⊢
  refine ⟨_, rfl, _, rfl, _, _, rfl, rfl, _, rfl, p, _, rfl, SqL.of (L11.old m_p), ?_⟩
  rw [hc2]
  intro p4 hp4
  have L12 := L11.new hp4 (.lst c2)
  generalize upd H11 p4 (.lst c2) = H12 at L12 ⊢
  refine ⟨p3, p4, _, _, rfl, rfl, L12.at (by repeat (first | exact List.mem_cons_self | apply List.mem_cons_of_mem)), L12.at (by repeat (first | exact List.mem_cons_self | apply List.mem_cons_of_mem)), small (by (try simp only [List.length_append, List.length_cons, List.length_nil]); omega), ?_⟩
  intro p5 hp5
  have L13 := L12.new hp5 (.lst ((c1 ++ [odd]) ++ c2))
  generalize upd H12 p5 (.lst ((c1 ++ [odd]) ++ c2)) = H13 at L13 ⊢
  refine ⟨_, rfl, _, rfl, _, rfl, p, _, rfl, SqL.of (L13.old m_p), ?_⟩
  rw [hc1]
  intro p6 hp6
  have L14 := L13.new hp6 (.lst c1)
  generalize upd H13 p6 (.lst c1) = H14 at L14 ⊢
  refine ⟨_, rfl, (by show 1 ≤ sizeLine; decide), ?_⟩
  intro p7 hp7
  have L15 := L14.new hp7 (.lst [odd])
  generalize upd H14 p7 (.lst [odd]) = H15 at L15 ⊢
  refine ⟨p6, p7, _, _, rfl, rfl, L15.at (by repeat (first | exact List.mem_cons_self | apply List.mem_cons_of_mem)), L15.at (by repeat (first | exact List.mem_cons_self | apply List.mem_cons_of_mem)), small (by (try simp only [List.length_append, List.length_cons, List.length_nil]); omega), ?_⟩
  intro p8 hp8
  have L16 := L15.new hp8 (.lst (c1 ++ [odd]))
  generalize upd H15 p8 (.lst (c1 ++ [odd])) = H16 at L16 ⊢
  refine ⟨_, rfl, _, rfl, _, rfl, p, _, rfl, SqL.of (L16.old m_p), ?_⟩
  rw [hc3]
  intro p9 hp9
  have L17 := L16.new hp9 (.lst c3)
  generalize upd H16 p9 (.lst c3) = H17 at L17 ⊢
  refine ⟨p8, p9, _, _, rfl, rfl, L17.at (by repeat (first | exact List.mem_cons_self | apply List.mem_cons_of_mem)), L17.at (by repeat (first | exact List.mem_cons_self | apply List.mem_cons_of_mem)), small (by (try simp only [List.length_append, List.length_cons, List.length_nil]); omega), ?_⟩
  intro p10 hp10
  have L18 := L17.new hp10 (.lst ((c1 ++ [odd]) ++ c3))
  generalize upd H17 p10 (.lst ((c1 ++ [odd]) ++ c3)) = H18 at L18 ⊢
  refine ⟨_, rfl, _, rfl, _, rfl, p, _, rfl, SqL.of (L18.old m_p), ?_⟩
  rw [hc1]
  intro p11 hp11
  have L19 := L18.new hp11 (.lst c1)
  generalize upd H18 p11 (.lst c1) = H19 at L19 ⊢
  refine ⟨_, rfl, _, rfl, _, _, rfl, rfl, _, rfl, p, _, rfl, SqL.of (L19.old m_p), ?_⟩
  rw [hc2]
  intro p12 hp12
  have L20 := L19.new hp12 (.lst c2)
  generalize upd H19 p12 (.lst c2) = H20 at L20 ⊢
  refine ⟨p11, p12, _, _, rfl, rfl, L20.at (by repeat (first | exact List.mem_cons_self | apply List.mem_cons_of_mem)), L20.at (by repeat (first | exact List.mem_cons_self | apply List.mem_cons_of_mem)), small (by (try simp only [List.length_append, List.length_cons, List.length_nil]); omega), ?_⟩
  intro p13 hp13
  have L21 := L20.new hp13 (.lst (c1 ++ c2))
  generalize upd H20 p13 (.lst (c1 ++ c2)) = H21 at L21 ⊢
  refine ⟨_, rfl, (by show 4 ≤ sizeLine; decide), ?_⟩
  intro s1 hs1
  have L22 := L21.new hs1 (.lst [.ref p5, .ref p10, .ref p13, .ref tu])
  generalize upd H21 s1 (.lst [.ref p5, .ref p10, .ref p13, .ref tu]) = H22 at L22 ⊢
  refine ⟨_, rfl, _, rfl, _, rfl, _, rfl, p, _, _, _, rfl, rfl, SqL.of (L22.old m_p), hxt, (by show 1 ≤ sizeLine; decide), ?_⟩
  intro p14 hp14
  have L23 := L22.new hp14 (.lst [.int xt])
  generalize upd H22 p14 (.lst [.int xt]) = H23 at L23 ⊢
  refine ⟨p, p14, _, _, rfl, rfl, L23.old m_p, L23.at (by repeat (first | exact List.mem_cons_self | apply List.mem_cons_of_mem)), small (by (try simp only [List.length_append, List.length_cons, List.length_nil]); rw [zml]; omega), ?_⟩
  intro p15 hp15
  have L24 := L23.new hp15 (.lst (zs.map V.int ++ [.int xt]))
  generalize upd H23 p15 (.lst (zs.map V.int ++ [.int xt])) = H24 at L24 ⊢
  refine ⟨_, rfl, _, rfl, (by show 1 ≤ sizeLine; decide), ?_⟩
  intro p16 hp16
  have L25 := L24.new hp16 (.lst [.int one])
  generalize upd H24 p16 (.lst [.int one]) = H25 at L25 ⊢
  refine ⟨p, p16, _, _, rfl, rfl, L25.old m_p, L25.at (by repeat (first | exact List.mem_cons_self | apply List.mem_cons_of_mem)), small (by (try simp only [List.length_append, List.length_cons, List.length_nil]); rw [zml]; omega), ?_⟩
  intro p17 hp17
  have L26 := L25.new hp17 (.lst (zs.map V.int ++ [.int one]))
  generalize upd H25 p17 (.lst (zs.map V.int ++ [.int one])) = H26 at L26 ⊢
  refine ⟨_, rfl, _, rfl, _, _, rfl, rfl, _, rfl, p, _, rfl, SqL.of (L26.old m_p), ?_⟩
  rw [hc4]
  intro p18 hp18
  have L27 := L26.new hp18 (.lst c4)
  generalize upd H26 p18 (.lst c4) = H27 at L27 ⊢
  refine ⟨_, rfl, _, rfl, _, rfl, p, _, rfl, SqL.of (L27.old m_p), ?_⟩
  rw [hc3]
  intro p19 hp19
  have L28 := L27.new hp19 (.lst c3)
  generalize upd H27 p19 (.lst c3) = H28 at L28 ⊢
  refine ⟨p18, p19, _, _, rfl, rfl, L28.at (by repeat (first | exact List.mem_cons_self | apply List.mem_cons_of_mem)), L28.at (by repeat (first | exact List.mem_cons_self | apply List.mem_cons_of_mem)), small (by (try simp only [List.length_append, List.length_cons, List.length_nil]); omega), ?_⟩
  intro p20 hp20
  have L29 := L28.new hp20 (.lst (c4 ++ c3))
  generalize upd H28 p20 (.lst (c4 ++ c3)) = H29 at L29 ⊢
  refine ⟨_, rfl, t, _, 0, _, rfl, rfl, SqT.of (L29.old m_t), rfl, a, _, rfl, .inl (SqL.of (L29.old m_a)), ?_⟩
  intro p21 hp21
  have L30 := L29.new hp21 (.lst (ns.map V.int))
  generalize upd H29 p21 (.lst (ns.map V.int)) = H30 at L30 ⊢
  refine ⟨(by show 0 ≤ sizeLine; decide), ?_⟩
  intro p22 hp22
  have L31 := L30.new hp22 (.lst [])
  generalize upd H30 p22 (.lst []) = H31 at L31 ⊢
  refine ⟨_, rfl, p, _, rfl, .inl ⟨SqL.of (L31.old m_p), ?_⟩⟩
  intro p23 hp23
  have L32 := L31.new hp23 (.tup (zs.map V.int))
  generalize upd H31 p23 (.tup (zs.map V.int)) = H32 at L32 ⊢
  refine ⟨(by show 7 ≤ sizeLine; decide), ?_⟩
  intro s2 hs2
  have L33 := L32.new hs2 (.lst [.ref p15, .ref p17, .ref p20, .ref p21, .ref p22, .ref p23, .non])
  generalize upd H32 s2 (.lst [.ref p15, .ref p17, .ref p20, .ref p21, .ref p22, .ref p23, .non]) = H33 at L33 ⊢
  refine ⟨s1, s2, _, _, rfl, rfl, L33.at (by repeat (first | exact List.mem_cons_self | apply List.mem_cons_of_mem)), L33.at (by repeat (first | exact List.mem_cons_self | apply List.mem_cons_of_mem)), (by show 11 ≤ sizeLine; decide), ?_⟩
  intro s3 hs3
  have L34 := L33.new hs3 (.lst ([.ref p5, .ref p10, .ref p13, .ref tu] ++ [.ref p15, .ref p17, .ref p20, .ref p21, .ref p22, .ref p23, .non]))
  generalize upd H33 s3 (.lst ([.ref p5, .ref p10, .ref p13, .ref tu] ++ [.ref p15, .ref p17, .ref p20, .ref p21, .ref p22, .ref p23, .non])) = H34 at L34 ⊢
  refine ⟨_, rfl, ?_⟩
  intro p24 hp24
  have L35 := L34.new hp24 (.dK [])
  generalize upd H34 p24 (.dK []) = H35 at L35 ⊢
  refine ⟨_, rfl, (by show 1 ≤ sizeLine; decide), ?_⟩
  intro p25 hp25
  have L36 := L35.new hp25 (.lst [.ref p])
  generalize upd H35 p25 (.lst [.ref p]) = H36 at L36 ⊢
  refine ⟨_, rfl, _, rfl, (by show 1 ≤ sizeLine; decide), ?_⟩
  intro p26 hp26
  have L37 := L36.new hp26 (.lst [odd])
  generalize upd H36 p26 (.lst [odd]) = H37 at L37 ⊢
  refine ⟨p, p26, _, _, rfl, rfl, L37.old m_p, L37.at (by repeat (first | exact List.mem_cons_self | apply List.mem_cons_of_mem)), small (by (try simp only [List.length_append, List.length_cons, List.length_nil]); rw [zml]; omega), ?_⟩
  intro p27 hp27
  have L38 := L37.new hp27 (.lst (zs.map V.int ++ [odd]))
  generalize upd H37 p27 (.lst (zs.map V.int ++ [odd])) = H38 at L38 ⊢
  refine ⟨(by show 6 ≤ sizeLine; decide), ?_⟩
  intro s4 hs4
  have L39 := L38.new hs4 (.lst [.str "", .int 0, .ref p24, .bl true, .ref p25, .ref p27])
  generalize upd H38 s4 (.lst [.str "", .int 0, .ref p24, .bl true, .ref p25, .ref p27]) = H39 at L39 ⊢
  refine ⟨s3, s4, _, _, rfl, rfl, L39.at (by repeat (first | exact List.mem_cons_self | apply List.mem_cons_of_mem)), L39.at (by repeat (first | exact List.mem_cons_self | apply List.mem_cons_of_mem)), (by show 17 ≤ sizeLine; decide), ?_⟩
  intro s5 hs5
  have L40 := L39.new hs5 (.lst (([.ref p5, .ref p10, .ref p13, .ref tu] ++ [.ref p15, .ref p17, .ref p20, .ref p21, .ref p22, .ref p23, .non]) ++ [.str "", .int 0, .ref p24, .bl true, .ref p25, .ref p27]))
  generalize upd H39 s5 (.lst (([.ref p5, .ref p10, .ref p13, .ref tu] ++ [.ref p15, .ref p17, .ref p20, .ref p21, .ref p22, .ref p23, .non]) ++ [.str "", .int 0, .ref p24, .bl true, .ref p25, .ref p27])) = H40 at L40 ⊢
  refine ⟨_, rfl, d, _, rfl, L40.D, by decide, by decide, ?_⟩
  intro r6 H41 r60 r61 D41 o41
  have L41 := L40.mv D41 (off_msk o41)
  obtain ⟨v, hv, hvm⟩ := pick_any (xs := (([.ref p5, .ref p10, .ref p13, .ref tu] ++ [.ref p15, .ref p17, .ref p20, .ref p21, .ref p22, .ref p23, .non]) ++ [.str "", .int 0, .ref p24, .bl true, .ref p25, .ref p27] : List V)) r60 (by show r6 < ((17 : Nat) : Int); exact r61)
  have ti : ∀ {x : V}, (∃ z : Int, x = .int z ∧ z ∈ ns) → Th (msk (S1 d) H41) x 40 1 := fun {x} h => by
   obtain ⟨z, e, hz⟩ := h
   rw [e]
   have := bn z hz
   exact Th.int (by omega)
  have T : ∀ {A : List V}, (∀ x ∈ A, ∃ z : Int, x = .int z ∧ z ∈ ns) → ∀ x ∈ A, Th (msk (S1 d) H41) x 40 1 := fun h x hx => ti (h x hx)
  have mem2 : ∀ {A B : List V}, (∀ x ∈ A, Th (msk (S1 d) H41) x 40 1) → (∀ x ∈ B, Th (msk (S1 d) H41) x 40 1) → ∀ x ∈ A ++ B, Th (msk (S1 d) H41) x 40 1 := fun h1 h2 x hx => (List.mem_append.mp hx).elim (h1 x) (h2 x)
  have len2 : ∀ (A B : List V) (i j : Nat), A.length ≤ i → B.length ≤ j → (A ++ B).length ≤ i + j := fun A B i j h1 h2 => by rw [List.length_append]; omega
  have tB : ∀ x ∈ [V.int be], Th (msk (S1 d) H41) x 40 1 := fun x hx => by rw [List.mem_singleton.mp hx]; exact Th.int (by omega)
  have tO : ∀ x ∈ [odd], Th (msk (S1 d) H41) x 40 1 := fun x hx => by rw [List.mem_singleton.mp hx]; exact tOd.same L41.G
  have GE : Same (msk (S1 d) H) (msk (S1 d) H41) := fun b u e => L41.G _ _ (gK b u e)
  refine ⟨s5, _, r6, v, rfl, rfl, SqL.of (L41.at (by repeat (first | exact List.mem_cons_self | apply List.mem_cons_of_mem))), hv, q v _ L41.D GE ?_⟩
  have hvm2 : v ∈ ([.ref p5, .ref p10, .ref p13, .ref tu, .ref p15, .ref p17, .ref p20, .ref p21, .ref p22, .ref p23, .non, .str "", .int 0, .ref p24, .bl true, .ref p25, .ref p27] : List V) := hvm
  have izs : ∀ x ∈ zs.map V.int, ∃ z : Int, x = .int z ∧ z ∈ ns := fun x hx => by obtain ⟨z, hz, e⟩ := List.mem_map.mp hx; exact ⟨z, e.symm, sub z hz⟩
  have ins : ∀ x ∈ ns.map V.int, ∃ z : Int, x = .int z ∧ z ∈ ns := fun x hx => by obtain ⟨z, hz, e⟩ := List.mem_map.mp hx; exact ⟨z, e.symm, hz⟩
  have lzs : (zs.map V.int).length ≤ 10 := by rw [zml]; omega
  have lns : (ns.map V.int).length ≤ 10 := by rw [nml]; omega
  have i1 : ∀ {y : Int}, y ∈ ns → ∀ x ∈ [V.int y], ∃ z : Int, x = .int z ∧ z ∈ ns := fun hy x hx => ⟨_, List.mem_singleton.mp hx, hy⟩
  have mset : ∀ {A : List V} {j : Nat} {y : Int}, (∀ x ∈ A, ∃ z : Int, x = .int z ∧ z ∈ ns) → y ∈ ns → ∀ x ∈ A.set j (.int y), ∃ z : Int, x = .int z ∧ z ∈ ns := fun hA hy x hx => by
   rcases List.mem_or_eq_of_mem_set hx with z | z
   ·exact hA x z
   ·exact ⟨_, z, hy⟩
  simp only [List.mem_cons, List.not_mem_nil, or_false] at hvm2
  rcases hvm2 with e | e | e | e | e | e | e | e | e | e | e | e | e | e | e | e | e <;> rw [e]
  ·exact odt_lst (L41.m (by repeat (first | exact List.mem_cons_self | apply List.mem_cons_of_mem))) (Nat.le_trans (len2 _ _ 11 10 (len2 _ _ 10 1 lc1 (Nat.le_refl _)) lc2) (by decide)) (mem2 (mem2 (T mc1) tO) (T mc2))
  ·exact odt_lst (L41.m (by repeat (first | exact List.mem_cons_self | apply List.mem_cons_of_mem))) (Nat.le_trans (len2 _ _ 11 10 (len2 _ _ 10 1 lc1 (Nat.le_refl _)) lc3) (by decide)) (mem2 (mem2 (T mc1) tO) (T mc3))
  ·exact odt_lst (L41.m (by repeat (first | exact List.mem_cons_self | apply List.mem_cons_of_mem))) (Nat.le_trans (len2 _ _ 10 10 lc1 lc2) (by decide)) (mem2 (T mc1) (T mc2))
  ·exact odt_lst (L41.m (by repeat (first | exact List.mem_cons_self | apply List.mem_cons_of_mem))) (by rw [List.length_set, List.length_set]; omega) (T (mset (mset izs (sub xt mxt)) (sub xa mxa)))
  ·exact odt_lst (L41.m (by repeat (first | exact List.mem_cons_self | apply List.mem_cons_of_mem))) (Nat.le_trans (len2 _ _ 10 1 lzs (Nat.le_refl _)) (by decide)) (mem2 (T izs) (T (i1 (sub xt mxt))))
  ·exact odt_lst (L41.m (by repeat (first | exact List.mem_cons_self | apply List.mem_cons_of_mem))) (Nat.le_trans (len2 _ _ 10 1 lzs (Nat.le_refl _)) (by decide)) (mem2 (T izs) (T (i1 hoi)))
  ·exact odt_lst (L41.m (by repeat (first | exact List.mem_cons_self | apply List.mem_cons_of_mem))) (Nat.le_trans (len2 _ _ 10 10 lc4 lc3) (by decide)) (mem2 (T mc4) (T mc3))
  ·exact odt_lst (L41.m (by repeat (first | exact List.mem_cons_self | apply List.mem_cons_of_mem))) (Nat.le_trans (lns) (by decide)) (T ins)
  ·exact odt_lst (xs := []) (L41.m (by repeat (first | exact List.mem_cons_self | apply List.mem_cons_of_mem))) (by decide) (fun x hx => nomatch hx)
  ·exact odt_tup (L41.m (by repeat (first | exact List.mem_cons_self | apply List.mem_cons_of_mem))) (Nat.le_trans lzs (by decide)) (T izs)
  ·exact odt_flat Th.non (fun _ z => nomatch z)
  ·exact odt_flat (Th.str (by decide) (by decide)) (fun _ z => nomatch z)
  ·exact odt_flat (Th.int (by decide)) (fun _ z => nomatch z)
  ·exact odt_dct (L41.m (by repeat (first | exact List.mem_cons_self | apply List.mem_cons_of_mem)))
  ·exact odt_flat (Th.bl _) (fun _ z => nomatch z)
  ·exact odt_one (L41.m (by repeat (first | exact List.mem_cons_self | apply List.mem_cons_of_mem))) (L41.G _ _ m_p) lzs (T izs)
  ·exact odt_lst (L41.m (by repeat (first | exact List.mem_cons_self | apply List.mem_cons_of_mem))) (Nat.le_trans (len2 _ _ 10 1 lzs (Nat.le_refl _)) (by decide)) (mem2 (T izs) tO)
end
abbrev sLaw : Stmt := top 48
def spLaw (K : PySem.W.Frag) : Sp := fun vs H Q _ => ∃ (a : Addr) (ns : List Int), vs = [.ref a] ∧ SqL K H a (ns.map V.int) ∧ ns.length ≤ 63 ∧ ∀ H', Q (.bl true) H'
theorem th_ints {M : Hp} {a : Addr} {ns : List Int} (h : M a = some (.lst (ns.map V.int))) (l : ns.length ≤ 10) (b : ∀ x ∈ ns, x.natAbs < 10 ^ 29) : Th M (.ref a) 100 2 := by
 refine (Th.lst (n := 0) (k := 0) h fun x hx => ?_).mono (by rw [List.length_map]; omega) (by decide)
 obtain ⟨z, hz, e⟩ := List.mem_map.mp hx
 rw [← e]
 have := b z hz
 exact Th.int (by omega)
theorem cut_to (ns : List Int) {k : Int} (h : 0 ≤ k) : cutV (ns.map V.int) none (some k) = (ns.take k.toNat).map V.int := by
 unfold cutV
 have h1 : HT.sIx (ns.map V.int).length 0 none = 0 := rfl
 have h2 : HT.sIx (ns.map V.int).length (ns.map V.int).length (some k) = min k.toNat ns.length := by
  show (if k < 0 then _ else min k.toNat (ns.map V.int).length) = _
  rw [if_neg (by omega), List.length_map]
 rw [h1, h2, List.drop_zero, Nat.sub_zero, List.map_take]
 rcases Nat.le_total k.toNat ns.length with z | z
 ·rw [Nat.min_eq_left z]
 ·rw [Nat.min_eq_right z, List.take_of_length_le (by rw [List.length_map]; exact Nat.le_refl _), List.take_of_length_le (by rw [List.length_map]; exact z)]
theorem plan_cut {ns ss : List Int} (ok : PlanOk ns ss) {k : Nat} (h : 1 ≤ k) : PlanOk (ns.take k) ss :=
 ⟨⟨ok.n.up.sublist (List.take_sublist _ _), fun x hx => ok.n.bd x (List.mem_of_mem_take hx)⟩, ok.s, by have := ok.n1; rw [List.length_take]; omega, by have := ok.n2; rw [List.length_take]; omega, ok.s2⟩
theorem say_plan : sayD (some 0) "plan" = "plan" := by decide
theorem say_part : sayD (some 6) "part" = "part" := by decide
theorem say_place : sayD (some 3) "place" = "place" := by decide
section
variable {f : Addr} {fd : FuncData}
theorem scLaw : FnScope ["script", "at", "store", "plan", "handed", "turn", "part", "odd", "bad", "place", "kept", "door", "word", "good"] ["script"] (defScope sLaw) := ⟨rfl, rfl, rfl, by decide +kernel, rfl, by decide +kernel, by decide +kernel⟩
set_option maxHeartbeats 0 in
theorem ok_law {ce st pn cp wk od np ol wo ip lp : Addr} {ced std pnd cpd wkd odd npd old_ wod ipd lpd : FuncData} (F : Fun K "law" "law" sLaw f fd) (B : BtR mg)
  (GC : FnOk P w K mg base CX0 8 ce ced ["script", "k"] (spCell K)) (bC : Binds K ced ["script", "k"] []) (kC : Kee K ce) (mC : mg "_law_cell" = some (.ref ce))
  (GS : FnOk P w K mg base CX0 8 st std ["cell"] spStT) (bS : Binds K std ["cell"] []) (kS : Kee K st) (mS : mg "_law_store" = some (.ref st))
  (GM : FnOk P w K mg base CX0 8 pn pnd ["store"] spPlT) (bM : Binds K pnd ["store"] []) (kM : Kee K pn) (mM : mg "_law_plan" = some (.ref pn))
  (GP : FnOk P w K mg base CX0 8 cp cpd ["plan"] spCopy) (bP : Binds K cpd ["plan"] []) (kP : Kee K cp) (mP : mg "_law_copy" = some (.ref cp))
  (GW : FnOk P w K mg base CX0 8 wk wkd ["store", "plan"] spWk) (bW : Binds K wkd ["store", "plan"] []) (kW : Kee K wk) (mW : mg "_law_walk" = some (.ref wk))
  (GO : FnOk P w K mg base CX0 8 od odd ["store", "plan", "part"] spOdp) (bO : Binds K odd ["store", "plan", "part"] []) (kO : Kee K od) (mO : mg "_law_odd_part" = some (.ref od))
  (GN : FnOk P w K mg base CX0 8 np npd ["store", "plan"] spNopT) (bN : Binds K npd ["store", "plan"] []) (kN : Kee K np) (mN : mg "_law_no_plan" = some (.ref np))
  (GU : FnOk P w K mg base CX0 8 ol old_ ["store", "plan", "part"] spOdl) (bU : Binds K old_ ["store", "plan", "part"] []) (kU : Kee K ol) (mU : mg "_law_odd_place" = some (.ref ol))
  (GD : FnOk P w K mg base CX0 8 wo wod ["door", "plan", "thing", "place", "due"] spWord) (bD : Binds K wod ["door", "plan", "thing", "place", "due"] []) (kD : Kee K wo) (mD : mg "_law_word" = some (.ref wo))
  (GI : FnOk P w K mg base CX0 8 ip ipd ["plan", "thing"] spIsTX) (bI : Binds K ipd ["plan", "thing"] []) (kI : Kee K ip) (mI : mg "_law_is_part" = some (.ref ip))
  (GL : FnOk P w K mg base CX0 8 lp lpd ["plan", "part"] spPtt) (bL : Binds K lpd ["plan", "part"] []) (kL : Kee K lp) (mL : mg "_law_places" = some (.ref lp)) : FnOk P w K mg base CX0 9 f fd ["script"] (spLaw K) := by
 refine F.ok scLaw (fun vs H Q E h => ?_) (fun cdv A outer s H vs Q E hr h => ?_)
 ·obtain ⟨a, ns, rfl, _⟩ := h
  rfl
 obtain ⟨a0, ns0, rfl, hS, h63, q⟩ := h
 refine ⟨_, (@pss_cons _ _ _ _ _ (ps_for PassesOwn.never rfl (pi_range1 rfl B.range (pa_cons (pe_callB (call_min2 rfl) rfl B.min boot_min (pa_cons (pe_callB (call_max2 rfl) rfl B.max boot_max (pa_cons (pe_callB call_len_seq rfl B.len PySem.boot_len (pa_cons (pv 0) pa_nil)) (pa_cons pe_int pa_nil))) (pa_cons pe_int pa_nil))) pa_nil)) (pg_name (i := 1) scLaw.nd rfl (Or.inl rfl)) (@pss_cons _ _ _ _ _ (ps_set (i := 2) scLaw.nd rfl (Or.inl rfl) (pe_call GS hr rfl mS kS bS .nil pass0 (pa_cons (pe_call GC hr rfl mC kC bC .nil pass0 (pa_cons (pv 0) (pa_cons (pv 1) pa_nil))) pa_nil))) (@pss_cons _ _ _ _ _ (ps_set (i := 3) scLaw.nd rfl (Or.inl rfl) (pe_call GM hr rfl mM kM bM .nil pass0 (pa_cons (pv 2) pa_nil))) (@pss_cons _ _ _ _ _ (ps_set (i := 3) scLaw.nd rfl (Or.inl rfl) (pe_tup (pa_cons (pe_slice sl_list (pe_ix ix_tup (pv 3) pe_int (fun _ _ => rfl)) po_none (po_some pe_int)) (pa_cons (pe_ix ix_tup (pv 3) pe_int (fun _ _ => rfl)) pa_nil)))) (@pss_cons _ _ _ _ _ (ps_set (i := 4) scLaw.nd rfl (Or.inl rfl) (pe_call GP hr rfl mP kP bP .nil pass0 (pa_cons (pv 3) pa_nil))) (@pss_one _ _ _ (ps_for PassesOwn.never rfl (pi_range1 rfl B.range (pa_cons pe_int pa_nil)) (pg_name (i := 5) scLaw.nd rfl (Or.inl rfl)) (@pss_cons _ _ _ _ _ (ps_set (i := 6) scLaw.nd rfl (Or.inl rfl) (pe_call GW hr rfl mW kW bW .nil pass0 (pa_cons (pv 2) (pa_cons (pv 3) pa_nil)))) (@pss_cons _ _ _ _ _ (ps_set (i := 7) scLaw.nd rfl (Or.inl rfl) (pe_call GO hr rfl mO kO bO .nil pass0 (pa_cons (pv 2) (pa_cons (pv 3) (pa_cons (pv 6) pa_nil))))) (@pss_cons _ _ _ _ _ (ps_set (i := 8) scLaw.nd rfl (Or.inl rfl) (pe_call GN hr rfl mN kN bN .nil pass0 (pa_cons (pv 2) (pa_cons (pv 3) pa_nil)))) (@pss_cons _ _ _ _ _ (ps_set (i := 9) scLaw.nd rfl (Or.inl rfl) (pe_call GU hr rfl mU kU bU .nil pass0 (pa_cons (pv 2) (pa_cons (pv 3) (pa_cons (pv 6) pa_nil))))) (@pss_cons _ _ _ _ _ (ps_set (i := 10) scLaw.nd rfl (Or.inl rfl) (pe_callB (call_repr hr.units hr.gd) rfl B.repr boot_repr (pa_cons (pe_lst (pa_cons (pv 6) (pa_cons (pv 7) (pa_cons (pv 8) (pa_cons (pv 9) pa_nil))))) pa_nil))) (@pss_cons _ _ _ _ _ (ps_for PassesOwn.never rfl (pi_range1 rfl B.range (pa_cons pe_int pa_nil)) (pg_name (i := 11) scLaw.nd rfl (Or.inl rfl)) (@pss_cons _ _ _ _ _ (ps_if (pt_cmpR op_ne (pe_call GD hr rfl mD kD bD .nil pass0 (pa_cons (pv 11) (pa_cons (pv 8) (pa_cons (pe_ix ix_list (pe_lst (pa_cons (pv 6) (pa_cons (pv 7) pa_nil))) (pe_op op_mod (pv 5) pe_int) (fun _ _ => rfl)) (pa_cons (pv 9) (pa_cons pe_str pa_nil)))))) pe_str (nomark _)) (@pss_one _ _ _ (ps_ret pe_bl)) pss_nil) (@pss_cons _ _ _ _ _ (ps_set (i := 12) scLaw.nd rfl (Or.inl rfl) (pe_call GD hr rfl mD kD bD .nil pass0 (pa_cons (pv 11) (pa_cons (pv 4) (pa_cons (pv 7) (pa_cons (pe_ix ix_list (pe_lst (pa_cons pe_int (pa_cons (pv 9) pa_nil))) (pe_op op_mod (pv 5) pe_int) (fun _ _ => rfl)) (pa_cons pe_str pa_nil))))))) (@pss_cons _ _ _ _ _ (ps_if (PW.pt (pw_and (pt_not (pt_val (pe_call GI hr rfl mI kI bI .nil pass0 (pa_cons (pv 3) (pa_cons (pv 7) pa_nil))))) (pw_and1 (pt_cmpR op_ne (pv 12) pe_str (nomark _))))) (@pss_one _ _ _ (ps_ret pe_bl)) pss_nil) (@pss_one _ _ _ (ps_if (PW.pt (pw_and (pt_cmpR op_lt (pv 11) pe_int (nomark _)) (pw_and1 (pt_cmpR op_ne (pe_call GD hr rfl mD kD bD .nil pass0 (pa_cons (pv 11) (pa_cons (pv 4) (pa_cons (pv 6) (pa_cons (pv 9) (pa_cons pe_str pa_nil)))))) pe_str (nomark _))))) (@pss_one _ _ _ (ps_ret pe_bl)) pss_nil)))))) (@pss_cons _ _ _ _ _ (ps_if (pt_cmpR op_ne (pe_call GD hr rfl mD kD bD .nil pass0 (pa_cons pe_int (pa_cons (pv 4) (pa_cons (pv 6) (pa_cons (pv 9) (pa_cons pe_str pa_nil)))))) pe_str (nomark _)) (@pss_one _ _ _ (ps_ret pe_bl)) pss_nil) (@pss_cons _ _ _ _ _ (ps_for PassesOwn.never rfl (pi_list (pe_call GL hr rfl mL kL bL .nil pass0 (pa_cons (pv 3) (pa_cons (pv 6) pa_nil)))) (pg_name (i := 13) scLaw.nd rfl (Or.inl rfl)) (@pss_one _ _ _ (ps_if (pt_cmpR op_ne (pe_call GD hr rfl mD kD bD .nil pass0 (pa_cons pe_int (pa_cons (pv 4) (pa_cons (pv 6) (pa_cons (pv 13) (pa_cons pe_str pa_nil)))))) pe_str (nomark _)) (@pss_one _ _ _ (ps_ret pe_bl)) pss_nil))) (@pss_one _ _ _ (ps_if (PW.pt (pw_or (pt_cmpR op_ne (pe_callB (call_repr hr.units hr.gd) rfl B.repr boot_repr (pa_cons (pe_lst (pa_cons (pv 6) (pa_cons (pv 7) (pa_cons (pv 8) (pa_cons (pv 9) pa_nil))))) pa_nil)) (pv 10) (nomark _)) (pw_or1 (pt_cmpR (op_neD hr.units) (pv 4) (pv 3) (nomark _))))) (@pss_one _ _ _ (ps_ret pe_bl)) pss_nil))))))))))))))))) (@pss_one _ _ _ (ps_ret pe_bl))), ?_⟩
 have sml : (ns0.map V.int).length = ns0.length := List.length_map _
 refine ⟨_, rfl, a0, _, rfl, .inl hS, _, _, rfl, _, _, rfl, _, rfl, by rw [sml]; split <;> split <;> omega, by rw [sml]; split <;> split <;> omega, ?_⟩
 refine for_range (lo := 0) (n := _) (fun i σ H' => ∃ (y1 y2 y3 y4 y5 y6 y7 y8 y9 y10 y11 y12 y13 : Option V), σ = [some (.ref a0), y1, y2, y3, y4, y5, y6, y7, y8, y9, y10, y11, y12, y13] ∧ Same H H') ⟨_, _, _, _, _, _, _, _, _, _, _, _, _, rfl, Same.rfl'⟩ ?_ ?_
 ·rintro i σ H3 hi ⟨y1, y2, y3, y4, y5, y6, y7, y8, y9, y10, y11, y12, y13, rfl, g3⟩
  have hi12 : i < 12 := by rw [sml] at hi; split at hi <;> (try split at hi) <;> omega
  refine ⟨_, rfl, _, rfl, a0, ns0, _, rfl, g3.seq hS, by omega, by omega, fun cell => ⟨cell, rfl, fun d H4 g4 nd S4 => ?_⟩⟩
  refine ⟨_, rfl, d, rfl, S4, fun t0 aX b ns' ss H5 S5 E5 nt0 naX nb ab0 et0 eaX eb ok' lt' lt26 => ?_⟩
  have td0 : t0 ≠ d := S4.out nt0
  have adX : aX ≠ d := S4.out naX
  have bd : b ≠ d := S4.out nb
  refine ⟨_, rfl, t0, _, 0, _, rfl, rfl, SqT.of et0, rfl, 7, rfl, aX, _, rfl, SqL.of eaX, fun a ha => ?_⟩
  rw [cut_to ns' (by decide)]
  have g5a := Same.new ha (.lst ((ns'.take (7 : Int).toNat).map V.int))
  have ok := plan_cut ok' (k := (7 : Int).toNat) (by decide)
  have lt : ∀ x ∈ ns'.take (7 : Int).toNat, x < 5 * 10 ^ 25 := fun x hx => lt' x (List.mem_of_mem_take hx)
  generalize ns'.take (7 : Int).toNat = ns at g5a ok lt ⊢
  refine ⟨_, rfl, t0, _, 1, _, rfl, rfl, SqT.of (g5a _ _ et0), rfl, two_le, fun t ht => ?_⟩
  have g5b := Same.new ht (.tup [.ref a, .ref b])
  have g5 := g5a.trans g5b
  have td : t ≠ d := (S5.ex g5a).out ht
  have ad : a ≠ d := S5.out ha
  have pl5 : IsPl (upd (upd H5 a (.lst (ns.map V.int))) t (.tup [.ref a, .ref b])) t a b ns ss := ⟨upd_same, g5b _ _ upd_same, g5 _ _ eb, ok⟩
  have S5' := S5.ex g5
  have E5' : Ex (· = d) H4 (upd (upd H5 a (.lst (ns.map V.int))) t (.tup [.ref a, .ref b])) := E5.trans (Ex.same g5)
  generalize upd (upd H5 a (.lst (ns.map V.int))) t (.tup [.ref a, .ref b]) = H5' at g5 pl5 S5' E5' ⊢
  have n1 := ok.n1
  have n10 := ok.n2
  refine ⟨_, rfl, t, a, b, ns, ss, rfl, pl5, fun t' a' b' H6 g6 nt' na' nb' ab' pl6' => ?_⟩
  have pl6 : IsPl H6 t a b ns ss := pl5.same g6
  have S6 := S5'.ex g6
  have td' : t' ≠ d := S5'.out nt'
  have ad' : a' ≠ d := S5'.out na'
  have bd' : b' ≠ d := S5'.out nb'
  have aa : a' ≠ a := Ne.symm (ne_of_none pl5.a na')
  have bb : b' ≠ b := Ne.symm (ne_of_none pl5.b nb')
  have G6 : ∀ {H' : Hp}, Ex (· = d) H6 H' → Same H H' := fun {H'} e c o hc => by
   have h3 := g3 _ _ hc
   have hcd : c ≠ d := ne_of_none h3 nd
   exact e c o hcd (g6 _ _ (E5' c o hcd (g4 _ _ h3)))
  have mv : ∀ {H' : Hp}, Ex (· = d) H6 H' → IsPl H' t a b ns ss ∧ IsPl H' t' a' b' ns ss := fun e =>
   ⟨⟨e _ _ td pl6.t, e _ _ ad pl6.a, e _ _ bd pl6.b, ok⟩, ⟨e _ _ td' pl6'.t, e _ _ ad' pl6'.a, e _ _ bd' pl6'.b, ok⟩⟩
  have mk : ∀ {H' : Hp}, IsPl H' t a b ns ss → IsPl (msk (S1 d) H') t a b ns ss := fun pl => ⟨by rw [msk_in (S := S1 d) td]; exact pl.t, by rw [msk_in (S := S1 d) ad]; exact pl.a, by rw [msk_in (S := S1 d) bd]; exact pl.b, ok⟩
  have ex : ∀ {H' H'' : Hp}, Same (msk (S1 d) H') (msk (S1 d) H'') → Ex (· = d) H' H'' := fun g c o n h => msk_le _ _ (g _ _ (by rw [msk_in (S := S1 d) n]; exact h))
  refine ⟨_, rfl, by decide, by decide, ?_⟩
  refine for_range (lo := 0) (n := (6 : Int).toNat) (fun j σ H' => ∃ z5 z6 z7 z8 z9 z10 z11 z12 z13 : Option V, σ = [some (.ref a0), some (.int (0 + (i : Int))), some (.ref d), some (.ref t), some (.ref t'), z5, z6, z7, z8, z9, z10, z11, z12, z13] ∧ StT H' d ∧ Ex (· = d) H6 H') ⟨_, _, _, _, _, _, _, _, _, rfl, S6, Ex.refl⟩ ?_ ?_
  ·rintro j σ H7 hj ⟨z5, z6, z7, z8, z9, z10, z11, z12, z13, rfl, S7, E7⟩
   refine ⟨_, rfl, _, rfl, d, t, a, b, ns, ss, rfl, S7, (mv E7).1, ⟨td, ad, bd⟩, fun fo zs H8 S8 E8 nfo efo pk => ?_⟩
   have E78 := E7.trans E8
   have fd' : fo ≠ d := S7.out nfo
   have pl8 := (mv E78).1
   have zl := pk.len
   have z1 := pk.ne
   have z10' : zs.length ≤ 10 := by omega
   refine ⟨_, rfl, _, rfl, _, rfl, d, t, a, b, fo, ns, ss, zs, rfl, S8, mk pl8, by rw [msk_in (S := S1 d) fd']; exact efo, z1, z10', pk.sub, lt, lt26, fun ov H9 S9 g9 to => ?_⟩
   have E9 := E78.trans (ex g9)
   refine ⟨_, rfl, _, rfl, d, t, a, b, ns, ss, rfl, S9, mk (mv E9).1, lt, lt26, fun bv H10 S10 g10 nb => ?_⟩
   have E10 := E9.trans (ex g10)
   have efo9 : H9 fo = some (.lst (zs.map V.int)) := ex g9 _ _ fd' efo
   have efo10 : H10 fo = some (.lst (zs.map V.int)) := ex g10 _ _ fd' efo9
   refine ⟨_, rfl, _, rfl, _, rfl, d, t, a, b, fo, ns, ss, zs, rfl, S10, (mv E10).1, ⟨td, ad, bd⟩, efo10, fd', z1, z10', fun lv H11 S11 X11 npl => ?_⟩
   have E11 := E10.trans X11
   have g11 := ex_same X11
   obtain ⟨dO, hO', fO, sO⟩ := to
   have hO : Dat H11 ov dO := ((hO'.same g10).same g11).same msk_le
   obtain ⟨dB, hB', fB, cB⟩ := nb
   have hB : Dat H11 bv dB := (hB'.same g11).same msk_le
   obtain ⟨dL, hL', fL, cL⟩ := npl
   have hL : Dat H11 lv dL := hL'.same msk_le
   have efo11 : H11 fo = some (.lst (zs.map V.int)) := X11 _ _ fd' efo10
   have hC : Dat H11 (.ref fo) (.list (zs.map PyData.int)) := .lst efo11 (DatAll.ints zs)
   have il : ∀ zs : List Int, intsL (zs.map PyData.int) = some zs := fun zs => by
    induction zs with
    | nil => rfl
    | cons y r ih => show (intsL (r.map PyData.int)).map (y :: ·) = _; rw [ih]; rfl
   have iC : intsD (.list (zs.map PyData.int)) = some zs := il zs
   have cC : partD ns ss (.list (zs.map PyData.int)) = true := by unfold partD; rw [iC]; exact partB_iff.mpr pk
   have sC : shortD (.list (zs.map PyData.int)) := by show (zs.map PyData.int).length < 64; rw [List.length_map]; omega
   obtain ⟨dC, hC2, fC⟩ : Th H11 (.ref fo) 100 2 := th_ints efo11 z10' fun x hx => by
    have h1 := lt x (pk.sub x hx)
    have h2 := ok.n.bd x (pk.sub x hx)
    have h3 : (5 : Int) * 10 ^ 25 < 10 ^ 29 := (by decide)
    omega
   have lst4 : ∀ {M : Hp} {l : Addr}, Same H11 M → M l = some (.lst [.ref fo, ov, bv, lv]) → Dat M (.ref l) (.list [dC, dO, dB, dL]) := fun {M l} gM hl => .lst hl (.cons (hC2.same gM) (.cons (hO.same gM) (.cons (hB.same gM) (.cons (hL.same gM) .nil))))
   have fine : Fine 6104 5 (.list [dC, dO, dB, dL]) := by
    have h1 := fC; have h2 := fO; have h3 := fB; have h4 := fL
    refine ⟨?_, ?_, ?_, ?_⟩
    ·have a1 := h1.show_; have a2 := h2.show_; have a3 := h3.show_; have a4 := h4.show_
     simp only [PyData.showable, PyData.showableAll, a1, a2, a3, a4, Bool.and_self]
    ·have a1 := h1.leaf; have a2 := h2.leaf; have a3 := h3.leaf; have a4 := h4.leaf
     simp only [PyData.leavesShort, PyData.leavesShortAll, a1, a2, a3, a4, Bool.and_self]
    ·have a1 := h1.bulk; have a2 := h2.bulk; have a3 := h3.bulk; have a4 := h4.bulk
     simp only [PyData.bulk, PyData.bulkAll]
     omega
    ·have a1 := h1.deep; have a2 := h2.deep; have a3 := h3.deep; have a4 := h4.deep
     simp only [PyData.depth, PyData.depthAll]
     omega
   have dl := fine.len (by decide)
   refine ⟨_, rfl, _, rfl, _, rfl, _, rfl, (by show 4 ≤ sizeLine; decide), ?_⟩
   intro l0 hl0
   refine ⟨_, _, rfl, lst4 (Same.new hl0 _) upd_same, fine.show_, Nat.le_trans fine.deep (by decide), dl, ?_⟩
   have gS : Same H11 (upd H11 l0 (.lst [.ref fo, ov, bv, lv])) := Same.new hl0 _
   generalize upd H11 l0 (.lst [.ref fo, ov, bv, lv]) = H12 at gS ⊢
   have pl11 := mv E11
   obtain ⟨dP, hP, cP⟩ := pl11.2.dat
   have onP : ∀ {M : Hp} {t2 a2 b2 : Addr} {ns2 ss2 : List Int}, Same H11 M → V.ref t' = .ref t2 → IsPl M t2 a2 b2 ns2 ss2 → ns2 = ns ∧ ss2 = ss := fun {M t2 a2 b2 ns2 ss2} gM e p2 => by
    cases e
    have p1 := pl11.2.same gM
    have e1 := p2.t
    rw [p1.t] at e1
    cases e1
    have e2 := p2.a
    rw [p1.a] at e2
    have e3 := p2.b
    rw [p1.b] at e3
    exact ⟨(map_inj (HO.lst.inj (Option.some.inj e2))).symm, (map_inj (HO.lst.inj (Option.some.inj e3))).symm⟩
   refine ⟨_, rfl, by decide, by decide, ?_⟩
   refine for_range (lo := 0) (n := (3 : Int).toNat) (fun k σ H' => ∃ w11 w12 : Option V, σ = [some (.ref a0), some (.int (0 + (i : Int))), some (.ref d), some (.ref t), some (.ref t'), some (.int (0 + (j : Int))), some (.ref fo), some ov, some bv, some lv, some (.str (PyData.list [dC, dO, dB, dL]).shown), w11, w12, z13] ∧ Same H11 H') ⟨_, _, rfl, gS⟩ ?_ ?_
   ·rintro k σ H13 hk ⟨w11, w12, rfl, g13⟩
    refine ⟨_, rfl, _, rfl, _, rfl, _, rfl, two_le, ?_⟩
    intro l3 hl3
    have g14 := g13.trans (Same.new hl3 (.lst [.ref fo, ov]))
    have e14 := upd_same (H := H13) (a := l3) (o := .lst [.ref fo, ov])
    generalize upd H13 l3 (.lst [.ref fo, ov]) = H14 at g14 e14 ⊢
    obtain ⟨x, dX, hx, hX, sX⟩ : ∃ (x : V) (dX : PyData), atI [V.ref fo, ov] ((0 + (j : Int)) % 2) = some x ∧ Dat H14 x dX ∧ shortD dX := by
     have h01 : (0 + (j : Int)) % 2 = 0 ∨ (0 + (j : Int)) % 2 = 1 := by omega
     rcases h01 with e | e <;> rw [e]
     ·exact ⟨_, _, rfl, hC.same g14, sC⟩
     ·exact ⟨_, _, rfl, hO.same g14, sO⟩
    refine ⟨_, rfl, _, _, rfl, rfl, (by decide : (0 : Int) < 2), l3, _, _, x, rfl, rfl, SqL.of e14, hx, _, rfl, _, bv, x, lv, dB, dX, dL, "plan", rfl, hB.same g14, hX, hL.same g14, sX, (fun c => by rw [cB] at c; cases c), fun _ H15 g15 => ?_⟩
    rw [say_plan]
    refine ⟨rfl, _, rfl, iteF ?_⟩
    have g15 := g14.trans g15
    refine ⟨_, rfl, _, rfl, _, rfl, _, rfl, two_le, ?_⟩
    intro l4 hl4
    have g16 := g15.trans (Same.new hl4 (.lst [.int 0, lv]))
    have e16 := upd_same (H := H15) (a := l4) (o := .lst [.int 0, lv])
    generalize upd H15 l4 (.lst [.int 0, lv]) = H16 at g16 e16 ⊢
    obtain ⟨y, dY, hy, hY⟩ : ∃ (y : V) (dY : PyData), atI [V.int 0, lv] ((0 + (j : Int)) % 2) = some y ∧ Dat H16 y dY := by
     have h01 : (0 + (j : Int)) % 2 = 0 ∨ (0 + (j : Int)) % 2 = 1 := by omega
     rcases h01 with e | e <;> rw [e]
     ·exact ⟨_, _, rfl, .int 0⟩
     ·exact ⟨_, _, rfl, hL.same g16⟩
    refine ⟨_, rfl, _, _, rfl, rfl, (by decide : (0 : Int) < 2), l4, _, _, y, rfl, rfl, SqL.of e16, hy, _, .ref t', ov, y, dP, dO, dY, "part", rfl, hP.same g16, hO.same g16, hY, sO, (fun _ t2 a2 b2 ns2 ss2 e2 p2 H17 g17 => ?_), (fun c => by rw [cP] at c; cases c)⟩
    obtain ⟨en, es⟩ := onP g16 e2 p2
    rw [en, es]
    have g17 := g16.trans g17
    dsimp only [gName]
    refine seq_postT (fun σ' H' => σ' = [some (.ref a0), some (.int (0 + (i : Int))), some (.ref d), some (.ref t), some (.ref t'), some (.int (0 + (j : Int))), some (.ref fo), some ov, some bv, some lv, some (.str (PyData.list [dC, dO, dB, dL]).shown), some (.int (0 + (k : Int))), some (.str (sayD (doorD (0 + (k : Int)) ns ss dO dY) "part")), z13] ∧ Same H11 H') (fun N hN => ?_) ?_
    ·refine ⟨_, rfl, _, rfl, t, a, b, ns, ss, ov, dO, rfl, pl11.1.same g17, hO.same g17, sO, fun H18 g18 => ⟨_, rfl, ?_⟩⟩
     have g18 := g17.trans g18
     cases cO : partD ns ss dO with
     | true => exact iteF (hN _ _ ⟨rfl, g18⟩)
     | false =>
      refine iteT ?_
      have e6 : sayD (doorD (0 + (k : Int)) ns ss dO dY) "part" = "part" := by
       unfold doorD
       rw [if_neg (by rw [cO]; exact Bool.false_ne_true)]
       exact say_part
      refine ⟨_, rfl, rfl, _, rfl, ite2 (fun c => absurd c (by rw [e6]; simp)) (fun _ => hN _ _ ⟨rfl, g18⟩)⟩
    rintro σ H18 ⟨rfl, g18⟩
    refine ⟨_, rfl, _, _, rfl, rfl, _, rfl, ite2 (fun ck => ?_) (fun ck => ?_)⟩
    ·have k2 : 0 + (k : Int) < 2 := of_decide_eq_true ck
     have wT : sayD (doorD (0 + (k : Int)) ns ss (.list (zs.map PyData.int)) dL) "place" = "told" := by
      unfold doorD
      rw [if_pos cC, if_pos (by omega)]
      rfl
     refine ⟨_, rfl, _, rfl, _, rfl, _, rfl, _, .ref t', .ref fo, lv, dP, _, dL, "place", rfl, hP.same g18, hC.same g18, hL.same g18, sC, (fun _ t2 a2 b2 ns2 ss2 e2 p2 H19 g19 => ?_), (fun c => by rw [cP] at c; cases c)⟩
     obtain ⟨en, es⟩ := onP g18 e2 p2
     rw [en, es]
     rw [wT]
     exact ⟨rfl, _, rfl, iteF ⟨_, _, rfl, g18.trans g19⟩⟩
    ·exact iteF ⟨_, _, rfl, g18⟩
   ·rintro σ H13 ⟨w11, w12, rfl, g13⟩
    have wP : sayD (doorD 2 ns ss (.list (zs.map PyData.int)) dL) "place" = "place" := by
     unfold doorD
     rw [if_pos cC, if_neg (by omega), iC]
     show sayD (if placeD ss zs dL = true then none else some 3) "place" = "place"
     rw [cL, if_neg Bool.false_ne_true]
     exact say_place
    refine ⟨_, rfl, _, rfl, _, rfl, _, .ref t', .ref fo, lv, dP, _, dL, "place", rfl, hP.same g13, hC.same g13, hL.same g13, sC, (fun _ t2 a2 b2 ns2 ss2 e2 p2 H14 g14 => ?_), (fun c => by rw [cP] at c; cases c)⟩
    obtain ⟨en, es⟩ := onP g13 e2 p2
    rw [en, es]
    rw [wP]
    refine ⟨rfl, _, rfl, iteF ?_⟩
    have g14 := g13.trans g14
    refine ⟨_, rfl, _, rfl, t, a, b, fo, ns, ss, zs, rfl, pl11.1.same g14, g14 _ _ efo11, z1, z10', fun L H15 g15 nL eL => ⟨L, rfl, ⟨_, SqL.of eL⟩, ?_⟩⟩
    have g15 := g14.trans g15
    have kml : ((iv (plcs ss zs)).map V.int).length = (plcs ss zs).length := by rw [List.length_map, iv_len]
    refine for_list (xs := (iv (plcs ss zs)).map V.int) (fun i' σ H' => ∃ y13 : Option V, σ = [some (.ref a0), some (.int (0 + (i : Int))), some (.ref d), some (.ref t), some (.ref t'), some (.int (0 + (j : Int))), some (.ref fo), some ov, some bv, some lv, some (.str (PyData.list [dC, dO, dB, dL]).shown), w11, w12, y13] ∧ Same H15 H') ⟨_, rfl, Same.rfl'⟩ (fun i' σ H' _ ⟨_, _, g⟩ => SqL.of (g _ _ eL)) ?_ ?_
    ·rintro i' v σ H16 hv ⟨y13, rfl, g16⟩
     have hi' : i' < (plcs ss zs).length := by rw [← kml]; exact (List.getElem?_eq_some_iff.mp hv).1
     have ek : (plcs ss zs)[i']? = some (plcs ss zs)[i'] := List.getElem?_eq_getElem hi'
     rw [nat_at ek] at hv
     cases hv
     have hkp := List.getElem_mem hi'
     generalize (plcs ss zs)[i'] = kk at hkp ⊢
     have g16' := g15.trans g16
     have wT : sayD (doorD 2 ns ss (.list (zs.map PyData.int)) (.int (kk : Int))) "place" = "told" := by
      unfold doorD
      rw [if_pos cC, if_neg (by omega), iC]
      show sayD (if (iv (plcs ss zs)).contains (kk : Int) = true then none else some 3) "place" = "told"
      have hc : (iv (plcs ss zs)).contains (kk : Int) = true := List.contains_iff_mem.mpr (List.mem_map.mpr ⟨kk, hkp, rfl⟩)
      rw [if_pos hc]
      rfl
     refine ⟨_, rfl, _, rfl, _, rfl, _, .ref t', .ref fo, _, dP, _, _, "place", rfl, hP.same g16', hC.same g16', .int _, sC, (fun _ t2 a2 b2 ns2 ss2 e2 p2 H17 g17 => ?_), (fun c => by rw [cP] at c; cases c)⟩
     obtain ⟨en, es⟩ := onP g16' e2 p2
     rw [en, es]
     rw [wT]
     exact ⟨rfl, _, rfl, iteF ⟨_, rfl, g16.trans g17⟩⟩
    ·rintro σ H16 ⟨y13, rfl, g16'⟩
     have g16 := g15.trans g16'
     refine ⟨_, rfl, _, rfl, _, rfl, _, rfl, (by show 4 ≤ sizeLine; decide), ?_⟩
     intro l1 hl1
     have g17 := g16.trans (Same.new hl1 (.lst [.ref fo, ov, bv, lv]))
     refine ⟨_, _, rfl, lst4 g17 upd_same, fine.show_, Nat.le_trans fine.deep (by decide), dl, _, rfl, rfl, _, rfl, ite2 (fun c => absurd c (by simp)) (fun _ => ?_)⟩
     have plA : IsPl _ t a b ns ss := pl11.1.same g17
     have plA' : IsPl _ t' a' b' ns ss := pl11.2.same g17
     refine ⟨_, rfl, _, rfl, true, rcv_plan plA'.t plA.t plA'.a plA'.b plA.a plA.b aa bb, _, rfl, iteF ?_⟩
     exact ⟨_, _, _, _, _, _, _, _, _, rfl, S11.ex g17, E11.trans (Ex.same g17)⟩
  ·rintro σ H7 ⟨z5, z6, z7, z8, z9, z10, z11, z12, z13, rfl, S7, E7⟩
   exact ⟨_, _, _, _, _, _, _, _, _, _, _, _, _, rfl, G6 E7⟩
 ·rintro σ H3 ⟨y1, y2, y3, y4, y5, y6, y7, y8, y9, y10, y11, y12, y13, rfl, g3⟩
  exact q _
end
theorem all_mk {l : PySem.W.OpenLaw} {w : World} {K : PySem.W.Frag} {h : Heap} {mg : Str → Option Value} {fa f1 f2 f3 f4 f5 f6 f7 f8 f9 f10 f11 f12 f13 f14 f15 f16 f17 f18 f19 f20 f21 f22 f23 f24 f25 f26 f27 f28 f29 f30  x0 x1 x2 x3 x4 x5 x6 x7 x8 x9 x10 x11 XS : Addr} (X : K.In h) (G : h.Ns mainGlobals mg) (hfa : mg "law" = some (.ref fa))
  {od1 an1 od2 an2 od3 an3 od4 an4 od5 an5 od6 an6 od7 an7 od8 an8 od9 an9 od10 an10 od11 an11 od12 an12 od13 an13 od14 an14 od15 an15 od16 an16 od17 an17 od18 an18 od19 an19 od20 an20 od21 an21 od22 an22 od23 an23 od24 an24 od25 an25 od26 an26 od27 an27 od28 an28 od29 an29 od30 an30 : Option Addr} {sl1 sl2 sl3 sl4 sl5 sl6 sl7 sl8 sl9 sl10 sl11 sl12 sl13 sl14 sl15 sl16 sl17 sl18 sl19 sl20 sl21 sl22 sl23 sl24 sl25 sl26 sl27 sl28 sl29 sl30 : Array (Option Value)} {oc1 kV1 dc1 pm1 cd1 ct1 oc2 kV2 dc2 pm2 cd2 ct2 oc3 kV3 dc3 pm3 cd3 ct3 oc4 kV4 dc4 pm4 cd4 ct4 oc5 kV5 dc5 pm5 cd5 ct5 oc6 kV6 dc6 pm6 cd6 ct6 oc7 kV7 dc7 pm7 cd7 ct7 oc8 kV8 dc8 pm8 cd8 ct8 oc9 kV9 dc9 pm9 cd9 ct9 oc10 kV10 dc10 pm10 cd10 ct10 oc11 kV11 dc11 pm11 cd11 ct11 oc12 kV12 dc12 pm12 cd12 ct12 oc13 kV13 dc13 pm13 cd13 ct13 oc14 kV14 dc14 pm14 cd14 ct14 oc15 kV15 dc15 pm15 cd15 ct15 oc16 kV16 dc16 pm16 cd16 ct16 oc17 kV17 dc17 pm17 cd17 ct17 oc18 kV18 dc18 pm18 cd18 ct18 oc19 kV19 dc19 pm19 cd19 ct19 oc20 kV20 dc20 pm20 cd20 ct20 oc21 kV21 dc21 pm21 cd21 ct21 oc22 kV22 dc22 pm22 cd22 ct22 oc23 kV23 dc23 pm23 cd23 ct23 oc24 kV24 dc24 pm24 cd24 ct24 oc25 kV25 dc25 pm25 cd25 ct25 oc26 kV26 dc26 pm26 cd26 ct26 oc27 kV27 dc27 pm27 cd27 ct27 oc28 kV28 dc28 pm28 cd28 ct28 oc29 kV29 dc29 pm29 cd29 ct29 oc30 kV30 dc30 pm30 cd30 ct30 : Value}
  {t1 : Tok}
  (a1 : PySem.W.nsIn K mainGlobals "is_whole" = some (some (.ref f1))) (l1 : K.lookup f1 = some ⟨oc1, od1, .func (PySem.W.fnOf "is_whole" "is_whole" (defArgs sWhole) (defBody sWhole) (defScope sWhole) .none kV1 dc1 pm1 an1 cd1 ct1), sl1⟩) (c1 : PySem.W.codeIn K cd1 "is_whole" = true) (k1 : PySem.W.keepIn K (.ref f1) = true)
  (a2 : PySem.W.nsIn K mainGlobals "is_list_of_wholes" = some (some (.ref f2))) (l2 : K.lookup f2 = some ⟨oc2, od2, .func (PySem.W.fnOf "is_list_of_wholes" "is_list_of_wholes" (defArgs sLw) (defBody sLw) (defScope sLw) .none kV2 dc2 pm2 an2 cd2 ct2), sl2⟩) (c2 : PySem.W.codeIn K cd2 "is_list_of_wholes" = true) (k2 : PySem.W.keepIn K (.ref f2) = true)
  (a3 : PySem.W.nsIn K mainGlobals "is_rising_list" = some (some (.ref f3))) (l3 : K.lookup f3 = some ⟨oc3, od3, .func (PySem.W.fnOf "is_rising_list" "is_rising_list" (defArgs sRise) (defBody sRise) (defScope sRise) .none kV3 dc3 pm3 an3 cd3 ct3), sl3⟩) (c3 : PySem.W.codeIn K cd3 "is_rising_list" = true) (k3 : PySem.W.keepIn K (.ref f3) = true)
  (a4 : PySem.W.nsIn K mainGlobals "is_plan" = some (some (.ref f4))) (l4 : K.lookup f4 = some ⟨oc4, od4, .func (PySem.W.fnOf "is_plan" "is_plan" (defArgs sIsP) (defBody sIsP) (defScope sIsP) .none kV4 dc4 pm4 an4 cd4 ct4), sl4⟩) (c4 : PySem.W.codeIn K cd4 "is_plan" = true) (k4 : PySem.W.keepIn K (.ref f4) = true)
  (a5 : PySem.W.nsIn K mainGlobals "check_plan" = some (some (.ref f5))) (l5 : K.lookup f5 = some ⟨oc5, od5, .func (PySem.W.fnOf "check_plan" "check_plan" (defArgs sCkP) (defBody sCkP) (defScope sCkP) .none kV5 dc5 pm5 an5 cd5 ct5), sl5⟩) (c5 : PySem.W.codeIn K cd5 "check_plan" = true) (k5 : PySem.W.keepIn K (.ref f5) = true)
  (a6 : PySem.W.nsIn K mainGlobals "add_up" = some (some (.ref f6))) (l6 : K.lookup f6 = some ⟨oc6, od6, .func (PySem.W.fnOf "add_up" "add_up" (defArgs sAdd) (defBody sAdd) (defScope sAdd) .none kV6 dc6 pm6 an6 cd6 ct6), sl6⟩) (c6 : PySem.W.codeIn K cd6 "add_up" = true) (k6 : PySem.W.keepIn K (.ref f6) = true)
  (a7 : PySem.W.nsIn K mainGlobals "are_neighbours" = some (some (.ref f7))) (l7 : K.lookup f7 = some ⟨oc7, od7, .func (PySem.W.fnOf "are_neighbours" "are_neighbours" (defArgs sNb) (defBody sNb) (defScope sNb) .none kV7 dc7 pm7 an7 cd7 ct7), sl7⟩) (c7 : PySem.W.codeIn K cd7 "are_neighbours" = true) (k7 : PySem.W.keepIn K (.ref f7) = true)
  (a8 : PySem.W.nsIn K mainGlobals "is_part" = some (some (.ref f8))) (l8 : K.lookup f8 = some ⟨oc8, od8, .func (PySem.W.fnOf "is_part" "is_part" (defArgs sIsT) (defBody sIsT) (defScope sIsT) .none kV8 dc8 pm8 an8 cd8 ct8), sl8⟩) (c8 : PySem.W.codeIn K cd8 "is_part" = true) (k8 : PySem.W.keepIn K (.ref f8) = true)
  (a9 : PySem.W.nsIn K mainGlobals "check_part" = some (some (.ref f9))) (l9 : K.lookup f9 = some ⟨oc9, od9, .func (PySem.W.fnOf "check_part" "check_part" (defArgs sCkT) (defBody sCkT) (defScope sCkT) .none kV9 dc9 pm9 an9 cd9 ct9), sl9⟩) (c9 : PySem.W.codeIn K cd9 "check_part" = true) (k9 : PySem.W.keepIn K (.ref f9) = true)
  (a10 : PySem.W.nsIn K mainGlobals "places_to_turn" = some (some (.ref f10))) (l10 : K.lookup f10 = some ⟨oc10, od10, .func (PySem.W.fnOf "places_to_turn" "places_to_turn" (defArgs sPtt) (defBody sPtt) (defScope sPtt) .none kV10 dc10 pm10 an10 cd10 ct10), sl10⟩) (c10 : PySem.W.codeIn K cd10 "places_to_turn" = true) (k10 : PySem.W.keepIn K (.ref f10) = true)
  (a11 : PySem.W.nsIn K mainGlobals "turned_behind" = some (some (.ref f11))) (l11 : K.lookup f11 = some ⟨oc11, od11, .func (PySem.W.fnOf "turned_behind" "turned_behind" (defArgs sTbh) (defBody sTbh) (defScope sTbh) .none kV11 dc11 pm11 an11 cd11 ct11), sl11⟩) (c11 : PySem.W.codeIn K cd11 "turned_behind" = true) (k11 : PySem.W.keepIn K (.ref f11) = true)
  (a12 : PySem.W.nsIn K mainGlobals "turn_places" = some (some (.ref f12))) (l12 : K.lookup f12 = some ⟨oc12, od12, .func (PySem.W.fnOf "turn_places" "turn_places" (defArgs sTps) (defBody sTps) (defScope sTps) .none kV12 dc12 pm12 an12 cd12 ct12), sl12⟩) (c12 : PySem.W.codeIn K cd12 "turn_places" = true) (k12 : PySem.W.keepIn K (.ref f12) = true)
  (a13 : PySem.W.nsIn K mainGlobals "turned_at" = some (some (.ref f13))) (l13 : K.lookup f13 = some ⟨oc13, od13, .func (PySem.W.fnOf "turned_at" "turned_at" (defArgs sTat) (defBody sTat) (defScope sTat) .none kV13 dc13 pm13 an13 cd13 ct13), sl13⟩) (c13 : PySem.W.codeIn K cd13 "turned_at" = true) (k13 : PySem.W.keepIn K (.ref f13) = true)
  (a14 : PySem.W.nsIn K mainGlobals "all_ends" = some (some (.ref f14))) (l14 : K.lookup f14 = some ⟨oc14, od14, .func (PySem.W.fnOf "all_ends" "all_ends" (defArgs sAe) (defBody sAe) (defScope sAe) .none kV14 dc14 pm14 an14 cd14 ct14), sl14⟩) (c14 : PySem.W.codeIn K cd14 "all_ends" = true) (k14 : PySem.W.keepIn K (.ref f14) = true)
  (a15 : PySem.W.nsIn K mainGlobals "_law_cell" = some (some (.ref f15))) (l15 : K.lookup f15 = some ⟨oc15, od15, .func (PySem.W.fnOf "_law_cell" "_law_cell" (defArgs sCell) (defBody sCell) (defScope sCell) .none kV15 dc15 pm15 an15 cd15 ct15), sl15⟩) (c15 : PySem.W.codeIn K cd15 "_law_cell" = true) (k15 : PySem.W.keepIn K (.ref f15) = true)
  (a16 : PySem.W.nsIn K mainGlobals "_law_store" = some (some (.ref f16))) (l16 : K.lookup f16 = some ⟨oc16, od16, .func (PySem.W.fnOf "_law_store" "_law_store" (defArgs sSto) (defBody sSto) (defScope sSto) .none kV16 dc16 pm16 an16 cd16 ct16), sl16⟩) (c16 : PySem.W.codeIn K cd16 "_law_store" = true) (k16 : PySem.W.keepIn K (.ref f16) = true)
  (a17 : PySem.W.nsIn K mainGlobals "_law_take" = some (some (.ref f17))) (l17 : K.lookup f17 = some ⟨oc17, od17, .func (PySem.W.fnOf "_law_take" "_law_take" (defArgs sTkT) (defBody sTkT) (defScope sTkT) .none kV17 dc17 pm17 an17 cd17 ct17), sl17⟩) (c17 : PySem.W.codeIn K cd17 "_law_take" = true) (k17 : PySem.W.keepIn K (.ref f17) = true)
  (a18 : PySem.W.nsIn K mainGlobals "_law_numbers" = some (some (.ref f18))) (l18 : K.lookup f18 = some ⟨oc18, od18, .func (PySem.W.fnOf "_law_numbers" "_law_numbers" (defArgs sNuT) (defBody sNuT) (defScope sNuT) .none kV18 dc18 pm18 an18 cd18 ct18), sl18⟩) (c18 : PySem.W.codeIn K cd18 "_law_numbers" = true) (k18 : PySem.W.keepIn K (.ref f18) = true)
  (a19 : PySem.W.nsIn K mainGlobals "_law_plan" = some (some (.ref f19))) (l19 : K.lookup f19 = some ⟨oc19, od19, .func (PySem.W.fnOf "_law_plan" "_law_plan" (defArgs sPlT) (defBody sPlT) (defScope sPlT) .none kV19 dc19 pm19 an19 cd19 ct19), sl19⟩) (c19 : PySem.W.codeIn K cd19 "_law_plan" = true) (k19 : PySem.W.keepIn K (.ref f19) = true)
  (a20 : PySem.W.nsIn K mainGlobals "_law_copy" = some (some (.ref f20))) (l20 : K.lookup f20 = some ⟨oc20, od20, .func (PySem.W.fnOf "_law_copy" "_law_copy" (defArgs sCopy) (defBody sCopy) (defScope sCopy) .none kV20 dc20 pm20 an20 cd20 ct20), sl20⟩) (c20 : PySem.W.codeIn K cd20 "_law_copy" = true) (k20 : PySem.W.keepIn K (.ref f20) = true)
  (a21 : PySem.W.nsIn K mainGlobals "_law_partners" = some (some (.ref f21))) (l21 : K.lookup f21 = some ⟨oc21, od21, .func (PySem.W.fnOf "_law_partners" "_law_partners" (defArgs sLpr) (defBody sLpr) (defScope sLpr) .none kV21 dc21 pm21 an21 cd21 ct21), sl21⟩) (c21 : PySem.W.codeIn K cd21 "_law_partners" = true) (k21 : PySem.W.keepIn K (.ref f21) = true)
  (a22 : PySem.W.nsIn K mainGlobals "_law_walk" = some (some (.ref f22))) (l22 : K.lookup f22 = some ⟨oc22, od22, .func (PySem.W.fnOf "_law_walk" "_law_walk" (defArgs sWk) (defBody sWk) (defScope sWk) .none kV22 dc22 pm22 an22 cd22 ct22), sl22⟩) (c22 : PySem.W.codeIn K cd22 "_law_walk" = true) (k22 : PySem.W.keepIn K (.ref f22) = true)
  (a23 : PySem.W.nsIn K mainGlobals "_law_places" = some (some (.ref f23))) (l23 : K.lookup f23 = some ⟨oc23, od23, .func (PySem.W.fnOf "_law_places" "_law_places" (defArgs sLpl) (defBody sLpl) (defScope sLpl) .none kV23 dc23 pm23 an23 cd23 ct23), sl23⟩) (c23 : PySem.W.codeIn K cd23 "_law_places" = true) (k23 : PySem.W.keepIn K (.ref f23) = true)
  (a24 : PySem.W.nsIn K mainGlobals "_law_is_part" = some (some (.ref f24))) (l24 : K.lookup f24 = some ⟨oc24, od24, .func (PySem.W.fnOf "_law_is_part" "_law_is_part" (defArgs sLip) (defBody sLip) (defScope sLip) .none kV24 dc24 pm24 an24 cd24 ct24), sl24⟩) (c24 : PySem.W.codeIn K cd24 "_law_is_part" = true) (k24 : PySem.W.keepIn K (.ref f24) = true)
  (a25 : PySem.W.nsIn K mainGlobals "_law_no_plan" = some (some (.ref f25))) (l25 : K.lookup f25 = some ⟨oc25, od25, .func (PySem.W.fnOf "_law_no_plan" "_law_no_plan" (defArgs sNop) (defBody sNop) (defScope sNop) .none kV25 dc25 pm25 an25 cd25 ct25), sl25⟩) (c25 : PySem.W.codeIn K cd25 "_law_no_plan" = true) (k25 : PySem.W.keepIn K (.ref f25) = true)
  (a26 : PySem.W.nsIn K mainGlobals "_law_kind" = some (some (.ref f26))) (l26 : K.lookup f26 = some ⟨oc26, od26, .func (PySem.W.fnOf "_law_kind" "_law_kind" (defArgs sKnd) (defBody sKnd) (defScope sKnd) .none kV26 dc26 pm26 an26 cd26 ct26), sl26⟩) (c26 : PySem.W.codeIn K cd26 "_law_kind" = true) (k26 : PySem.W.keepIn K (.ref f26) = true)
  (a27 : PySem.W.nsIn K mainGlobals "_law_word" = some (some (.ref f27))) (l27 : K.lookup f27 = some ⟨oc27, od27, .func (PySem.W.fnOf "_law_word" "_law_word" (defArgs sWord) (defBody sWord) (defScope sWord) .none kV27 dc27 pm27 an27 cd27 ct27), sl27⟩) (c27 : PySem.W.codeIn K cd27 "_law_word" = true) (k27 : PySem.W.keepIn K (.ref f27) = true)
  (a28 : PySem.W.nsIn K mainGlobals "_law_odd_part" = some (some (.ref f28))) (l28 : K.lookup f28 = some ⟨oc28, od28, .func (PySem.W.fnOf "_law_odd_part" "_law_odd_part" (defArgs sOdp) (defBody sOdp) (defScope sOdp) .none kV28 dc28 pm28 an28 cd28 ct28), sl28⟩) (c28 : PySem.W.codeIn K cd28 "_law_odd_part" = true) (k28 : PySem.W.keepIn K (.ref f28) = true)
  (a29 : PySem.W.nsIn K mainGlobals "_law_odd_place" = some (some (.ref f29))) (l29 : K.lookup f29 = some ⟨oc29, od29, .func (PySem.W.fnOf "_law_odd_place" "_law_odd_place" (defArgs sOdl) (defBody sOdl) (defScope sOdl) .none kV29 dc29 pm29 an29 cd29 ct29), sl29⟩) (c29 : PySem.W.codeIn K cd29 "_law_odd_place" = true) (k29 : PySem.W.keepIn K (.ref f29) = true)
  (a30 : PySem.W.nsIn K mainGlobals "law" = some (some (.ref f30))) (l30 : K.lookup f30 = some ⟨oc30, od30, .func (PySem.W.fnOf "law" "law" (defArgs sLaw) (defBody sLaw) (defScope sLaw) .none kV30 dc30 pm30 an30 cd30 ct30), sl30⟩) (c30 : PySem.W.codeIn K cd30 "law" = true) (k30 : PySem.W.keepIn K (.ref f30) = true)
  (m1 : PySem.W.nsIn K mainGlobals "MOST" = some (some (.int 10 t1)))
  (ax0 : PySem.W.nsIn K mainGlobals "NoPlan" = some (some (.ref x0)))
  (ax1 : PySem.W.nsIn K mainGlobals "NoNumber" = some (some (.ref x1)))
  (ax2 : PySem.W.nsIn K mainGlobals "NoKind" = some (some (.ref x2)))
  (ax3 : PySem.W.nsIn K mainGlobals "NoPlace" = some (some (.ref x3)))
  (ax4 : PySem.W.nsIn K mainGlobals "NoRow" = some (some (.ref x4)))
  (ax5 : PySem.W.nsIn K mainGlobals "NoCut" = some (some (.ref x5)))
  (ax6 : PySem.W.nsIn K mainGlobals "NoPart" = some (some (.ref x6)))
  (ax7 : PySem.W.nsIn K mainGlobals "NoSum" = some (some (.ref x7)))
  (ax8 : PySem.W.nsIn K mainGlobals "TooMany" = some (some (.ref x8)))
  (ax9 : PySem.W.nsIn K mainGlobals "NoText" = some (some (.ref x9)))
  (ax10 : PySem.W.nsIn K mainGlobals "NoName" = some (some (.ref x10)))
  (ax11 : PySem.W.nsIn K mainGlobals "NoSaying" = some (some (.ref x11)))
  (axS : PySem.W.nsIn K mainGlobals "SumError" = some (some (.ref XS)))
  (gaP : PySem.W.findIn K (.ref x0) "__getattribute__" = some (some (.builtin "BaseException.__getattribute__")))
  (ghP : PySem.W.findIn K (.ref x0) "__getattr__" = some none)
  (caP : PySem.W.findIn K (.ref x0) "__class__" = some (some (.builtin "object.__class__")))
  (obP : PySem.W.mroIn K x0 (.type "object") = some true)
  (beP : PySem.W.mroIn K x0 (.type "BaseException") = some true)
  (clP : (PySem.W.clsIn K x0).isSome = true)
  (vvP : PySem.W.kitOne K (.ref x0) (.type "ValueError") = some true)
  (emP : PySem.W.exmOne K (.ref x0) (.ref XS) = some true)
  (eiP : PySem.W.excIn K x0 [.type "ValueError", .type "Exception", .type "BaseException", .type "object"] "ValueError.__new__" = true)
  (kkP : [x0, x1, x2, x3, x4, x5, x6, x7, x8, x9, x10, x11].map (fun x => PySem.W.kitOne K (.ref x0) (.ref x)) = (List.range 12).map fun i : Nat => some (decide ((i : Int) = 0)))
  (gaT : PySem.W.findIn K (.ref x6) "__getattribute__" = some (some (.builtin "BaseException.__getattribute__")))
  (ghT : PySem.W.findIn K (.ref x6) "__getattr__" = some none)
  (caT : PySem.W.findIn K (.ref x6) "__class__" = some (some (.builtin "object.__class__")))
  (obT : PySem.W.mroIn K x6 (.type "object") = some true)
  (beT : PySem.W.mroIn K x6 (.type "BaseException") = some true)
  (clT : (PySem.W.clsIn K x6).isSome = true)
  (vvT : PySem.W.kitOne K (.ref x6) (.type "ValueError") = some true)
  (emT : PySem.W.exmOne K (.ref x6) (.ref XS) = some true)
  (eiT : PySem.W.excIn K x6 [.type "ValueError", .type "Exception", .type "BaseException", .type "object"] "ValueError.__new__" = true)
  (kkT : [x0, x1, x2, x3, x4, x5, x6, x7, x8, x9, x10, x11].map (fun x => PySem.W.kitOne K (.ref x6) (.ref x)) = (List.range 12).map fun i : Nat => some (decide ((i : Int) = 6)))
  (gaL : PySem.W.findIn K (.ref x3) "__getattribute__" = some (some (.builtin "BaseException.__getattribute__")))
  (ghL : PySem.W.findIn K (.ref x3) "__getattr__" = some none)
  (caL : PySem.W.findIn K (.ref x3) "__class__" = some (some (.builtin "object.__class__")))
  (obL : PySem.W.mroIn K x3 (.type "object") = some true)
  (beL : PySem.W.mroIn K x3 (.type "BaseException") = some true)
  (clL : (PySem.W.clsIn K x3).isSome = true)
  (vvL : PySem.W.kitOne K (.ref x3) (.type "ValueError") = some true)
  (emL : PySem.W.exmOne K (.ref x3) (.ref XS) = some true)
  (eiL : PySem.W.excIn K x3 [.type "ValueError", .type "Exception", .type "BaseException", .type "object"] "ValueError.__new__" = true)
  (kkL : [x0, x1, x2, x3, x4, x5, x6, x7, x8, x9, x10, x11].map (fun x => PySem.W.kitOne K (.ref x3) (.ref x)) = (List.range 12).map fun i : Nat => some (decide ((i : Int) = 3)))
  (hn_ : PySem.W.specialIn K (.builtin "object.__class__") "__get__" = some (some (.builtin "getset_descriptor.__get__"))) (htk_ : PySem.W.takesIn K (.builtin "object.__class__") = some true)
  (z1 : PySem.W.nsIn K mainGlobals "len" = some none)
  (z2 : PySem.W.nsIn K mainGlobals "max" = some none)
  (z3 : PySem.W.nsIn K mainGlobals "min" = some none)
  (z4 : PySem.W.nsIn K mainGlobals "range" = some none)
  (z5 : PySem.W.nsIn K mainGlobals "list" = some none)
  (z6 : PySem.W.nsIn K mainGlobals "int" = some none)
  (z7 : PySem.W.nsIn K mainGlobals "all" = some none)
  (z8 : PySem.W.nsIn K mainGlobals "isinstance" = some none)
  (z9 : PySem.W.nsIn K mainGlobals "bool" = some none)
  (z10 : PySem.W.nsIn K mainGlobals "str" = some none)
  (z11 : PySem.W.nsIn K mainGlobals "tuple" = some none)
  (z12 : PySem.W.nsIn K mainGlobals "sorted" = some none)
  (z13 : PySem.W.nsIn K mainGlobals "enumerate" = some none)
  (z14 : PySem.W.nsIn K mainGlobals "zip" = some none)
  (z15 : PySem.W.nsIn K mainGlobals "sum" = some none)
  (z16 : PySem.W.nsIn K mainGlobals "set" = some none)
  (z17 : PySem.W.nsIn K mainGlobals "reversed" = some none)
  (z18 : PySem.W.nsIn K mainGlobals "repr" = some none)
  (z19 : PySem.W.nsIn K mainGlobals "ValueError" = some none)
  : ∃ fd : FuncData, (∀ (s : Shared) (v : Value), BindsTo s fd ⟨[v], []⟩ [("script", v)]) ∧ ∀ base : Heap, K.In base → base.Ns mainGlobals mg → FnOk l.prog w K mg base CX0 9 fa fd ["script"] (spLaw K) := by
 have e := hfa.symm.trans (PySem.W.mg_of X G a30)
 cases e
 have M : ∀ (x : Str) (v : Value), PySem.W.nsIn K mainGlobals x = some (some v) → mg x = some v := fun x v h => PySem.W.mg_of X G h
 have zb : ∀ x : Str, PySem.W.nsIn K mainGlobals x = some none → mg x = none := fun x h => PySem.W.mg_none_of X G h
 have F1 := fun_mk (st := sWhole) l1 c1 k1
 have b1 := F1.binds (ps := ["thing"]) fun _ _ _ _ _ _ us hl => match us, hl with | [_], _ => rfl
 have F2 := fun_mk (st := sLw) l2 c2 k2
 have b2 := F2.binds (ps := ["thing"]) fun _ _ _ _ _ _ us hl => match us, hl with | [_], _ => rfl
 have F3 := fun_mk (st := sRise) l3 c3 k3
 have b3 := F3.binds (ps := ["thing", "fewest"]) fun _ _ _ _ _ _ us hl => match us, hl with | [_, _], _ => rfl
 have F4 := fun_mk (st := sIsP) l4 c4 k4
 have b4 := F4.binds (ps := ["thing"]) fun _ _ _ _ _ _ us hl => match us, hl with | [_], _ => rfl
 have F5 := fun_mk (st := sCkP) l5 c5 k5
 have b5 := F5.binds (ps := ["plan"]) fun _ _ _ _ _ _ us hl => match us, hl with | [_], _ => rfl
 have F6 := fun_mk (st := sAdd) l6 c6 k6
 have b6 := F6.binds (ps := ["plan", "one", "other"]) fun _ _ _ _ _ _ us hl => match us, hl with | [_, _, _], _ => rfl
 have F7 := fun_mk (st := sNb) l7 c7 k7
 have b7 := F7.binds (ps := ["plan", "numbers"]) fun _ _ _ _ _ _ us hl => match us, hl with | [_, _], _ => rfl
 have F8 := fun_mk (st := sIsT) l8 c8 k8
 have b8 := F8.binds (ps := ["plan", "thing"]) fun _ _ _ _ _ _ us hl => match us, hl with | [_, _], _ => rfl
 have F9 := fun_mk (st := sCkT) l9 c9 k9
 have b9 := F9.binds (ps := ["plan", "part"]) fun _ _ _ _ _ _ us hl => match us, hl with | [_, _], _ => rfl
 have F10 := fun_mk (st := sPtt) l10 c10 k10
 have b10 := F10.binds (ps := ["plan", "part"]) fun _ _ _ _ _ _ us hl => match us, hl with | [_, _], _ => rfl
 have F11 := fun_mk (st := sTbh) l11 c11 k11
 have b11 := F11.binds (ps := ["part", "place"]) fun _ _ _ _ _ _ us hl => match us, hl with | [_, _], _ => rfl
 have F12 := fun_mk (st := sTps) l12 c12 k12
 have b12 := F12.binds (ps := ["plan", "part"]) fun _ _ _ _ _ _ us hl => match us, hl with | [_, _], _ => rfl
 have F13 := fun_mk (st := sTat) l13 c13 k13
 have b13 := F13.binds (ps := ["plan", "part", "place"]) fun _ _ _ _ _ _ us hl => match us, hl with | [_, _, _], _ => rfl
 have F14 := fun_mk (st := sAe) l14 c14 k14
 have b14 := F14.binds (ps := ["plan", "part"]) fun _ _ _ _ _ _ us hl => match us, hl with | [_, _], _ => rfl
 have F15 := fun_mk (st := sCell) l15 c15 k15
 have b15 := F15.binds (ps := ["script", "k"]) fun _ _ _ _ _ _ us hl => match us, hl with | [_, _], _ => rfl
 have F16 := fun_mk (st := sSto) l16 c16 k16
 have b16 := F16.binds (ps := ["cell"]) fun _ _ _ _ _ _ us hl => match us, hl with | [_], _ => rfl
 have F17 := fun_mk (st := sTkT) l17 c17 k17
 have b17 := F17.binds (ps := ["store", "many"]) fun _ _ _ _ _ _ us hl => match us, hl with | [_, _], _ => rfl
 have F18 := fun_mk (st := sNuT) l18 c18 k18
 have b18 := F18.binds (ps := ["store"]) fun _ _ _ _ _ _ us hl => match us, hl with | [_], _ => rfl
 have F19 := fun_mk (st := sPlT) l19 c19 k19
 have b19 := F19.binds (ps := ["store"]) fun _ _ _ _ _ _ us hl => match us, hl with | [_], _ => rfl
 have F20 := fun_mk (st := sCopy) l20 c20 k20
 have b20 := F20.binds (ps := ["plan"]) fun _ _ _ _ _ _ us hl => match us, hl with | [_], _ => rfl
 have F21 := fun_mk (st := sLpr) l21 c21 k21
 have b21 := F21.binds (ps := ["plan", "one", "other"]) fun _ _ _ _ _ _ us hl => match us, hl with | [_, _, _], _ => rfl
 have F22 := fun_mk (st := sWk) l22 c22 k22
 have b22 := F22.binds (ps := ["store", "plan"]) fun _ _ _ _ _ _ us hl => match us, hl with | [_, _], _ => rfl
 have F23 := fun_mk (st := sLpl) l23 c23 k23
 have b23 := F23.binds (ps := ["plan", "part"]) fun _ _ _ _ _ _ us hl => match us, hl with | [_, _], _ => rfl
 have F24 := fun_mk (st := sLip) l24 c24 k24
 have b24 := F24.binds (ps := ["plan", "thing"]) fun _ _ _ _ _ _ us hl => match us, hl with | [_, _], _ => rfl
 have F25 := fun_mk (st := sNop) l25 c25 k25
 have b25 := F25.binds (ps := ["store", "plan"]) fun _ _ _ _ _ _ us hl => match us, hl with | [_, _], _ => rfl
 have F26 := fun_mk (st := sKnd) l26 c26 k26
 have b26 := F26.binds (ps := ["e", "due"]) fun _ _ _ _ _ _ us hl => match us, hl with | [_, _], _ => rfl
 have F27 := fun_mk (st := sWord) l27 c27 k27
 have b27 := F27.binds (ps := ["door", "plan", "thing", "place", "due"]) fun _ _ _ _ _ _ us hl => match us, hl with | [_, _, _, _, _], _ => rfl
 have F28 := fun_mk (st := sOdp) l28 c28 k28
 have b28 := F28.binds (ps := ["store", "plan", "part"]) fun _ _ _ _ _ _ us hl => match us, hl with | [_, _, _], _ => rfl
 have F29 := fun_mk (st := sOdl) l29 c29 k29
 have b29 := F29.binds (ps := ["store", "plan", "part"]) fun _ _ _ _ _ _ us hl => match us, hl with | [_, _, _], _ => rfl
 have F30 := fun_mk (st := sLaw) l30 c30 k30
 have b30 := F30.binds (ps := ["script"]) fun _ _ _ _ _ _ us hl => match us, hl with | [_], _ => rfl
 refine ⟨PySem.W.fnOf "law" "law" (defArgs sLaw) (defBody sLaw) (defScope sLaw) .none kV30 dc30 pm30 an30 cd30 ct30, fun s v => .of_eq rfl, fun base _ _ => ?_⟩
 have exP : ExD K [x0, x1, x2, x3, x4, x5, x6, x7, x8, x9, x10, x11] XS x0 0 := ⟨kkP, vvP, ⟨gaP, ghP, caP, obP, beP, clP, hn_, htk_⟩, emP, eiP, by decide⟩
 have exT : ExD K [x0, x1, x2, x3, x4, x5, x6, x7, x8, x9, x10, x11] XS x6 6 := ⟨kkT, vvT, ⟨gaT, ghT, caT, obT, beT, clT, hn_, htk_⟩, emT, eiT, by decide⟩
 have exL : ExD K [x0, x1, x2, x3, x4, x5, x6, x7, x8, x9, x10, x11] XS x3 3 := ⟨kkL, vvL, ⟨gaL, ghL, caL, obL, beL, clL, hn_, htk_⟩, emL, eiL, by decide⟩
 have B4 : Bt4 mg := { len := zb "len" z1, max := zb "max" z2, min := zb "min" z3, range := zb "range" z4, list := zb "list" z5, int := zb "int" z6, all := zb "all" z7, isinstance := zb "isinstance" z8, bool := zb "bool" z9, str := zb "str" z10, tuple := zb "tuple" z11, sorted := zb "sorted" z12, enumerate := zb "enumerate" z13, zip := zb "zip" z14, sum := zb "sum" z15 }
 have B := B4.toBt3
 have BR : BtR mg := { toBt2 := B.toBt2, repr := zb "repr" z18 }
 have T : ExT mg x0 x1 x2 x3 x4 x5 x6 x7 x8 x9 x10 x11 XS := ⟨M _ _ ax0, M _ _ ax1, M _ _ ax2, M _ _ ax3, M _ _ ax4, M _ _ ax5, M _ _ ax6, M _ _ ax7, M _ _ ax8, M _ _ ax9, M _ _ ax10, M _ _ ax11, M _ _ axS, zb "ValueError" z19⟩
 have OW := ok_wholeD (P := l.prog) (w := w) (base := base) F1 B.toBt2
 have OR := ok_riseD F3 B.toBt2 (M _ _ m1) OW b1 k1 (M _ _ a1)
 have OI := ok_isPD F4 B.toBt2 OR b3 k3 (M _ _ a3)
 have OCX := ok_ckX F5 exP.i T.m0 OI b4 k4 (M _ _ a4)
 have OA := ok_add (P := l.prog) (w := w) (mg := mg) (base := base) F6
 have ONB := ok_nb F7 B4 OA b6 k6 (M _ _ a6)
 have OLW := ok_lwD F2 B.toBt2 OW b1 k1 (M _ _ a1)
 have OIT := ok_isTX F8 B4 (OLW.mono (by decide)) b2 k2 (M _ _ a2) (ONB.mono (by decide)) b7 k7 (M _ _ a7)
 have OCT := ok_ckTX F9 exT.i T.m6 (OCX.mono (by decide)) b5 k5 (M _ _ a5) OIT b8 k8 (M _ _ a8)
 have OPP := ok_ptt F10 B4 OA b6 k6 (M _ _ a6)
 have OTB := ok_tbh (P := l.prog) (w := w) (base := base) F11 B4 (zb "reversed" z17)
 have OTP := ok_tpsX F12 OCT b9 k9 (M _ _ a9) (OPP.mono (by decide)) b10 k10 (M _ _ a10)
 have OTT := ok_tatX F13 exL.i T.m3 OCT b9 k9 (M _ _ a9) (OPP.mono (by decide)) b10 k10 (M _ _ a10) (OW.mono (by decide)) b1 k1 (M _ _ a1) (OTB.mono (by decide)) b11 k11 (M _ _ a11)
 have OAE := ok_aeX F14 B4 (zb "set" z16) OCT b9 k9 (M _ _ a9) (OPP.mono (by decide)) b10 k10 (M _ _ a10) (OTB.mono (by decide)) b11 k11 (M _ _ a11)
 have OCE := ok_cell (P := l.prog) (w := w) (base := base) F15 B
 have OST := ok_stT (P := l.prog) (w := w) (mg := mg) (base := base) F16
 have OT := ok_tkT (P := l.prog) (w := w) (mg := mg) (base := base) F17
 have ONU := ok_nuT F18 B (zb "set" z16) OT b17 k17 (M _ _ a17)
 have OPL := ok_plT F19 B (zb "set" z16) (OT.mono (by decide)) b17 k17 (M _ _ a17) ONU b18 k18 (M _ _ a18)
 have OCP := ok_copy (P := l.prog) (w := w) (base := base) F20 B.toBt2
 have OLR := ok_lpr (P := l.prog) (w := w) (mg := mg) (base := base) F21
 have OWK := ok_wk F22 B OT b17 k17 (M _ _ a17) OLR b21 k21 (M _ _ a21)
 have OLL := ok_lpl F23 B4 OLR b21 k21 (M _ _ a21)
 have OLI := ok_lip F24 B OLR b21 k21 (M _ _ a21)
 have ONP := ok_nopT F25 BR OT b17 k17 (M _ _ a17)
 have OK := ok_knd (P := l.prog) (w := w) (base := base) F26 B4 T
 have OWD := ok_word F27 B.toBt2 T.mS exP exT exL OTP b12 k12 (M _ _ a12) OAE b14 k14 (M _ _ a14) OTT b13 k13 (M _ _ a13) (OK.mono (by decide)) b26 k26 (M _ _ a26)
 have OOP := ok_odp F28 B.toBt2 OT b17 k17 (M _ _ a17)
 have OOL := ok_odl F29 B.toBt2 (OT.mono (by decide)) b17 k17 (M _ _ a17) OLL b23 k23 (M _ _ a23)
 exact ok_law F30 BR (OCE.mono (by decide)) b15 k15 (M _ _ a15) (OST.mono (by decide)) b16 k16 (M _ _ a16) (OPL.mono (by decide)) b19 k19 (M _ _ a19) (OCP.mono (by decide)) b20 k20 (M _ _ a20) (OWK.mono (by decide)) b22 k22 (M _ _ a22) (OOP.mono (by decide)) b28 k28 (M _ _ a28) (ONP.mono (by decide)) b25 k25 (M _ _ a25) (OOL.mono (by decide)) b29 k29 (M _ _ a29) OWD b27 k27 (M _ _ a27) (OLI.mono (by decide)) b24 k24 (M _ _ a24) (OLL.mono (by decide)) b23 k23 (M _ _ a23)
theorem walk {l : PySem.W.OpenLaw} {q : Program} {loose : List Str} {XP : (Str → Option Value) → Heap → Prop} {YP : World → Heap → Prop} {d : DefRec} {K : Params → PySem.W.Frag} (hn : l.most = some 63) (hdf : d.params.defaults = [])
  (hY : ∀ (w : World) (h : Heap), YP w h → (K w.params).In h)
  (F : ∀ (w : World) (mg : Str → Option Value) (fa : Addr) (h : Heap), (K w.params).In h → h.Ns mainGlobals mg → mg d.name = some (.ref fa) →
   ∃ fd : FuncData, (∀ (s : Shared) (u : Value), BindsTo s fd ⟨[u], []⟩ [("script", u)]) ∧ ∀ base : Heap, (K w.params).In base → base.Ns mainGlobals mg → FnOk l.prog w (K w.params) mg base CX0 9 fa fd ["script"] (spLaw (K w.params))) :
  PySem.W.WalkO q loose XP YP l.row.toRowW d [] (fun f vs => PySem.call f vs) :=
 L2.walk_of (n := 63) (k := 9) (x := "script") (CX := fun _ => CX0) (sp := fun w => spLaw (K w.params)) hn (by decide) hdf ⟨rfl, by decide, by decide, rfl⟩ hY F (fun _ _ a ns hl _ hS => ⟨a, ns, rfl, hS, hl, fun _ => rfl⟩) fun _ _ _ _ _ z => z
end N36
def PySem.W.Fast.tw16133306380274430745 : Nat := 0
def PySem.W.Fast.tw4511852335291133030 : Nat := 0
def PySem.W.Fast.tw12723269936531828603 : Nat := 0
def PySem.W.Fast.tw15380403309924113542 : Nat := 0
def PySem.W.Fast.tw2912834934258230920 : Nat := 0
def PySem.W.Fast.tw6995208647326116770 : Nat := 0
def PySem.W.Fast.tw17549787964715324505 : Nat := 0
def PySem.W.Fast.tw10200225579432548453 : Nat := 0
def PySem.W.Fast.tw9010457129450956535 : Nat := 0
def PySem.W.Fast.tw1751549355802738855 : Nat := 0
def PySem.W.Fast.tw15804278426461312987 : Nat := 0
def PySem.W.Fast.tw8152727583333570218 : Nat := 0
def PySem.W.Fast.tw2788582719582378667 : Nat := 0
def PySem.W.Fast.tw7569168286782823233 : Nat := 0
def PySem.W.Fast.tw11854769901930861171 : Nat := 0
def PySem.W.Fast.tw1962850369422683886 : Nat := 0
def PySem.W.Fast.tw14003247430516216102 : Nat := 0
def PySem.W.Fast.tw16871300893424623235 : Nat := 0
def PySem.W.Fast.tw17681049289835170636 : Nat := 0
def PySem.W.Fast.tw16516041209822759464 : Nat := 0
def PySem.W.Fast.tw15687781776155555891 : Nat := 0
def PySem.W.Fast.tw4151980927110418714 : Nat := 0
def PySem.W.Fast.tw11208167963872477171 : Nat := 0
def PySem.W.Fast.tw17641688977124764148 : Nat := 0
def PySem.W.Fast.tw6889172311753223065 : Nat := 0
def PySem.W.Fast.tw1046181944577489500 : Nat := 0
def PySem.W.Fast.tw4970805982929126940 : Nat := 0
def PySem.W.Fast.tw12831467739572297924 : Nat := 0
def PySem.W.Fast.tw12292165076620800465 : Nat := 0
def PySem.W.Fast.tw3457151229880262421 : Nat := 0
def PySem.W.Fast.tw15688454176835774355 : Nat := 0
def PySem.W.Fast.tw179164603629260284 : Nat := 0
def PySem.W.Fast.tw13109652515631509068 : Nat := 0
def PySem.W.Fast.tw14606332753548960580 : Nat := 0
def PySem.W.Fast.tw442423805349152585 : Nat := 0
def PySem.W.Fast.tw3563030688067076722 : Nat := 0
def PySem.W.Fast.tw15251560695625232553 : Nat := 0
def PySem.W.Fast.tw10683420771630007549 : Nat := 0
def PySem.W.Fast.tw9830915280901447617 : Nat := 0
def PySem.W.Fast.tw2375270176951473032 : Nat := 0
def PySem.W.Fast.tw17082468292762405839 : Nat := 0
def PySem.W.Fast.tw11166678314505575192 : Nat := 0
def PySem.W.Fast.tw4436710531211050668 : Nat := 0
def PySem.W.Fast.tw18221264624845598959 : Nat := 0
def PySem.W.Fast.tw13317973877903273564 : Nat := 0
def PySem.W.Fast.tw15583776751878832452 : Nat := 0
def PySem.W.Fast.tw13991597887142635714 : Nat := 0
open PySem PySem.W PyProof.Rows
set_option maxRecDepth 100000 in
set_option maxHeartbeats 0 in
theorem PySem.Challenge.cw_nearsums_k36_no_parts_and_no_places_holds : PySem.Challenge.rw_nearsums_k36_no_parts_and_no_places.Holds := by
 w_on; o_law; k_head; (case hw => w_witness2)
 k_fill
 refine N36.walk (l := PySem.Challenge.rw_nearsums_k36_no_parts_and_no_places) rfl rfl (fun w h Y => PySem.W.kIn_of Y) ?F
 case F =>
  intro w mg fa h KX G hmg
  refine' N36.all_mk KX G hmg ?a1 ?l1 ?c1 ?k1 ?a2 ?l2 ?c2 ?k2 ?a3 ?l3 ?c3 ?k3 ?a4 ?l4 ?c4 ?k4 ?a5 ?l5 ?c5 ?k5 ?a6 ?l6 ?c6 ?k6 ?a7 ?l7 ?c7 ?k7 ?a8 ?l8 ?c8 ?k8 ?a9 ?l9 ?c9 ?k9 ?a10 ?l10 ?c10 ?k10 ?a11 ?l11 ?c11 ?k11 ?a12 ?l12 ?c12 ?k12 ?a13 ?l13 ?c13 ?k13 ?a14 ?l14 ?c14 ?k14 ?a15 ?l15 ?c15 ?k15 ?a16 ?l16 ?c16 ?k16 ?a17 ?l17 ?c17 ?k17 ?a18 ?l18 ?c18 ?k18 ?a19 ?l19 ?c19 ?k19 ?a20 ?l20 ?c20 ?k20 ?a21 ?l21 ?c21 ?k21 ?a22 ?l22 ?c22 ?k22 ?a23 ?l23 ?c23 ?k23 ?a24 ?l24 ?c24 ?k24 ?a25 ?l25 ?c25 ?k25 ?a26 ?l26 ?c26 ?k26 ?a27 ?l27 ?c27 ?k27 ?a28 ?l28 ?c28 ?k28 ?a29 ?l29 ?c29 ?k29 ?a30 ?l30 ?c30 ?k30 ?m1 ?ax0 ?ax1 ?ax2 ?ax3 ?ax4 ?ax5 ?ax6 ?ax7 ?ax8 ?ax9 ?ax10 ?ax11 ?axS ?gaP ?ghP ?caP ?obP ?beP ?clP ?vvP ?emP ?eiP ?kkP ?gaT ?ghT ?caT ?obT ?beT ?clT ?vvT ?emT ?eiT ?kkT ?gaL ?ghL ?caL ?obL ?beL ?clL ?vvL ?emL ?eiL ?kkL ?hn_ ?htk_ ?z1 ?z2 ?z3 ?z4 ?z5 ?z6 ?z7 ?z8 ?z9 ?z10 ?z11 ?z12 ?z13 ?z14 ?z15 ?z16 ?z17 ?z18 ?z19
  (case a1 => k_is)
  (case l1 => k_is)
  (case c1 => k_is)
  (case k1 => k_is)
  (case a2 => k_is)
  (case l2 => k_is)
  (case c2 => k_is)
  (case k2 => k_is)
  (case a3 => k_is)
  (case l3 => k_is)
  (case c3 => k_is)
  (case k3 => k_is)
  (case a4 => k_is)
  (case l4 => k_is)
  (case c4 => k_is)
  (case k4 => k_is)
  (case a5 => k_is)
  (case l5 => k_is)
  (case c5 => k_is)
  (case k5 => k_is)
  (case a6 => k_is)
  (case l6 => k_is)
  (case c6 => k_is)
  (case k6 => k_is)
  (case a7 => k_is)
  (case l7 => k_is)
  (case c7 => k_is)
  (case k7 => k_is)
  (case a8 => k_is)
  (case l8 => k_is)
  (case c8 => k_is)
  (case k8 => k_is)
  (case a9 => k_is)
  (case l9 => k_is)
  (case c9 => k_is)
  (case k9 => k_is)
  (case a10 => k_is)
  (case l10 => k_is)
  (case c10 => k_is)
  (case k10 => k_is)
  (case a11 => k_is)
  (case l11 => k_is)
  (case c11 => k_is)
  (case k11 => k_is)
  (case a12 => k_is)
  (case l12 => k_is)
  (case c12 => k_is)
  (case k12 => k_is)
  (case a13 => k_is)
  (case l13 => k_is)
  (case c13 => k_is)
  (case k13 => k_is)
  (case a14 => k_is)
  (case l14 => k_is)
  (case c14 => k_is)
  (case k14 => k_is)
  (case a15 => k_is)
  (case l15 => k_is)
  (case c15 => k_is)
  (case k15 => k_is)
  (case a16 => k_is)
  (case l16 => k_is)
  (case c16 => k_is)
  (case k16 => k_is)
  (case a17 => k_is)
  (case l17 => k_is)
  (case c17 => k_is)
  (case k17 => k_is)
  (case a18 => k_is)
  (case l18 => k_is)
  (case c18 => k_is)
  (case k18 => k_is)
  (case a19 => k_is)
  (case l19 => k_is)
  (case c19 => k_is)
  (case k19 => k_is)
  (case a20 => k_is)
  (case l20 => k_is)
  (case c20 => k_is)
  (case k20 => k_is)
  (case a21 => k_is)
  (case l21 => k_is)
  (case c21 => k_is)
  (case k21 => k_is)
  (case a22 => k_is)
  (case l22 => k_is)
  (case c22 => k_is)
  (case k22 => k_is)
  (case a23 => k_is)
  (case l23 => k_is)
  (case c23 => k_is)
  (case k23 => k_is)
  (case a24 => k_is)
  (case l24 => k_is)
  (case c24 => k_is)
  (case k24 => k_is)
  (case a25 => k_is)
  (case l25 => k_is)
  (case c25 => k_is)
  (case k25 => k_is)
  (case a26 => k_is)
  (case l26 => k_is)
  (case c26 => k_is)
  (case k26 => k_is)
  (case a27 => k_is)
  (case l27 => k_is)
  (case c27 => k_is)
  (case k27 => k_is)
  (case a28 => k_is)
  (case l28 => k_is)
  (case c28 => k_is)
  (case k28 => k_is)
  (case a29 => k_is)
  (case l29 => k_is)
  (case c29 => k_is)
  (case k29 => k_is)
  (case a30 => k_is)
  (case l30 => k_is)
  (case c30 => k_is)
  (case k30 => k_is)
  (case m1 => k_is)
  (case ax0 => k_is)
  (case ax1 => k_is)
  (case ax2 => k_is)
  (case ax3 => k_is)
  (case ax4 => k_is)
  (case ax5 => k_is)
  (case ax6 => k_is)
  (case ax7 => k_is)
  (case ax8 => k_is)
  (case ax9 => k_is)
  (case ax10 => k_is)
  (case ax11 => k_is)
  (case axS => k_is)
  (case gaP => k_is)
  (case ghP => k_is)
  (case caP => k_is)
  (case obP => k_is)
  (case beP => k_is)
  (case clP => kernel_rfl)
  (case vvP => kernel_rfl)
  (case emP => kernel_rfl)
  (case eiP => kernel_rfl)
  (case kkP => kernel_rfl)
  (case gaT => k_is)
  (case ghT => k_is)
  (case caT => k_is)
  (case obT => k_is)
  (case beT => k_is)
  (case clT => kernel_rfl)
  (case vvT => kernel_rfl)
  (case emT => kernel_rfl)
  (case eiT => kernel_rfl)
  (case kkT => kernel_rfl)
  (case gaL => k_is)
  (case ghL => k_is)
  (case caL => k_is)
  (case obL => k_is)
  (case beL => k_is)
  (case clL => kernel_rfl)
  (case vvL => kernel_rfl)
  (case emL => kernel_rfl)
  (case eiL => kernel_rfl)
  (case kkL => kernel_rfl)
  (case hn_ => k_is)
  (case htk_ => k_is)
  (case z1 => k_is)
  (case z2 => k_is)
  (case z3 => k_is)
  (case z4 => k_is)
  (case z5 => k_is)
  (case z6 => k_is)
  (case z7 => k_is)
  (case z8 => k_is)
  (case z9 => k_is)
  (case z10 => k_is)
  (case z11 => k_is)
  (case z12 => k_is)
  (case z13 => k_is)
  (case z14 => k_is)
  (case z15 => k_is)
  (case z16 => k_is)
  (case z17 => k_is)
  (case z18 => k_is)
  (case z19 => k_is)
