import PyProof.Rows.All
import Wide.All
import OpenK.AllK
import Wide.FinOn
import Lean
import PyProof.EqAt
import PyProof.EqKinds
import PyProof.TupleCall
import PyProof.NeKinds
import PyProof.EnumStmt
import PyProof.WalkInts
import PyProof.ZipIter
import PyProof.Rows.ZipGen
import PyProof.Rows.SumAny
import PyProof.ReprBulk
import PyProof.FitsInt
import PyProof.Draws
import PyProof.FactsAll.NoneType
import PyProof.FactsAll.list_4
import KE.KTryMore
import PyProof.NsDelKeeps
import PyProof.ExcArgsOwn
import PyProof.ExcBaseAll.ValueError
import PySem.Challenge.RW_nearsums_k17_no_plans_no_numbers_no_rows
set_option Elab.async false
set_option linter.all false
set_option maxRecDepth 100000
namespace L2
open PySem PySem.Spec PyProof.Rows
abbrev Key := Sum Int Str
def keyIs : Key → Value → Bool
 | .inl k, v => Value.isInt k v
 | .inr x, v => Value.isStrOf x v
def keyH (w : World) : Key → Int
 | .inl k => hashInt k
 | .inr x => hashStr w x
theorem keyIs_shape : ∀ {k : Key} {v : Value}, keyIs k v = true → (∃ i t, k = Sum.inl i ∧ v = Value.int i t) ∨ (∃ x t, k = Sum.inr x ∧ v = Value.str x t)
 | .inl i, v, h => by
  obtain ⟨t, e⟩ := Value.isInt_shape (k := i) (v := v) h
  exact .inl ⟨i, t, rfl, e⟩
 | .inr x, v, h => by
  obtain ⟨t, e⟩ := Value.isStrOf_shape (x := x) (v := v) h
  exact .inr ⟨x, t, rfl, e⟩
theorem keyIs_int (i : Int) (t : Tok) : keyIs (.inl i) (.int i t) = true := by simp [keyIs, Value.isInt]
theorem keyIs_str (x : Str) (t : Tok) : keyIs (.inr x) (.str x t) = true := by simp [keyIs, Value.isStrOf]
theorem key_ll (a b : Int) : decide ((Sum.inl a : Key) = Sum.inl b) = (a == b) := by
 by_cases e : a = b
 ·subst e; simp
 ·have h : ¬ (Sum.inl a : Key) = Sum.inl b := fun q => e (Sum.inl.inj q)
  rw [decide_eq_false h]
  exact (beq_eq_false_iff_ne.mpr e).symm
theorem key_rr (a b : Str) : decide ((Sum.inr a : Key) = Sum.inr b) = decide (a = b) := by
 by_cases e : a = b
 ·subst e; simp
 ·have h : ¬ (Sum.inr a : Key) = Sum.inr b := fun q => e (Sum.inr.inj q)
  rw [decide_eq_false h, decide_eq_false e]
theorem key_lr (a : Int) (b : Str) : decide ((Sum.inl a : Key) = Sum.inr b) = false := decide_eq_false (fun q => nomatch q)
theorem key_rl (a : Str) (b : Int) : decide ((Sum.inr a : Key) = Sum.inl b) = false := decide_eq_false (fun q => nomatch q)
def mixKind (prog : Program) (w : World) : PySem.KeyKind prog w Key where
 is := keyIs
 hash := keyH w
 inj := fun v a b ha hb => by
  rcases keyIs_shape ha with ⟨i, t, rfl, rfl⟩ | ⟨x, t, rfl, rfl⟩
  ·rcases keyIs_shape hb with ⟨j, u, rfl, e⟩ | ⟨y, u, rfl, e⟩
   ·injection e with e1 _; rw [e1]
   ·exact nomatch e
  ·rcases keyIs_shape hb with ⟨j, u, rfl, e⟩ | ⟨y, u, rfl, e⟩
   ·exact nomatch e
   ·injection e with e1 _; rw [e1]
 byValue := fun k v h => by
  rcases keyIs_shape h with ⟨i, t, rfl, rfl⟩ | ⟨x, t, rfl, rfl⟩ <;> rfl
 pyHash := fun hv h => by
  rcases keyIs_shape hv with ⟨i, t, rfl, rfl⟩ | ⟨x, t, rfl, rfl⟩
  ·exact wpAny_pyHash_int h
  ·exact wpAny_pyHash_str h
 eqBool := fun hu hv h => by
  rcases keyIs_shape hu with ⟨i, t, rfl, rfl⟩ | ⟨x, t, rfl, rfl⟩
  ·rcases keyIs_shape hv with ⟨j, u, rfl, rfl⟩ | ⟨y, u, rfl, rfl⟩
   ·rw [key_ll] at h; exact wpAny_eqBool_int h
   ·rw [key_lr] at h; exact SeqAt.EqAt.int_str i t y u _ _ _ _ h
  ·rcases keyIs_shape hv with ⟨j, u, rfl, rfl⟩ | ⟨y, u, rfl, rfl⟩
   ·rw [key_rl] at h; exact SeqAt.EqAt.str_int x t j u _ _ _ _ h
   ·rw [key_rr] at h; exact wpAny_eqBool_str h
 «strs» := fun k x t v h => by
  rcases keyIs_shape h with ⟨i, u, rfl, e⟩ | ⟨y, u, rfl, e⟩
  ·exact nomatch e
  ·injection e with e1 _
   subst e1
   cases v <;> rfl
theorem mixKind_int (prog : Program) (w : World) (i : Int) (t : Tok) : (mixKind prog w).is (.inl i) (.int i t) = true := keyIs_int i t
theorem mixKind_str (prog : Program) (w : World) (x : Str) (t : Tok) : (mixKind prog w).is (.inr x) (.str x t) = true := keyIs_str x t
end L2
namespace L2
open PySem PySem.Spec PyProof.Rows
inductive V where
 | non | bl (b : Bool) | int (i : Int) | str (x : Str) | byt (b : Array UInt8) | flt (b : UInt64) | ref (a : Addr) | ty (n : String)
 deriving DecidableEq
def RelV : V → Value → Prop
 | .non, u => u = Value.none
 | .bl b, u => u = Value.bool b
 | .int i, u => ∃ t, u = Value.int i t
 | .str x, u => ∃ t, u = Value.str x t
 | .byt b, u => ∃ t, u = Value.bytes b t
 | .flt b, u => ∃ t, u = Value.float b t
 | .ref a, u => u = Value.ref a
 | .ty n, u => u = Value.type n
abbrev Vals : List V → List Value → Prop := Paired RelV
theorem Vals.length {xs : List V} {us : List Value} (r : Vals xs us) : xs.length = us.length := Paired.length r
theorem Vals.get : ∀ {xs : List V} {us : List Value} {i : Nat} {x : V}, Vals xs us → xs[i]? = some x → ∃ u, us[i]? = some u ∧ RelV x u
 | _, _, _, _, .nil, e => by simp at e
 | _, _, 0, _, .cons r _, e => by simp at e; subst e; exact ⟨_, rfl, r⟩
 | _, _, i + 1, x, .cons _ t, e => by
  obtain ⟨u, h1, h2⟩ := Vals.get (i := i) (x := x) t (by simpa using e)
  exact ⟨u, by simpa using h1, h2⟩
theorem Vals.set {x : V} {u : Value} (r : RelV x u) : ∀ {xs : List V} {us : List Value} (i : Nat), Vals xs us → Vals (xs.set i x) (us.set i u)
 | _, _, _, .nil => .nil
 | _, _, 0, .cons _ t => .cons r t
 | _, _, i + 1, .cons q t => .cons q (Vals.set r i t)
theorem Vals.append : ∀ {xs ys : List V} {us ws : List Value}, Vals xs us → Vals ys ws → Vals (xs ++ ys) (us ++ ws)
 | _, _, _, _, .nil, s => s
 | _, _, _, _, .cons r t, s => .cons r (Vals.append t s)
theorem Vals.take : ∀ {xs : List V} {us : List Value} (n : Nat), Vals xs us → Vals (xs.take n) (us.take n)
 | _, _, 0, _ => .nil
 | _, _, _ + 1, .nil => .nil
 | _, _, n + 1, .cons r t => .cons r (Vals.take n t)
theorem Vals.drop : ∀ {xs : List V} {us : List Value} (n : Nat), Vals xs us → Vals (xs.drop n) (us.drop n)
 | _, _, 0, r => r
 | _, _, _ + 1, .nil => .nil
 | _, _, n + 1, .cons _ t => Vals.drop n t
def RelO : Option V → Option Value → Prop
 | some v, some u => RelV v u
 | none, none => True
 | _, _ => False
def KV {κ : Type} : List (κ × V) → List (κ × Value) → Prop := Paired fun (p : κ × V) (q : κ × Value) => p.1 = q.1 ∧ RelV p.2 q.2
def kV : Key → V
 | .inl i => .int i
 | .inr x => .str x
inductive HO where
  | lst (xs : List V)
  | tup (xs : List V)
  | dK (kvs : List (Key × V)) | dT (kvs : List (List Key × V))
  | set (S : Int → Bool) (n : Nat)
  | ins (C dx : Addr) (fs : List (Str × V))
  | own (x : Addr)
  | xd (fs : List (Str × V))
  | met (f x : Addr)
  | rng (lo hi : Int)
  | frz (o : Obj) (u : HO)
  | tbl (ps : Array Value)
  | ext (φ : Heap → Prop)
abbrev Hp := Addr → Option HO
def upd (H : Hp) (a : Addr) (o : HO) : Hp := fun b => if b = a then some o else H b
theorem upd_same {H : Hp} {a : Addr} {o : HO} : upd H a o a = some o := by unfold upd; rw [if_pos rfl]
theorem upd_ne {H : Hp} {a b : Addr} {o : HO} (h : b ≠ a) : upd H a o b = H b := by unfold upd; rw [if_neg h]
theorem upd_upd {H : Hp} {a : Addr} {o u : HO} : upd (upd H a o) a u = upd H a u := by
 funext b; unfold upd; split <;> rfl
theorem ne_of {H : Hp} {a b : Addr} {o u : HO} (h : H a = some o) (h' : H b = some u) (d : o ≠ u) : a ≠ b := by
 intro e; subst e; rw [h] at h'; exact d (Option.some.inj h')
theorem ne_of_none {H : Hp} {a b : Addr} {o : HO} (h : H a = some o) (h' : H b = none) : a ≠ b := by
 intro e; subst e; rw [h] at h'; cases h'
section
variable (P : Program) (w : World)
def ObjOk (H : Hp) (h : Heap) (a : Addr) : HO → Prop
 | .lst xs => xs.length ≤ sizeLine ∧ ∃ (its : List Value) (n : Nat), Vals xs its ∧ h.get? a = some { cls := .type "list", data := .seq its.toArray n }
 | .tup xs => xs.length ≤ sizeLine ∧ ∃ its : List Value, Vals xs its ∧ IsTup h a its.toArray
 | .dK kvs => kvs.length ≤ sizeLine ∧ (a == sysModules) = false ∧ ∃ vs, KV kvs vs ∧ h.DictOf (mixKind P w) a vs
 | .dT kvs => kvs.length ≤ sizeLine ∧ (a == sysModules) = false ∧ ∃ xs : List (List Key × Addr × Value),
   Paired (fun (p : List Key × V) (q : List Key × Addr × Value) => p.1 = q.1 ∧ H q.2.1 = some (.tup (p.1.map kV)) ∧ RelV p.2 q.2.2) kvs xs ∧
   ∃ o es ep, h.get? a = some o ∧ o.ExactDict ∧ o.data = .dict es ep ∧ es.toList = xs.map (entryOfKey (tupleKind (mixKind P w))) ∧ (xs.map (·.1)).Nodup
 | .set S n => h.SetOf (intKind P w) a S n
 | .ins C dx fs => H dx = some (.own a) ∧ fs.length ≤ 1000 ∧ dx ≠ a ∧ h.get? a = some (PySem.W.instObj C dx) ∧
   ∃ mA, h.Ns1 dx mA ∧ (∀ f, RelO (fs.lookup f) (mA f)) ∧ PySem.Within mA (fs.map (·.1))
 | .own _ => ∃ o, h.get? a = some o
 | .xd fs => ∃ mA, h.Ns1 a mA ∧ ∀ f, RelO (fs.lookup f) (mA f)
 | .rng lo hi => ∃ t u v, h.get? a = some { cls := .type "range", data := .fields #[.int lo t, .int hi u, .int 1 v] }
 | .frz o u => h.get? a = some o ∧ ObjOk H h a u
 | .tbl ps => h.get? a = some { cls := .none, data := .fields ps }
 | .met f x => h.get? a = some (PySem.W.methodObj (.ref f) (.ref x))
 | .ext φ => φ h ∧ (∃ o, h.get? a = some o) ∧ ∀ h1 h2 : Heap, φ h1 → (∀ o, h1.get? a = some o → h2.get? a = some o) → φ h2
def HOk (H : Hp) (h : Heap) : Prop := ∀ a o, H a = some o → ObjOk P w H h a o
end
section
variable {P : Program} {w : World} {H H' : Hp} {h h' : Heap} {a : Addr} {o : HO}
theorem ObjOk.lt (x : ObjOk P w H h a o) : a < h.objs.size := by
 cases o with
 | lst xs => obtain ⟨_, _, _, _, e⟩ := x; exact Heap.lt_size e
 | tup xs => obtain ⟨_, _, _, p⟩ := x; exact p.lt
 | dK kvs => obtain ⟨_, _, _, _, o, _, _, e, _⟩ := x; exact Heap.lt_size e
 | dT kvs => obtain ⟨_, _, _, _, o, _, _, e, _⟩ := x; exact Heap.lt_size e
 | set S n => obtain ⟨o, _, _, _, e, _⟩ := x; exact Heap.lt_size e
 | ins C dx fs => obtain ⟨_, _, _, e, _⟩ := x; exact Heap.lt_size e
 | own y => obtain ⟨_, e⟩ := x; exact Heap.lt_size e
 | xd fs => obtain ⟨_, ⟨_, _, _, e, _⟩, _⟩ := x; exact Heap.lt_size e
 | rng lo hi => obtain ⟨_, _, _, e⟩ := x; exact Heap.lt_size e
 | frz ob u => obtain ⟨e, _⟩ := x; exact Heap.lt_size e
 | tbl ps => exact Heap.lt_size (show h.get? a = some _ from x)
 | met f y => exact Heap.lt_size (show h.get? a = some _ from x)
 | ext φ => obtain ⟨_, ⟨_, e⟩, _⟩ := x; exact Heap.lt_size e
theorem Paired.mapP {α β : Type} {F G : α → β → Prop} : ∀ {l₁ : List α} {l₂ : List β}, Paired F l₁ l₂ → (∀ a b, F a b → G a b) → Paired G l₁ l₂
 | _, _, .nil, _ => .nil
 | _, _, .cons r t, f => .cons (f _ _ r) (Paired.mapP t f)
theorem ObjOk.stay (x : ObjOk P w H h a o) (k : ∀ b u, (b = a ∨ H b = some (.own a)) → h.get? b = some u → h'.get? b = some u)
  (ho : ∀ b, H b = some (.own a) → H' b = some (.own a)) (ht : ∀ b xs, H b = some (.tup xs) → H' b = some (.tup xs)) : ObjOk P w H' h' a o := by
 induction o with
 | lst xs => obtain ⟨z, its, n, r, e⟩ := x; exact ⟨z, its, n, r, k _ _ (.inl rfl) e⟩
 | tup xs => obtain ⟨z, its, r, ob, e, c⟩ := x; exact ⟨z, its, r, ob, k _ _ (.inl rfl) e, c⟩
 | dK kvs => obtain ⟨z, y, vs, r, ob, es, ep, e, c⟩ := x; exact ⟨z, y, vs, r, ob, es, ep, k _ _ (.inl rfl) e, c⟩
 | dT kvs =>
  obtain ⟨z, y, xs, r, ob, es, ep, e, c⟩ := x
  exact ⟨z, y, xs, Paired.mapP r fun p q z => ⟨z.1, ht _ _ z.2.1, z.2.2⟩, ob, es, ep, k _ _ (.inl rfl) e, c⟩
 | set S n => obtain ⟨ob, es, ep, t, e, c⟩ := x; exact ⟨ob, es, ep, t, k _ _ (.inl rfl) e, c⟩
 | ins C dx fs =>
  obtain ⟨d, z, ne, e, mA, ⟨od, es, ep, e2, c⟩, r⟩ := x
  exact ⟨ho _ d, z, ne, k _ _ (.inl rfl) e, mA, ⟨od, es, ep, k _ _ (.inr d) e2, c⟩, r⟩
 | own y => obtain ⟨ob, e⟩ := x; exact ⟨ob, k _ _ (.inl rfl) e⟩
 | xd fs => obtain ⟨mA, ⟨od, es, ep, e, c⟩, r⟩ := x; exact ⟨mA, ⟨od, es, ep, k _ _ (.inl rfl) e, c⟩, r⟩
 | rng lo hi => obtain ⟨t, u, v, e⟩ := x; exact ⟨t, u, v, k _ _ (.inl rfl) e⟩
 | frz ob u ih => obtain ⟨e, q⟩ := x; exact ⟨k _ _ (.inl rfl) e, ih q⟩
 | tbl ps =>
  have e : h.get? a = some { cls := .none, data := .fields ps } := x
  show h'.get? a = some { cls := .none, data := .fields ps }
  exact k a _ (.inl rfl) e
 | met f y =>
  have e : h.get? a = some (PySem.W.methodObj (.ref f) (.ref y)) := x
  show h'.get? a = some (PySem.W.methodObj (.ref f) (.ref y))
  exact k a _ (.inl rfl) e
 | ext φ => obtain ⟨p, ⟨o, e⟩, st⟩ := x; exact ⟨st _ _ p fun o q => k _ _ (.inl rfl) q, ⟨o, k _ _ (.inl rfl) e⟩, st⟩
theorem HOk.lt (x : HOk P w H h) (e : H a = some o) : a < h.objs.size := (x a o e).lt
theorem HOk.fresh (x : HOk P w H h) (e : h.objs.size ≤ a) : H a = none := by
 cases q : H a with
 | none => rfl
 | some u => exact absurd (Nat.lt_of_lt_of_le (x.lt q) e) (Nat.lt_irrefl _)
theorem HOk.kept (x : HOk P w H h) (k : ∀ b u, h.get? b = some u → h'.get? b = some u) : HOk P w H h' := fun a o e =>
 (x a o e).stay (fun b u _ q => k b u q) (fun _ q => q) fun _ _ q => q
theorem HOk.laid (x : HOk P w H h) (k : ∀ b u, h.get? b = some u → h'.get? b = some u) (hp : h.objs.size ≤ a) (new : ObjOk P w (upd H a o) h' a o) : HOk P w (upd H a o) h' := fun b u e => by
 have hn := x.fresh hp
 by_cases hb : b = a
 ·subst hb; rw [upd_same] at e; cases e; exact new
 ·rw [upd_ne hb] at e
  exact (x b u e).stay (fun c v _ q => k c v q) (fun c q => by rw [upd_ne (ne_of_none q hn)]; exact q) fun c xs q => by rw [upd_ne (ne_of_none q hn)]; exact q
end
def Rd (H : Hp) (a : Addr) (u : HO) : Prop := H a = some u ∨ ∃ o, H a = some (.frz o u)
theorem Rd.ok {P : Program} {w : World} {H : Hp} {h : Heap} {a : Addr} {u : HO} (r : Rd H a u) (x : HOk P w H h) : ObjOk P w H h a u := by
 rcases r with r | ⟨o, r⟩
 ·exact x a u r
 ·obtain ⟨_, q⟩ := x a _ r
  exact q
def Mut : Option HO → Prop
 | some (.lst _) => True
 | some (.dK _) => True
 | some (.dT _) => True
 | some (.set _ _) => True
 | some (.ins _ _ _) => True
 | some (.ext _) => True
 | _ => False
section
variable {P : Program} {w : World} {H : Hp} {h h' : Heap} {x e : Addr} {o' : HO}
theorem HOk.write (ok : HOk P w H h) (mu : Mut (H x)) (he : e = x ∨ H e = some (.own x)) (k : ∀ b u, b ≠ e → h.get? b = some u → h'.get? b = some u) (heo : ∃ u, h'.get? e = some u)
  (new : ObjOk P w (upd H x o') h' x o') : HOk P w (upd H x o') h' := fun b u q => by
 have nown : ∀ c y, H c = some (.own y) → c ≠ x := fun c y r z => by subst z; rw [r] at mu; exact mu
 have ntup : ∀ c xs, H c = some (.tup xs) → c ≠ x := fun c xs r z => by subst z; rw [r] at mu; exact mu
 by_cases hb : b = x
 ·subst hb; rw [upd_same] at q; cases q; exact new
 ·rw [upd_ne hb] at q
  by_cases hbe : b = e
  ·have q' : H b = some (.own x) := by
    rcases he with z | z
    ·exact absurd (hbe.trans z) hb
    ·rw [hbe]; exact z
   rw [q] at q'; cases q'
   obtain ⟨v, hv⟩ := heo
   exact ⟨v, by rw [hbe]; exact hv⟩
  ·refine (ok b u q).stay (fun c v hc r => k c v ?_ r) (fun c r => by rw [upd_ne (nown c b r)]; exact r) fun c xs r => by rw [upd_ne (ntup c xs r)]; exact r
   rcases hc with rfl | hc
   ·exact hbe
   ·rintro rfl
    rcases he with z | z
    ·exact nown c b hc z
    ·rw [hc] at z; cases z; exact hb rfl
end
structure Un (fs ex : List Addr) (H H' : Hp) (h h' : Heap) : Prop where
 keep : ∀ b o, h.get? b = some o → H b = none → b ∉ fs → b ∉ ex → h'.get? b = some o
 slot : ∀ b o, h.get? b = some o → H b = none → b ∈ fs → b ∉ ex → ∃ sl, h'.get? b = some { o with slots := sl }
 free : ∀ b o, h.get? b = some o → H b = none → b ∉ ex → H' b = none
 there : ∀ b o, h.get? b = some o → b ∉ ex → ∃ o', h'.get? b = some o'
 tups : ∀ b xs, H b = some (.tup xs) → H' b = some (.tup xs)
 frzs : ∀ b o u, H b = some (.frz o u) → H' b = some (.frz o u)
 tbls : ∀ b ps, H b = some (.tbl ps) → ∃ more, H' b = some (.tbl (ps ++ more))
section
variable {fs fs' ex ex' : List Addr} {H H1 H2 : Hp} {h h1 h2 h' : Heap} {a x e : Addr} {o : HO}
theorem Un.any (u : Un fs ex H H1 h h1) {b : Addr} {ob : Obj} (q : h.get? b = some ob) (n : H b = none) (hx : b ∉ ex) : ∃ sl, h1.get? b = some { ob with slots := sl } := by
 by_cases hb : b ∈ fs
 ·exact u.slot b ob q n hb hx
 ·exact ⟨ob.slots, u.keep b ob q n hb hx⟩
theorem Un.trans (a : Un fs ex H H1 h h1) (b : Un fs ex H1 H2 h1 h2) : Un fs ex H H2 h h2 where
 keep := fun c ob q n hc hx => b.keep c ob (a.keep c ob q n hc hx) (a.free c ob q n hx) hc hx
 slot := fun c ob q n hc hx => by
  obtain ⟨sl, e1⟩ := a.slot c ob q n hc hx
  obtain ⟨sl', e2⟩ := b.slot c _ e1 (a.free c ob q n hx) hc hx
  exact ⟨sl', e2⟩
 free := fun c ob q n hx => by
  obtain ⟨o', e1⟩ := a.there c ob q hx
  exact b.free c o' e1 (a.free c ob q n hx) hx
 there := fun c ob q hx => by
  obtain ⟨o', e1⟩ := a.there c ob q hx
  exact b.there c o' e1 hx
 tups := fun c xs q => b.tups c xs (a.tups c xs q)
 frzs := fun c ob xs q => b.frzs c ob xs (a.frzs c ob xs q)
 tbls := fun c ps q => by
  obtain ⟨m1, e1⟩ := a.tbls c ps q
  obtain ⟨m2, e2⟩ := b.tbls c _ e1
  exact ⟨m1 ++ m2, by rw [e2, Array.append_assoc]⟩
theorem Un.kept (k : ∀ b u, h.get? b = some u → h'.get? b = some u) : Un fs ex H H h h' :=
 ⟨fun b ob q _ _ _ => k b ob q, fun b ob q _ _ _ => ⟨ob.slots, k b ob q⟩, fun _ _ _ n _ => n, fun b ob q _ => ⟨ob, k b ob q⟩, fun _ _ q => q, fun _ _ _ q => q, fun _ ps q => ⟨#[], by rw [q]; simp⟩⟩
theorem Un.refl : Un fs ex H H h h := Un.kept fun _ _ q => q
theorem Un.laid (k : ∀ b u, h.get? b = some u → h'.get? b = some u) (hp : h.objs.size ≤ a) (hn : H a = none) : Un fs ex H (upd H a o) h h' where
 keep := fun b u q _ _ _ => k b u q
 slot := fun b u q _ _ _ => ⟨u.slots, k b u q⟩
 free := fun b u q n _ => by rw [upd_ne (Nat.ne_of_lt (Nat.lt_of_lt_of_le (Heap.lt_size q) hp))]; exact n
 there := fun b u q _ => ⟨u, k b u q⟩
 tups := fun b xs q => by rw [upd_ne (ne_of_none q hn)]; exact q
 frzs := fun b u xs q => by rw [upd_ne (ne_of_none q hn)]; exact q
 tbls := fun b ps q => ⟨#[], by rw [upd_ne (ne_of_none q hn), q]; simp⟩
theorem Un.write (mu : Mut (H x)) (he : e = x ∨ H e = some (.own x)) (k : ∀ b u, b ≠ e → h.get? b = some u → h'.get? b = some u) (heo : ∃ u, h'.get? e = some u) : Un fs ex H (upd H x o) h h' := by
 have hx : ∀ b, H b = none → b ≠ x := fun b n z => by subst z; rw [n] at mu; exact mu
 have hb : ∀ b, H b = none → b ≠ e := fun b n z => by
  subst z
  rcases he with r | r
  ·exact hx b n r
  ·rw [n] at r; cases r
 have hm : ∀ b u, H b = some u → ¬ Mut (some u) → b ≠ x := fun b u q nm z => by subst z; rw [q] at mu; exact nm mu
 refine ⟨fun b u q n _ _ => k b u (hb b n) q, fun b u q n _ _ => ⟨u.slots, k b u (hb b n) q⟩, fun b u q n _ => by rw [upd_ne (hx b n)]; exact n, fun b u q _ => ?_,
  fun b xs q => by rw [upd_ne (hm b _ q fun z => z)]; exact q, fun b u xs q => by rw [upd_ne (hm b _ q fun z => z)]; exact q, fun b ps q => ⟨#[], by rw [upd_ne (hm b _ q fun z => z), q]; simp⟩⟩
 by_cases hbe : b = e
 ·subst hbe; exact heo
 ·exact ⟨u, k b u hbe q⟩
end
def trk (h : Heap) (H : Hp) : List Addr := (List.range h.objs.size).filter fun a => (H a).isSome
def hidT (h : Heap) (H : Hp) : Heap := PySem.W.hideAll h (trk h H)
theorem hidT_size (h : Heap) (H : Hp) : (hidT h H).objs.size = h.objs.size := PySem.W.hideAll_size _ _
theorem hidT_get {h : Heap} {H : Hp} {b : Addr} {o : Obj} (e : h.get? b = some o) (n : H b = none) : (hidT h H).get? b = some o :=
 PySem.W.hideAll_get _ e fun hm => by
  have q : (H b).isSome = true := (List.mem_filter.mp hm).2
  rw [n] at q; simp at q
theorem of_hidT {h : Heap} {H : Hp} {b : Addr} {o : Obj} (e : (hidT h H).get? b = some o) : h.get? b = some o ∧ H b = none := by
 have e' : h.get? b = some o := PySem.W.of_hideAll (trk h H) e
 refine ⟨e', ?_⟩
 cases q : H b with
 | none => rfl
 | some x =>
  have hm : b ∈ trk h H := List.mem_filter.mpr ⟨List.mem_range.mpr (Heap.lt_size e'), by simp [q]⟩
  have z : (hidT h H).get? b = none := PySem.W.hideAll_none (trk h H) hm
  rw [z] at e; cases e
end L2
namespace L2
open PySem PySem.Spec PyProof.Rows
structure Mod (K : PySem.W.Frag) (mg : Str → Option Value) (base : Heap) : Prop where
 kin : K.In base
 glob : base.Ns mainGlobals mg
 blt : ∃ mb, base.Ns builtinsNs mb ∧ ∀ x : Str, x ≠ "__name__" → mb x = bootBuiltins x
 nolimit : base.NoLimit
structure Cx where
 prog : Program
 w : World
 K : PySem.W.Frag
 mg : Str → Option Value
 base : Heap
 A : Around
 N : List Str
 s₀ : Shared
 H₀ : Hp
 env : Env
 outer : List Env
 stack : List Env
 ex : List Addr
 fn : Str → Bool
 calm : Bool
 pn : List (Addr × Obj)
 xe : Value → Shared → Prop
def frs (l : List Env) : List Addr := l.filterMap (·.frame)
abbrev Cx.fs (X : Cx) : List Addr := frs X.outer
def Vis (sc : Scope) (x : Str) : Prop := sc.names.lookup x = some .local ∨ sc.names.lookup x = some .cell ∨ sc.names.lookup x = some .free
def Loc (sc : Scope) (x : Str) : Prop := sc.names.lookup x = some .local ∨ sc.names.lookup x = some .cell
def Look (env : Env) (h : Heap) (m : Str → Option Value) (x : Str) (u : Value) : Prop :=
 (env.kindOf x = some .local ∧ m x = some u) ∨ ((env.kindOf x = some .cell ∨ env.kindOf x = some .free) ∧ ∃ c, env.cells.lookup x = some c ∧ h.IsCell c (some u))
structure Cx.Ok (X : Cx) : Prop where
 mod : Mod X.K X.mg X.base
 kind : X.env.scope.kind = .function
 glob : X.env.globals = mainGlobals
 blt : X.env.builtins = builtinsNs
 above : X.s₀.heap.objs.size ≤ X.env.locals
 inj : ∀ x y c, X.env.cells.lookup x = some c → X.env.cells.lookup y = some c → x = y
 has : ∀ x, (X.env.kindOf x = some .cell ∨ X.env.kindOf x = some .free) → ∃ c, X.env.cells.lookup x = some c
 cab : ∀ x c, X.fn x = true → X.env.cells.lookup x = some c → X.s₀.heap.objs.size ≤ c
 hd : X.calm = true → X.A.handled = none
 frames : X.A.frames = some X.stack
 stk : X.stack = X.outer ∨ (X.stack = X.env :: X.outer ∧ X.env.frame = some X.env.locals)
 exf : ∀ b ∈ X.ex, b ≠ X.env.locals ∧ ∀ x c, X.env.cells.lookup x = some c → c ≠ b
 bs : ∀ b o, X.base.get? b = some o → X.s₀.heap.get? b = some o ∧ X.H₀ b = none
 bsz : X.base.objs.size ≤ X.s₀.heap.objs.size
 noex : ∀ b o, X.base.get? b = some o → b ∉ X.ex
 exfs : ∀ b ∈ X.ex, b ∉ X.fs
 funs : X.s₀.heap.FunFrames X.base X.outer
 frf : ∀ b ∈ X.fs, X.H₀ b = none
structure Inv (X : Cx) (pins : List (Addr × Obj)) (σ : List (Option V)) (H : Hp) (s : Shared) : Prop where
 ok : X.Ok
 os : s.os = X.s₀.os
 bare : AllBare s.gens
 base : Un X.fs X.ex X.H₀ H X.s₀.heap s.heap
 loc : ∃ m, s.heap.Ns X.env.locals m ∧ ∀ (i : Nat) (x : Str) (v : V), X.N[i]? = some x → σ[i]? = some (some v) → Vis X.env.scope x → ∃ u, RelV v u ∧ Look X.env s.heap m x u
 cell : ∀ x c, X.env.cells.lookup x = some c → ∃ v, s.heap.IsCell c v
 free : H X.env.locals = none
 freeC : ∀ x c, X.env.cells.lookup x = some c → H c = none
 pin : ∀ p ∈ X.pn ++ pins, s.heap.get? p.1 = some p.2 ∧ H p.1 = none ∧ p.1 ≠ X.env.locals ∧ p.1 ∉ X.fs ∧ ∀ v, p.2.data ≠ .cell v
 hok : HOk X.prog X.w H s.heap
 len : σ.length = X.N.length
section
variable {X : Cx} {pins : List (Addr × Obj)} {σ : List (Option V)} {H H' : Hp} {s : Shared} {h' : Heap}
theorem Cx.Ok.nofr (ok : X.Ok) {b : Addr} {o : Obj} (e : X.base.get? b = some o) : b ∉ X.fs := fun hb => by
 have := (ok.funs.mem hb).1
 rw [e] at this; cases this
theorem Inv.bs (I : Inv X pins σ H s) : ∀ b o, X.base.get? b = some o → s.heap.get? b = some o ∧ H b = none := fun b o e =>
 ⟨I.base.keep b o (I.ok.bs b o e).1 (I.ok.bs b o e).2 (I.ok.nofr e) (I.ok.noex b o e), I.base.free b o (I.ok.bs b o e).1 (I.ok.bs b o e).2 (I.ok.noex b o e)⟩
theorem Inv.bk (I : Inv X pins σ H s) : ∀ b o, X.base.get? b = some o → s.heap.get? b = some o := fun b o e => (I.bs b o e).1
theorem Inv.mod (I : Inv X pins σ H s) : Mod X.K X.mg X.base := I.ok.mod
theorem Inv.kIn (I : Inv X pins σ H s) : X.K.In s.heap := I.ok.mod.kin.keeps I.bk
theorem Inv.lt (I : Inv X pins σ H s) : X.env.locals < s.heap.objs.size := let ⟨_, hn, _⟩ := I.loc; hn.lt
theorem Inv.sz (I : Inv X pins σ H s) : X.s₀.heap.objs.size ≤ s.heap.objs.size := Nat.le_trans I.ok.above (Nat.le_of_lt I.lt)
theorem Inv.nofs (I : Inv X pins σ H s) {a : Addr} (h : s.heap.objs.size ≤ a) : a ∉ X.fs := fun hb => by
 obtain ⟨_, o, ho, _⟩ := I.ok.funs.mem hb
 exact absurd (Nat.lt_of_lt_of_le (Heap.lt_size ho) (Nat.le_trans I.sz h)) (Nat.lt_irrefl _)
theorem Inv.cne (I : Inv X pins σ H s) : ∀ x c, X.env.cells.lookup x = some c → c ≠ X.env.locals := fun x c e z => by
 obtain ⟨v, o, ho, hd⟩ := I.cell x c e
 obtain ⟨m, ⟨o', es, ep, ho', hd', _⟩, _⟩ := I.loc
 rw [z, ho'] at ho; cases ho; rw [hd'] at hd; cases hd
theorem Inv.funs (I : Inv X pins σ H s) : s.heap.FunFrames X.base X.outer := by
 have all : ∀ (l : List Env), (∀ b ∈ frs l, b ∈ X.fs) → X.s₀.heap.FunFrames X.base l → s.heap.FunFrames X.base l := by
  intro l
  induction l with
  | nil => intro _ _; trivial
  | cons env r ih =>
   intro hs hl
   obtain ⟨hk, ⟨L, o, hf, hn, ho, hd⟩, hr⟩ := hl
   have hL : L ∈ X.fs := hs L (by unfold frs; rw [List.filterMap_cons, hf]; exact List.mem_cons_self)
   obtain ⟨sl, e⟩ := I.base.slot L o ho (I.ok.frf L hL) hL fun z => I.ok.exfs L z hL
   exact ⟨hk, ⟨L, _, hf, hn, e, hd⟩, ih (fun b hb => hs b (by unfold frs; rw [List.filterMap_cons, hf]; exact List.mem_cons_of_mem _ hb)) hr⟩
 exact all X.outer (fun _ hb => hb) I.ok.funs
theorem Inv.stack (I : Inv X pins σ H s) : s.heap.FunFrames X.base X.stack := by
 rcases I.ok.stk with e | ⟨e, hf⟩
 ·rw [e]; exact I.funs
 ·rw [e]
  obtain ⟨m, hn, _⟩ := I.loc
  refine .cons (by rw [I.ok.kind]; decide) hf hn ?_ I.funs
  exact Heap.get?_none_of_le (Nat.le_trans I.ok.bsz I.ok.above)
theorem Inv.stkSub (I : Inv X pins σ H s) : ∀ b ∈ frs X.stack, b ∈ X.env.locals :: X.fs := fun b hb => by
 rcases I.ok.stk with e | ⟨e, hf⟩
 ·rw [e] at hb; exact List.mem_cons_of_mem _ hb
 ·rw [e] at hb
  unfold frs at hb
  rw [List.filterMap_cons, hf] at hb
  exact hb
theorem Inv.stkFree (I : Inv X pins σ H s) : ∀ b ∈ frs X.stack, H b = none := fun b hb => by
 rcases List.mem_cons.mp (I.stkSub b hb) with e | hb
 ·rw [e]; exact I.free
 ·obtain ⟨_, o, ho, _⟩ := I.ok.funs.mem hb
  exact I.base.free b o ho (I.ok.frf b hb) fun z => I.ok.exfs b z hb
theorem Inv.step {g' : Array GenState} {t' : Nat} {d' : Drawn} {ch : List Addr} (I : Inv X pins σ H s)
  (hch : ∀ b ∈ ch, (b ∈ X.ex ∨ X.s₀.heap.objs.size ≤ b) ∧ b ≠ X.env.locals ∧ (∀ x c, X.env.cells.lookup x = some c → c ≠ b) ∧ ∀ p ∈ X.pn ++ pins, p.1 ≠ b)
  (keep : ∀ b o, b ≠ X.env.locals → b ∉ X.fs → b ∉ ch → s.heap.get? b = some o → H b = none → h'.get? b = some o)
  (slot : ∀ b o, b ≠ X.env.locals → b ∈ X.fs → b ∉ ch → s.heap.get? b = some o → H b = none → ∃ sl, h'.get? b = some { o with slots := sl }) (free : ∀ b o, b ∉ ch → s.heap.get? b = some o → H b = none → H' b = none)
  (there : ∀ b o, b ∉ ch → s.heap.get? b = some o → ∃ o', h'.get? b = some o')
  (tups : ∀ b xs, H b = some (.tup xs) → H' b = some (.tup xs)) (frzs : ∀ b o u, H b = some (.frz o u) → H' b = some (.frz o u)) (tbls : ∀ b ps, H b = some (.tbl ps) → ∃ more, H' b = some (.tbl (ps ++ more)))
  (ns : ∀ m, s.heap.Ns X.env.locals m → h'.Ns X.env.locals m) (hok : HOk X.prog X.w H' h') (hg : AllBare g') :
  Inv X pins σ H' { s with heap := h', gens := g', drawn := d', toks := t' } := by
 have neL : ∀ b o, X.s₀.heap.get? b = some o → b ≠ X.env.locals := fun b o e => Nat.ne_of_lt (Nat.lt_of_lt_of_le (Heap.lt_size e) I.ok.above)
 have neC : ∀ b o, X.s₀.heap.get? b = some o → b ∉ X.ex → b ∉ ch := fun b o e hx hb => by
  rcases (hch b hb).1 with z | z
  ·exact hx z
  ·exact absurd (Nat.lt_of_lt_of_le (Heap.lt_size e) z) (Nat.lt_irrefl _)
 have cellK : ∀ x c, X.env.cells.lookup x = some c → ∀ v, s.heap.IsCell c v → h'.IsCell c v := fun x c e v ⟨o, ho, hd⟩ => by
  have nch : c ∉ ch := fun z => (hch c z).2.2.1 x c e rfl
  by_cases hc : c ∈ X.fs
  ·obtain ⟨sl, q⟩ := slot c o (I.cne x c e) hc nch ho (I.freeC x c e)
   exact ⟨_, q, hd⟩
  ·exact ⟨o, keep c o (I.cne x c e) hc nch ho (I.freeC x c e), hd⟩
 refine ⟨I.ok, I.os, hg, ⟨fun b o e n hb hx => ?_, fun b o e n hb hx => ?_, fun b o e n hx => ?_, fun b o e hx => ?_, fun b xs e => tups b xs (I.base.tups b xs e), fun b o xs e => frzs b o xs (I.base.frzs b o xs e), fun b ps e => ?_⟩, ?_, fun x c e => ?_, ?_, fun x c e => ?_, fun p hp => ?_, hok, I.len⟩
 ·exact keep b o (neL b o e) hb (neC b o e hx) (I.base.keep b o e n hb hx) (I.base.free b o e n hx)
 ·obtain ⟨sl, e1⟩ := I.base.slot b o e n hb hx
  obtain ⟨sl', e2⟩ := slot b _ (neL b o e) hb (neC b o e hx) e1 (I.base.free b o e n hx)
  exact ⟨sl', e2⟩
 ·obtain ⟨o', e1⟩ := I.base.there b o e hx
  exact free b o' (neC b o e hx) e1 (I.base.free b o e n hx)
 ·obtain ⟨o', e1⟩ := I.base.there b o e hx
  exact there b o' (neC b o e hx) e1
 ·obtain ⟨m1, e1⟩ := I.base.tbls b ps e
  obtain ⟨m2, e2⟩ := tbls b _ e1
  exact ⟨m1 ++ m2, by rw [e2, Array.append_assoc]⟩
 ·obtain ⟨m, hn, hl⟩ := I.loc
  refine ⟨m, ns m hn, fun i x v e1 e2 e3 => ?_⟩
  obtain ⟨u, r, l⟩ := hl i x v e1 e2 e3
  refine ⟨u, r, ?_⟩
  rcases l with l | ⟨k, c, e, z⟩
  ·exact .inl l
  ·exact .inr ⟨k, c, e, cellK x c e _ z⟩
 ·obtain ⟨v, z⟩ := I.cell x c e
  exact ⟨v, cellK x c e v z⟩
 ·obtain ⟨m, ⟨o, _, _, ho, _⟩, _⟩ := I.loc
  exact free _ o (fun z => (hch _ z).2.1 rfl) ho I.free
 ·obtain ⟨v, o, ho, hd⟩ := I.cell x c e
  exact free c o (fun z => (hch c z).2.2.1 x c e rfl) ho (I.freeC x c e)
 ·obtain ⟨e, n, ne, nf, d⟩ := I.pin p hp
  have nch : p.1 ∉ ch := fun z => (hch p.1 z).2.2.2 p hp rfl
  exact ⟨keep p.1 p.2 ne nf nch e n, free p.1 p.2 nch e n, ne, nf, d⟩
theorem Inv.un {t' : Nat} (I : Inv X pins σ H s) (u : Un X.fs [] H H' s.heap h') (hok : HOk X.prog X.w H' h') : Inv X pins σ H' { s with heap := h', toks := t' } := by
 obtain ⟨m, ⟨o, es, ep, ho, r⟩, _⟩ := id I.loc
 obtain ⟨sl, hL⟩ := u.any ho I.free (by simp)
 exact I.step (g' := s.gens) (d' := s.drawn) (ch := []) (fun _ z => nomatch z) (fun b o _ hb _ e n => u.keep b o e n hb (by simp)) (fun b o _ hb _ e n => u.slot b o e n hb (by simp)) (fun b o _ e n => u.free b o e n (by simp)) (fun b o _ e => u.there b o e (by simp)) u.tups u.frzs u.tbls (fun m' hm => by
  obtain ⟨o', es', ep', ho', r'⟩ := hm
  rw [ho] at ho'; cases ho'
  exact ⟨_, es', ep', hL, r'⟩) hok I.bare
theorem Inv.call {g' : Array GenState} {t' : Nat} {d' : Drawn} {ch : List Addr} (I : Inv X pins σ H s) (u : Un (frs X.stack) ch H H' s.heap h') (hok : HOk X.prog X.w H' h') (hg : AllBare g')
  (hch : ∀ b ∈ ch, (b ∈ X.ex ∨ X.s₀.heap.objs.size ≤ b) ∧ b ≠ X.env.locals ∧ (∀ x c, X.env.cells.lookup x = some c → c ≠ b) ∧ ∀ p ∈ X.pn ++ pins, p.1 ≠ b) :
  Inv X pins σ H' { s with heap := h', gens := g', drawn := d', toks := t' } := by
 obtain ⟨m, ⟨o, es, ep, ho, r⟩, _⟩ := id I.loc
 obtain ⟨sl, hL⟩ := u.any ho I.free fun z => (hch _ z).2.1 rfl
 exact I.step (ch := ch) hch (fun b o hL hb hc e n => u.keep b o e n (fun z => (List.mem_cons.mp (I.stkSub b z)).elim hL hb) hc) (fun b o _ _ hc e n => u.any e n hc) (fun b o hc e n => u.free b o e n hc) (fun b o hc e => u.there b o e hc) u.tups u.frzs u.tbls (fun m' hm => by
  obtain ⟨o', es', ep', ho', r'⟩ := hm
  rw [ho] at ho'; cases ho'
  exact ⟨_, es', ep', hL, r'⟩) hok hg
theorem Inv.turned {t' : Nat} {it : Addr} (I : Inv X pins σ H s) (k : ∀ b o, b ≠ it → s.heap.get? b = some o → h'.get? b = some o) (hn : H it = none) (hL : it ≠ X.env.locals)
  (h1 : it ∈ X.ex ∨ X.s₀.heap.objs.size ≤ it) (h2 : ∀ x c, X.env.cells.lookup x = some c → c ≠ it) (h3 : ∀ p ∈ X.pn ++ pins, p.1 ≠ it) : Inv X pins σ H { s with heap := h', toks := t' } := by
 have nit : ∀ b u, H b = some u → b ≠ it := fun b u e z => by rw [z, hn] at e; cases e
 refine I.step (g' := s.gens) (d' := s.drawn) (ch := [it]) (fun b hb => ?_) (fun b o _ _ hc e _ => k b o (fun z => hc (by simp [z])) e) (fun b o _ _ hc e _ => ⟨o.slots, k b o (fun z => hc (by simp [z])) e⟩) (fun _ _ _ _ n => n)
  (fun b o hc e => ⟨o, k b o (fun z => hc (by simp [z])) e⟩) (fun _ _ e => e) (fun _ _ _ e => e) (fun b ps e => ⟨#[], by rw [e]; simp⟩) (fun m hm => ?_) (fun b u e => ?_) I.bare
 ·have e : b = it := by simpa using hb
  subst e
  exact ⟨h1, hL, h2, h3⟩
 ·obtain ⟨o, es, ep, ho, r⟩ := hm
  exact ⟨o, es, ep, k _ o (Ne.symm hL) ho, r⟩
 ·refine (I.hok b u e).stay (fun c v hc q => k c v ?_ q) (fun _ q => q) fun _ _ q => q
  rcases hc with z | z
  ·rw [z]; exact nit b u e
  ·exact nit c _ z
theorem Inv.tok (I : Inv X pins σ H s) (t : Nat) : Inv X pins σ H { s with toks := t } := I.un (h' := s.heap) (t' := t) Un.refl I.hok
theorem Inv.kept {t' : Nat} (I : Inv X pins σ H s) (k : ∀ b u, s.heap.get? b = some u → h'.get? b = some u) : Inv X pins σ H { s with heap := h', toks := t' } := I.un (Un.kept k) (I.hok.kept k)
theorem Inv.laid {a : Addr} {o : HO} {t' : Nat} (I : Inv X pins σ H s) (k : ∀ b u, s.heap.get? b = some u → h'.get? b = some u) (hp : s.heap.objs.size ≤ a) (new : ObjOk X.prog X.w (upd H a o) h' a o) :
  Inv X pins σ (upd H a o) { s with heap := h', toks := t' } := I.un (Un.laid k hp (I.hok.fresh hp)) (I.hok.laid k hp new)
theorem Inv.write {x e : Addr} {o : HO} {t' : Nat} (I : Inv X pins σ H s) (mu : Mut (H x)) (he : e = x ∨ H e = some (.own x)) (k : ∀ b u, b ≠ e → s.heap.get? b = some u → h'.get? b = some u) (heo : ∃ u, h'.get? e = some u)
  (new : ObjOk X.prog X.w (upd H x o) h' x o) : Inv X pins σ (upd H x o) { s with heap := h', toks := t' } := I.un (Un.write mu he k heo) (I.hok.write mu he k heo new)
theorem Inv.pins_of {pins' : List (Addr × Obj)} (I : Inv X pins σ H s) (h : ∀ p ∈ pins', s.heap.get? p.1 = some p.2 ∧ H p.1 = none ∧ p.1 ≠ X.env.locals ∧ p.1 ∉ X.fs ∧ ∀ v, p.2.data ≠ .cell v) : Inv X pins' σ H s :=
 ⟨I.ok, I.os, I.bare, I.base, I.loc, I.cell, I.free, I.freeC, fun p hp => (List.mem_append.mp hp).elim (fun z => I.pin p (List.mem_append_left _ z)) (h p), I.hok, I.len⟩
theorem nodup_ix {N : List Str} (hN : N.Nodup) {i j : Nat} {x : Str} (a : N[i]? = some x) (b : N[j]? = some x) : i = j := by
 obtain ⟨h1, e1⟩ := List.getElem?_eq_some_iff.mp a
 obtain ⟨h2, e2⟩ := List.getElem?_eq_some_iff.mp b
 exact (List.getElem_inj hN).mp (e1.trans e2.symm)
theorem store_ok2 {M : Model} {A : Around} {E : Value → Shared → Prop} {i : Nat} {x : Str} {v : V} {u : Value} {Q : Unit → Shared → Prop} (I : Inv X pins σ H s) (hN : X.N.Nodup) (hi : X.N[i]? = some x) (hx : Loc X.env.scope x) (r : RelV v u)
  (h : ∀ s', Inv X pins (σ.set i (some v)) H s' → (∃ a, Heap.SameBut a s.heap s'.heap ∧ (a = X.env.locals ∨ X.env.cells.lookup x = some a)) → Q () s') (hf : X.fn x = true ∨ X.env.scope.names.lookup x = some .local := by first | exact .inl rfl | exact .inr rfl | assumption) : wpAny M A (storeName X.env x u) Q E s := by
 obtain ⟨m, hn, hl⟩ := id I.loc
 have hcls : (X.env.scope.kind == .class || (X.env.scope.kind == .module && X.env.locals != X.env.globals)) = false := by rw [I.ok.kind]; rfl
 have hiσ : i < σ.length := by rw [I.len]; exact (List.getElem?_eq_some_iff.mp hi).1
 have cne := I.cne
 have tracked : ∀ {a : Addr} {h' : Heap}, (∃ o, s.heap.get? a = some o ∧ H a = none) → Heap.SameBut a s.heap h' → HOk X.prog X.w H h' := fun {a h'} ha hs b ob e => by
  obtain ⟨_, _, hfree⟩ := ha
  refine (I.hok b ob e).stay (fun c w' hc q => (hs.2 c ?_).trans q) (fun _ q => q) fun _ _ q => q
  rintro rfl
  rcases hc with rfl | hc
  ·rw [hfree] at e; cases e
  ·rw [hfree] at hc; cases hc
 rcases hx with hk | hk
 ·refine wpAny_storeName_local hk hn (fun h' hn' hs => ?_) hcls
  obtain ⟨oL, _, _, hoL, _⟩ := id hn
  refine h _ ⟨I.ok, I.os, I.bare, ⟨fun b o e n hb hx => ?_, fun b o e n hb hx => ?_, I.base.free, fun b o e hx => ?_, I.base.tups, I.base.frzs, I.base.tbls⟩, ⟨_, hn', fun j y v' e1 e2 e3 => ?_⟩, fun y c e => ?_, I.free, I.freeC, fun p hp => ?_, tracked ⟨oL, hoL, I.free⟩ hs, by simpa using I.len⟩ ⟨_, hs, .inl rfl⟩
  ·exact (hs.2 b (Nat.ne_of_lt (Nat.lt_of_lt_of_le (Heap.lt_size e) I.ok.above))).trans (I.base.keep b o e n hb hx)
  ·obtain ⟨sl, e1⟩ := I.base.slot b o e n hb hx
   exact ⟨sl, (hs.2 b (Nat.ne_of_lt (Nat.lt_of_lt_of_le (Heap.lt_size e) I.ok.above))).trans e1⟩
  ·obtain ⟨o', e1⟩ := I.base.there b o e hx
   exact ⟨o', (hs.2 b (Nat.ne_of_lt (Nat.lt_of_lt_of_le (Heap.lt_size e) I.ok.above))).trans e1⟩
  ·by_cases hj : j = i
   ·subst hj
    rw [hi] at e1; cases e1
    rw [List.getElem?_set_self hiσ] at e2
    cases e2
    exact ⟨u, r, .inl ⟨hk, by simp⟩⟩
   ·rw [List.getElem?_set_ne (Ne.symm hj)] at e2
    obtain ⟨u', r', q⟩ := hl j y v' e1 e2 e3
    refine ⟨u', r', ?_⟩
    rcases q with ⟨k, e⟩ | ⟨k, c, e, z⟩
    ·refine .inl ⟨k, ?_⟩
     have : y ≠ x := fun e => hj (nodup_ix hN e1 (e ▸ hi))
     simp [this, e]
    ·exact .inr ⟨k, c, e, z.sameBut hs (cne y c e)⟩
  ·obtain ⟨w', z⟩ := I.cell y c e
   exact ⟨w', z.sameBut hs (cne y c e)⟩
  ·obtain ⟨e, n, ne, nf, d⟩ := I.pin p hp
   exact ⟨(hs.2 p.1 ne).trans e, n, ne, nf, d⟩
 ·have hfn : X.fn x = true := by
   rcases hf with z | z
   ·exact z
   ·rw [z] at hk; cases hk
  obtain ⟨c, hc⟩ := I.ok.has x (.inl hk)
  obtain ⟨w', z⟩ := I.cell x c hc
  refine wpAny_storeName_cell I.ok.kind hk hc z (fun h' hc' hs => ?_)
  obtain ⟨oc, hoc, hocd⟩ := id z
  refine h { s with heap := h' } ⟨I.ok, I.os, I.bare, ⟨fun b o e n hb hx => ?_, fun b o e n hb hx => ?_, I.base.free, fun b o e hx => ?_, I.base.tups, I.base.frzs, I.base.tbls⟩, ⟨m, hn.sameBut hs (Ne.symm (cne x c hc)), fun j y v' e1 e2 e3 => ?_⟩, fun y c' e => ?_, I.free, I.freeC, fun p hp => ?_, tracked ⟨oc, hoc, I.freeC x c hc⟩ hs, by simpa using I.len⟩ ⟨c, hs, .inr hc⟩
  ·exact (hs.2 b (Nat.ne_of_lt (Nat.lt_of_lt_of_le (Heap.lt_size e) (I.ok.cab x c hfn hc)))).trans (I.base.keep b o e n hb hx)
  ·obtain ⟨sl, e1⟩ := I.base.slot b o e n hb hx
   exact ⟨sl, (hs.2 b (Nat.ne_of_lt (Nat.lt_of_lt_of_le (Heap.lt_size e) (I.ok.cab x c hfn hc)))).trans e1⟩
  ·obtain ⟨o', e1⟩ := I.base.there b o e hx
   exact ⟨o', (hs.2 b (Nat.ne_of_lt (Nat.lt_of_lt_of_le (Heap.lt_size e) (I.ok.cab x c hfn hc)))).trans e1⟩
  ·by_cases hj : j = i
   ·subst hj
    rw [hi] at e1; cases e1
    rw [List.getElem?_set_self hiσ] at e2
    cases e2
    exact ⟨u, r, .inr ⟨.inl hk, c, hc, hc'⟩⟩
   ·rw [List.getElem?_set_ne (Ne.symm hj)] at e2
    obtain ⟨u', r', q⟩ := hl j y v' e1 e2 e3
    refine ⟨u', r', ?_⟩
    rcases q with q | ⟨k, c', e, z'⟩
    ·exact .inl q
    ·refine .inr ⟨k, c', e, z'.sameBut hs ?_⟩
     rintro rfl
     exact hj (nodup_ix hN e1 (I.ok.inj _ _ _ e hc ▸ hi))
  ·by_cases hcc : c' = c
   ·subst hcc; exact ⟨_, hc'⟩
   ·obtain ⟨w2, z2⟩ := I.cell y c' e
    exact ⟨w2, z2.sameBut hs hcc⟩
  ·obtain ⟨e, n, ne, nf, d⟩ := I.pin p hp
   refine ⟨(hs.2 p.1 ?_).trans e, n, ne, nf, d⟩
   intro q
   rw [q, hoc] at e
   have q' : oc = p.2 := Option.some.inj e
   exact d w' (by rw [← q']; exact hocd)
theorem store_ok {M : Model} {A : Around} {E : Value → Shared → Prop} {i : Nat} {x : Str} {v : V} {u : Value} {Q : Unit → Shared → Prop} (I : Inv X pins σ H s) (hN : X.N.Nodup) (hi : X.N[i]? = some x) (hx : Loc X.env.scope x) (r : RelV v u)
  (h : ∀ s', Inv X pins (σ.set i (some v)) H s' → Q () s') (hf : X.fn x = true ∨ X.env.scope.names.lookup x = some .local := by first | exact .inl rfl | exact .inr rfl | assumption) : wpAny M A (storeName X.env x u) Q E s :=
 store_ok2 I hN hi hx r (fun s' I' _ => h s' I') hf
theorem Inv.call' {s' : Shared} {ch : List Addr} (I : Inv X pins σ H s) (ho : s'.os = s.os) (u : Un (frs X.stack) ch H H' s.heap s'.heap) (hok : HOk X.prog X.w H' s'.heap) (hg : AllBare s'.gens)
  (hch : ∀ b ∈ ch, (b ∈ X.ex ∨ X.s₀.heap.objs.size ≤ b) ∧ b ≠ X.env.locals ∧ (∀ x c, X.env.cells.lookup x = some c → c ≠ b) ∧ ∀ p ∈ X.pn ++ pins, p.1 ≠ b) : Inv X pins σ H' s' := by
 obtain ⟨h', g', d', t', o'⟩ := s'
 have e : o' = s.os := ho
 subst e
 exact I.call (g' := g') (t' := t') (d' := d') u hok hg hch
end
abbrev XK := Value → Option Addr → Hp → Prop
abbrev St := List (Option V)
abbrev VK := V → Hp → Prop
abbrev TE := St → Hp → VK → Prop
abbrev TT := St → Hp → (Bool → Hp → Prop) → Prop
abbrev TA := St → Hp → (List V → Hp → Prop) → Prop
structure Ends where
 nx : St → Hp → Prop
 rt : VK
 bk : St → Hp → Prop := fun _ _ => False
 ct : St → Hp → Prop := fun _ _ => False
abbrev TS := Ends → St → Hp → Prop
def EP (X : Cx) (pins : List (Addr × Obj)) (σ : St) (Q : VK) (u : Value) (s' : Shared) : Prop := ∃ v H', Inv X pins σ H' s' ∧ RelV v u ∧ Q v H'
def TP (X : Cx) (pins : List (Addr × Obj)) (σ : St) (Q : Bool → Hp → Prop) (b : Bool) (s' : Shared) : Prop := ∃ H', Inv X pins σ H' s' ∧ Q b H'
def AP (X : Cx) (pins : List (Addr × Obj)) (σ : St) (Q : List V → Hp → Prop) (us : List Value) (s' : Shared) : Prop := ∃ vs H', Inv X pins σ H' s' ∧ Vals vs us ∧ Q vs H'
def SP (X : Cx) (pins : List (Addr × Obj)) (D : Ends) (f : Flow) (s' : Shared) : Prop :=
 match f with
 | .next => ∃ σ' H', Inv X pins σ' H' s' ∧ D.nx σ' H'
 | .brk => ∃ σ' H', Inv X pins σ' H' s' ∧ D.bk σ' H'
 | .cont => ∃ σ' H', Inv X pins σ' H' s' ∧ D.ct σ' H'
 | .ret u => ∃ v σ' H', Inv X pins σ' H' s' ∧ RelV v u ∧ D.rt v H'
def PE (X : Cx) (e : Expr) (t : TE) : Prop :=
 ∀ (pins : List (Addr × Obj)) (s : Shared) (σ : St) (H : Hp) (Q : VK), Inv X pins σ H s → t σ H Q → wpAny (model X.prog X.w) X.A (eval e X.env) (EP X pins σ Q) X.xe s
def PT (X : Cx) (e : Expr) (t : TT) : Prop :=
 ∀ (pins : List (Addr × Obj)) (s : Shared) (σ : St) (H : Hp) (Q : Bool → Hp → Prop), Inv X pins σ H s → t σ H Q → wpAny (model X.prog X.w) X.A (isTrue e X.env (eval e X.env)) (TP X pins σ Q) X.xe s
def PW (X : Cx) (e : Expr) (t : TT) : Prop :=
 ∀ (whole : Sem Value) (pins : List (Addr × Obj)) (s : Shared) (σ : St) (H : Hp) (Q : Bool → Hp → Prop), Inv X pins σ H s → t σ H Q → wpAny (model X.prog X.w) X.A (isTrue e X.env whole) (TP X pins σ Q) X.xe s
theorem PW.pt {X : Cx} {e : Expr} {t : TT} (h : PW X e t) : PT X e t := h _
def PA (X : Cx) (es : List Expr) (t : TA) : Prop :=
 ∀ (pos : Pos) (pins : List (Addr × Obj)) (s : Shared) (σ : St) (H : Hp) (Q : List V → Hp → Prop), Inv X pins σ H s → t σ H Q → wpAny (model X.prog X.w) X.A (spliced (backTo pos (starEach es X.env))) (AP X pins σ Q) X.xe s
def PS (X : Cx) (st : Stmt) (t : TS) : Prop :=
 ∀ (pins : List (Addr × Obj)) (s : Shared) (σ : St) (H : Hp) (D : Ends), Inv X pins σ H s → t D σ H → wpAny (model X.prog X.w) X.A (exec st X.env) (SP X pins D) X.xe s
def PSs (X : Cx) (st : List Stmt) (t : TS) : Prop :=
 ∀ (pins : List (Addr × Obj)) (s : Shared) (σ : St) (H : Hp) (D : Ends), Inv X pins σ H s → t D σ H → wpAny (model X.prog X.w) X.A (execs st X.env) (SP X pins D) X.xe s
theorem thn {α : Type} {t : Sem α} {Q Q' : α → Shared → Prop} {M : Model} {A : Around} {E : Value → Shared → Prop} {s : Shared} (h : wpAny M A t Q E s) (hQ : ∀ a s, Q a s → Q' a s) : wpAny M A t Q' E s := wpAny_mono h hQ fun _ _ x => x
end L2
namespace L2
open PySem PySem.Spec PyProof.Rows
section
variable {X : Cx}
def tVar (i : Nat) : TE := fun σ H Q => ∃ v, σ[i]? = some (some v) ∧ Q v H
def tC (v : V) : TE := fun _ H Q => Q v H
theorem pe_var {i : Nat} {x : Str} {pos : Pos} (hN : X.N[i]? = some x) (hv : Vis X.env.scope x) (hd : (x == ("__debug__" : Str)) = false := by decide) (hcd : (x == ("__classdict__" : Str)) = false := by decide) : PE X (.Name x pos) (tVar i) := by
 intro pins s σ H Q I h
 obtain ⟨v, e, h⟩ := h
 obtain ⟨m, hn, hl⟩ := I.loc
 obtain ⟨u, r, l⟩ := hl i x v hN e hv
 have fin : EP X pins σ Q u s := ⟨v, H, I, r, h⟩
 rcases l with ⟨hk, hm⟩ | ⟨hk, c, hc, hcell⟩
 ·exact wpAny_Name (wpAny_loadName_local I.ok.kind hk hn hm fin) hd
 ·rcases hk with hk | hk
  ·exact wpAny_Name (wpAny_loadName_cell I.ok.kind hk hc hcell fin) hd
  ·exact wpAny_Name (wpAny_loadName_free I.ok.kind hk hc hcell fin hcd) hd
theorem pe_int {i j pos} : PE X (.Constant (.int i) j pos) (tC (.int i)) := fun _ _ _ H _ I h => wpAny_Constant_int ⟨.int i, H, I.tok _, ⟨_, rfl⟩, h⟩
theorem pe_bl {b j pos} : PE X (.Constant (.bool b) j pos) (tC (.bl b)) := fun _ _ _ H _ I h => Constant_bool ⟨.bl b, H, I, rfl, h⟩
theorem pe_non {j pos} : PE X (.Constant .none j pos) (tC .non) := fun _ _ _ H _ I h => Constant_none ⟨.non, H, I, rfl, h⟩
theorem pe_str {x j pos} : PE X (.Constant (.str x) j pos) (tC (.str x)) := fun _ _ _ H _ I h => Calls.Constant_str ⟨.str x, H, I.tok _, ⟨_, rfl⟩, h⟩
def Gl (X : Cx) (x : Str) : Prop := X.env.kindOf x = some .globalImplicit
theorem ld_glob {E : Value → Shared → Prop} {pins : List (Addr × Obj)} {s : Shared} {σ : St} {H : Hp} {x : Str} {u : Value} {pos : Pos} {Q : Value → Shared → Prop} (I : Inv X pins σ H s) (hg : Gl X x) (hm : X.mg x = some u) (h : Q u s)
  (hd : (x == ("__debug__" : Str)) = false := by decide) : wpAny (model X.prog X.w) X.A (eval (.Name x pos) X.env) Q E s :=
 Calls.Name_function_global I.ok.kind hg (Calls.loadGlobal_global (by rw [I.ok.glob]; exact I.mod.glob.keeps I.bk) hm h) hd
theorem ld_blt {E : Value → Shared → Prop} {pins : List (Addr × Obj)} {s : Shared} {σ : St} {H : Hp} {x : Str} {u : Value} {pos : Pos} {Q : Value → Shared → Prop} (I : Inv X pins σ H s) (hg : Gl X x) (hm : X.mg x = none) (hv : bootBuiltins x = some u) (h : Q u s)
  (hn : x ≠ "__name__" := by decide) (hd : (x == ("__debug__" : Str)) = false := by decide) : wpAny (model X.prog X.w) X.A (eval (.Name x pos) X.env) Q E s := by
 obtain ⟨mb, h1, h2⟩ := I.mod.blt
 exact Calls.Name_function_global I.ok.kind hg (Calls.loadGlobal_builtin (by rw [I.ok.glob]; exact I.mod.glob.keeps I.bk) hm (by rw [I.ok.blt]; exact h1.keeps I.bk) ((h2 x hn).trans hv) h) hd
theorem pe_glob {x : Str} {v : V} {u : Value} {pos : Pos} (hg : Gl X x) (hm : X.mg x = some u) (r : RelV v u) (hd : (x == ("__debug__" : Str)) = false := by decide) : PE X (.Name x pos) (tC v) :=
 fun _ _ _ H _ I h => ld_glob I hg hm ⟨v, H, I, r, h⟩ hd
theorem pe_bltn {x : Str} {v : V} {u : Value} {pos : Pos} (hg : Gl X x) (hm : X.mg x = none) (hv : bootBuiltins x = some u) (r : RelV v u) (hn : x ≠ "__name__" := by decide) (hd : (x == ("__debug__" : Str)) = false := by decide) : PE X (.Name x pos) (tC v) :=
 fun _ _ _ H _ I h => ld_blt I hg hm hv ⟨v, H, I, r, h⟩ hn hd
variable {a b : Expr} {ta tb : TE} {pos : Pos}
def PC (X : Cx) (op : CmpOp) (a b : Expr) (t : TE) : Prop :=
 ∀ (pins : List (Addr × Obj)) (s : Shared) (σ : St) (H : Hp) (Q : VK), Inv X pins σ H s → t σ H Q →
  wpAny (model X.prog X.w) X.A (eval a X.env) (fun v s₁ => wpAny (model X.prog X.w) X.A (eval b X.env) (fun u s₂ => wpAny (model X.prog X.w) X.A (compareOp op v u) (EP X pins σ Q) X.xe s₂) X.xe s₁) X.xe s
def tB (t : TE) : TT := fun σ H Q => t σ H fun x H1 => ∃ c, x = .bl c ∧ Q c H1
theorem pt_cmp {op : CmpOp} {t : TE} (h : PC X op a b t) (h1 : behindInMarks op b = false := by first | exact nobehind _ (by decide) (by decide) | rfl) : PT X (.Compare a [op] [b] pos) (tB t) := by
 intro pins s σ H Q I hw
 refine wpAny_isTrue_Compare1 (thn (h pins s σ H _ I hw) fun v s1 h1 => thn h1 fun u s2 h2 => thn h2 fun c s3 ⟨x, H1, I1, r1, q1⟩ => ?_) h1
 obtain ⟨d, rfl, q⟩ := q1
 cases r1
 exact wpAny_truthy_bool ⟨H1, I1, q⟩
theorem pt_val {e : Expr} {t : TE} (h : PE X e t) (he : ∀ whole, isTrue e X.env whole = (do let v ← whole; standAt e.pos; holding [v] (truthy v)) := by intro _; rfl) : PT X e (tB t) := by
 intro pins s σ H Q I hw
 refine isTrue_plain (thn (h pins s σ H _ I hw) fun v s1 ⟨x, H1, I1, r1, q1⟩ => ?_) (he _)
 obtain ⟨d, rfl, q⟩ := q1
 cases r1
 exact wpAny_truthy_bool ⟨H1, I1, q⟩
variable {tA tB' : TT} {rest : List Expr}
def tAnd (t u : TT) : TT := fun σ H Q => t σ H fun c H1 => if c = true then u σ H1 Q else Q false H1
def tOr (t u : TT) : TT := fun σ H Q => t σ H fun c H1 => if c = true then Q true H1 else u σ H1 Q
def tNot (t : TT) : TT := fun σ H Q => t σ H fun c H1 => Q (!c) H1
theorem pw_and1 (ha : PT X a tA) : PW X (.BoolOp .And [a] pos) tA := by
 intro wh pins s σ H Q I h
 refine isTrue_and (thn (ha pins s σ H Q I h) fun c s1 e => ?_)
 cases c with
 | true => exact isTrue_and_nil e
 | false => exact e
theorem pw_or1 (ha : PT X a tA) : PW X (.BoolOp .Or [a] pos) tA := by
 intro wh pins s σ H Q I h
 refine isTrue_or (thn (ha pins s σ H Q I h) fun c s1 e => ?_)
 cases c with
 | false => exact isTrue_or_nil e
 | true => exact e
theorem pw_and (ha : PT X a tA) (hb : PW X (.BoolOp .And (b :: rest) pos) tB') : PW X (.BoolOp .And (a :: b :: rest) pos) (tAnd tA tB') := by
 intro wh pins s σ H Q I h
 refine isTrue_and (thn (ha pins s σ H _ I h) fun c s1 ⟨H1, I1, q1⟩ => ?_)
 cases c with
 | true => exact hb wh pins s1 σ H1 Q I1 q1
 | false => exact ⟨H1, I1, q1⟩
theorem pw_or (ha : PT X a tA) (hb : PW X (.BoolOp .Or (b :: rest) pos) tB') : PW X (.BoolOp .Or (a :: b :: rest) pos) (tOr tA tB') := by
 intro wh pins s σ H Q I h
 refine isTrue_or (thn (ha pins s σ H _ I h) fun c s1 ⟨H1, I1, q1⟩ => ?_)
 cases c with
 | true => exact ⟨H1, I1, q1⟩
 | false => exact hb wh pins s1 σ H1 Q I1 q1
theorem pt_not (ha : PT X a tA) : PT X (.UnaryOp .Not a pos) (tNot tA) := by
 intro pins s σ H Q I h
 exact isTrue_not (ha pins s σ H (fun c H1 => Q (!c) H1) I h)
def tAndV (ta tb : TE) : TE := fun σ H Q => ta σ H fun x H1 => ∃ c, x = .bl c ∧ if c = true then tb σ H1 Q else Q (.bl false) H1
def tNotV (ta : TE) : TE := fun σ H Q => ta σ H fun x H1 => ∃ c, x = .bl c ∧ Q (.bl (!c)) H1
theorem pe_one {op} {t : TE} (h : PE X a t) : PE X (.BoolOp op [a] pos) t := fun pins s σ H Q I hw => BoolOp_one (h pins s σ H Q I hw)
theorem pe_and (ha : PE X a ta) (hb : PE X (.BoolOp .And (b :: rest) pos) tb) : PE X (.BoolOp .And (a :: b :: rest) pos) (tAndV ta tb) := by
 intro pins s σ H Q I h
 refine BoolOp_and (thn (ha pins s σ H _ I h) fun v s1 ⟨x, H1, I1, r1, q1⟩ => ?_)
 obtain ⟨c, rfl, q1⟩ := q1
 cases r1
 refine wpAny_truthy_bool ?_
 cases c with
 | true => exact hb pins s1 σ H1 Q I1 q1
 | false => exact ⟨.bl false, H1, I1, rfl, q1⟩
theorem pe_not (ha : PE X a ta) : PE X (.UnaryOp .Not a pos) (tNotV ta) := by
 intro pins s σ H Q I h
 refine UnaryOp_ (thn (ha pins s σ H _ I h) fun v s1 ⟨x, H1, I1, r1, q1⟩ => ?_)
 obtain ⟨c, rfl, q1⟩ := q1
 cases r1
 exact not_of (wpAny_truthy_bool ⟨.bl (!c), H1, I1, rfl, q1⟩)
def tIf (t : TT) (ta tb : TE) : TE := fun σ H Q => t σ H fun c H1 => if c = true then ta σ H1 Q else tb σ H1 Q
theorem pe_ifExp {c : Expr} (hc : PT X c tA) (ha : PE X a ta) (hb : PE X b tb) : PE X (.IfExp c a b pos) (tIf tA ta tb) := by
 intro pins s σ H Q I h
 refine wpAny_IfExp (thn (hc pins s σ H _ I h) fun d s1 ⟨H1, I1, q1⟩ => ?_)
 cases d with
 | true => exact ha pins s1 σ H1 Q I1 q1
 | false => exact hb pins s1 σ H1 Q I1 q1
end
end L2
namespace L2
open PySem PySem.Spec PyProof.Rows
def SqL (K : PySem.W.Frag) (H : Hp) (a : Addr) (xs : List V) : Prop :=
 Rd H a (.lst xs) ∨
  ∃ (o : Obj) (its : Array Value) (n : Nat), K.lookup a = some o ∧ o.cls = .type "list" ∧ o.dict = none ∧ o.data = .seq its n ∧ its.size ≤ sizeLine ∧ Vals xs its.toList
def SqT (K : PySem.W.Frag) (H : Hp) (a : Addr) (xs : List V) : Prop :=
 Rd H a (.tup xs) ∨
  ∃ (o : Obj) (its : Array Value) (n : Nat), K.lookup a = some o ∧ o.cls = .type "tuple" ∧ o.data = .seq its n ∧ its.size ≤ sizeLine ∧ Vals xs its.toList
def absV : Value → Option V
 | .none => some .non
 | .bool b => some (.bl b)
 | .int i _ => some (.int i)
 | .str x _ => some (.str x)
 | .bytes b _ => some (.byt b)
 | .float b _ => some (.flt b)
 | .ref a => some (.ref a)
 | .type n => some (.ty n)
 | _ => none
theorem RelV.abs {x : V} {u : Value} (r : RelV x u) : absV u = some x := by
 cases x with
 | non => cases r; rfl
 | bl _ => cases r; rfl
 | int _ => obtain ⟨t, rfl⟩ := r; rfl
 | str _ => obtain ⟨t, rfl⟩ := r; rfl
 | byt _ => obtain ⟨t, rfl⟩ := r; rfl
 | flt _ => obtain ⟨t, rfl⟩ := r; rfl
 | ref _ => cases r; rfl
 | ty _ => cases r; rfl
theorem RelV.inj {x y : V} {u : Value} (r : RelV x u) (q : RelV y u) : x = y := Option.some.inj (r.abs.symm.trans q.abs)
theorem Vals.inj : ∀ {xs ys : List V} {us : List Value}, Vals xs us → Vals ys us → xs = ys
 | _, _, _, .nil, .nil => rfl
 | _, _, _, .cons r t, .cons r' t' => by rw [r.inj r', Vals.inj t t']
section
variable {X : Cx} {pins : List (Addr × Obj)} {σ : St} {H : Hp} {s : Shared} {a : Addr} {xs ys : List V}
theorem SqL.of {K : PySem.W.Frag} (h : H a = some (.lst xs)) : SqL K H a xs := .inl (.inl h)
theorem SqT.of {K : PySem.W.Frag} (h : H a = some (.tup xs)) : SqT K H a xs := .inl (.inl h)
theorem Inv.list (I : Inv X pins σ H s) (h : SqL X.K H a xs) : ∃ its : List Value, Vals xs its ∧ PlainL s.heap a its.toArray ∧ xs.length ≤ sizeLine := by
 rcases h with h | ⟨o, its, n, hk, hc, hd, hs, hz, r⟩
 ·obtain ⟨z, its, n, r, e⟩ := h.ok I.hok
  exact ⟨its, r, ⟨_, n, e, rfl, rfl, rfl⟩, z⟩
 ·refine ⟨its.toList, r, ⟨o, n, I.kIn a o hk, hc, hd, by simpa using hs⟩, ?_⟩
  have e := r.length
  simp only [Array.length_toList] at e
  omega
theorem Inv.tuple (I : Inv X pins σ H s) (h : SqT X.K H a xs) : ∃ its : List Value, Vals xs its ∧ IsTup s.heap a its.toArray ∧ xs.length ≤ sizeLine := by
 rcases h with h | ⟨o, its, n, hk, hc, hs, hz, r⟩
 ·obtain ⟨z, its, r, p⟩ := h.ok I.hok
  exact ⟨its, r, p, z⟩
 ·refine ⟨its.toList, r, ⟨o, I.kIn a o hk, hc, n, by simpa using hs⟩, ?_⟩
  have e := r.length
  simp only [Array.length_toList] at e
  omega
theorem Inv.list_inj (I : Inv X pins σ H s) (h : SqL X.K H a xs) (h' : SqL X.K H a ys) : xs = ys := by
 obtain ⟨its, r, ⟨o, n, e, _, _, d⟩, _⟩ := I.list h
 obtain ⟨its', r', ⟨o', n', e', _, _, d'⟩, _⟩ := I.list h'
 rw [e] at e'; cases e'
 rw [d] at d'
 injection d' with d1 _
 have : its = its' := by simpa using congrArg Array.toList d1
 subst this
 exact r.inj r'
end
abbrev Cx.wish (X : Cx) (E : Value → Shared → Prop) : Cx := { X with xe := E }
abbrev Cx.nox (X : Cx) : Cx := X.wish fun _ _ => False
theorem Cx.Ok.wish {X : Cx} (ok : X.Ok) (E : Value → Shared → Prop) : (X.wish E).Ok :=
 ⟨ok.mod, ok.kind, ok.glob, ok.blt, ok.above, ok.inj, ok.has, ok.cab, ok.hd, ok.frames, ok.stk, ok.exf, ok.bs, ok.bsz, ok.noex, ok.exfs, ok.funs, ok.frf⟩
theorem Cx.Ok.unwish {X : Cx} {E : Value → Shared → Prop} (ok : (X.wish E).Ok) : X.Ok :=
 ⟨ok.mod, ok.kind, ok.glob, ok.blt, ok.above, ok.inj, ok.has, ok.cab, ok.hd, ok.frames, ok.stk, ok.exf, ok.bs, ok.bsz, ok.noex, ok.exfs, ok.funs, ok.frf⟩
section
variable {X : Cx} {pins : List (Addr × Obj)} {σ : St} {H : Hp} {s : Shared} {E : Value → Shared → Prop}
theorem Inv.wish (I : Inv X pins σ H s) (E : Value → Shared → Prop) : Inv (X.wish E) pins σ H s := ⟨I.ok.wish E, I.os, I.bare, I.base, I.loc, I.cell, I.free, I.freeC, I.pin, I.hok, I.len⟩
theorem Inv.unwish (I : Inv (X.wish E) pins σ H s) : Inv X pins σ H s := ⟨I.ok.unwish, I.os, I.bare, I.base, I.loc, I.cell, I.free, I.freeC, I.pin, I.hok, I.len⟩
theorem SP.unwish {D : Ends} {f : Flow} {s' : Shared} (h : SP (X.wish E) pins D f s') : SP X pins D f s' := by
 cases f with
 | next => obtain ⟨σ', H', I, q⟩ := h; exact ⟨σ', H', I.unwish, q⟩
 | brk => obtain ⟨σ', H', I, q⟩ := h; exact ⟨σ', H', I.unwish, q⟩
 | cont => obtain ⟨σ', H', I, q⟩ := h; exact ⟨σ', H', I.unwish, q⟩
 | ret u => obtain ⟨v, σ', H', I, r, q⟩ := h; exact ⟨v, σ', H', I.unwish, r, q⟩
theorem PSs.nox {st : List Stmt} {t : TS} (h : PSs X.nox st t) : PSs X st t := fun pins s σ H D I hw =>
 wpAny_mono (h pins s σ H D (I.wish _) hw) (fun _ _ q => q.unwish) fun _ _ z => False.elim z
end
section
variable {X : Cx} {st : Stmt} {rest : List Stmt} {t u : TS} {e : Expr} {te : TE} {pos : Pos}
def tNext : TS := fun D σ H => D.nx σ H
def tSeq (t u : TS) : TS := fun D σ H => t { D with nx := u D } σ H
theorem pss_nil : PSs X [] tNext := fun _ _ σ H _ I h => wpAny_execs_nil ⟨σ, H, I, h⟩
theorem pss_cons (h1 : PS X st t) (h2 : PSs X rest u) : PSs X (st :: rest) (tSeq t u) := by
 intro pins s σ H D I h
 refine wpAny_execs_cons (thn (h1 pins s σ H { D with nx := u D } I h) fun f s1 q => ?_)
 cases f with
 | next =>
  obtain ⟨σ', H', I', q⟩ := q
  exact h2 pins s1 σ' H' D I' q
 | ret v => exact q
 | brk => exact q
 | cont => exact q
theorem pss_one (h1 : PS X st t) : PSs X [st] t := by
 intro pins s σ H D I h
 refine wpAny_execs_cons (thn (h1 pins s σ H D I h) fun f s1 q => ?_)
 cases f with
 | next => exact wpAny_execs_nil q
 | ret v => exact q
 | brk => exact q
 | cont => exact q
theorem Inv.quiet {pins : List (Addr × Obj)} {σ : St} {H : Hp} {s : Shared} (I : Inv X pins σ H s) : interactive X.env = false := by simp [interactive, I.ok.kind]
def tDrop (te : TE) : TS := fun D σ H => te σ H fun _ H1 => D.nx σ H1
theorem ps_expr (he : PE X e te) (hs : swapsWith e none pos.line X.env = pure false := by rfl) : PS X (.Expr e pos) (tDrop te) := by
 intro pins s σ H D I h
 exact wpAny_Expr_any (thn (he pins s σ H _ I h) fun v s1 ⟨x, H1, I1, r1, q1⟩ => ⟨σ, H1, I1, q1⟩) I.quiet hs
def tRet (te : TE) : TS := fun D σ H => te σ H D.rt
theorem ps_ret (he : PE X e te) : PS X (.Return (some e) pos) (tRet te) := by
 intro pins s σ H D I h
 exact wpAny_Return_some (thn (he pins s σ H _ I h) fun v s1 ⟨x, H1, I1, r1, q1⟩ => ⟨x, σ, H1, I1, r1, q1⟩)
def tIfS (c : TT) (t u : TS) : TS := fun D σ H => c σ H fun b H1 => if b = true then t D σ H1 else u D σ H1
theorem ps_if {c : Expr} {a b : List Stmt} {tc : TT} (hc : PT X c tc) (ha : PSs X a t) (hb : PSs X b u) : PS X (.If c a b pos) (tIfS tc t u) := by
 intro pins s σ H D I h
 refine wpAny_If (thn (hc pins s σ H _ I h) fun d s1 ⟨H1, I1, q1⟩ => ?_)
 cases d with
 | true => exact ha pins s1 σ H1 D I1 q1
 | false => exact hb pins s1 σ H1 D I1 q1
end
abbrev TG := V → St → Hp → (St → Hp → Prop) → Prop
abbrev TGs := List V → St → Hp → (St → Hp → Prop) → Prop
def PG (X : Cx) (target : Expr) (t : TG) : Prop :=
 ∀ (pins : List (Addr × Obj)) (s : Shared) (σ : St) (H : Hp) (v : V) (u : Value) (Q : St → Hp → Prop), Inv X pins σ H s → RelV v u → t v σ H Q →
  wpAny (model X.prog X.w) X.A (assign target X.env u) (fun _ s' => ∃ σ' H', Inv X pins σ' H' s' ∧ Q σ' H') X.xe s
def PGs (X : Cx) (ts : List Expr) (t : TGs) : Prop :=
 ∀ (pins : List (Addr × Obj)) (s : Shared) (σ : St) (H : Hp) (vs : List V) (us : List Value) (Q : St → Hp → Prop), Inv X pins σ H s → Vals vs us → t vs σ H Q →
  wpAny (model X.prog X.w) X.A (assignInOrder ((assignEach ts X.env).map (·.2)) us) (fun _ s' => ∃ σ' H', Inv X pins σ' H' s' ∧ Q σ' H') X.xe s
abbrev TSet := V → V → V → Hp → (Hp → Prop) → Prop
def PSet (X : Cx) (t : TSet) : Prop :=
 ∀ (pins : List (Addr × Obj)) (s : Shared) (σ : St) (H : Hp) (o i v : V) (ov iv u : Value) (Q : Hp → Prop), Inv X pins σ H s → RelV o ov → RelV i iv → RelV v u → t o i v H Q →
  wpAny (model X.prog X.w) X.A (setItem ov iv u) (fun _ s' => ∃ H', Inv X pins σ H' s' ∧ Q H') X.xe s
section
variable {X : Cx} {pos : Pos}
def gName (i : Nat) : TG := fun v σ H Q => Q (σ.set i (some v)) H
theorem pg_name {i : Nat} {x : Str} (hN : X.N.Nodup) (hi : X.N[i]? = some x) (hx : Loc X.env.scope x) (hf : X.fn x = true ∨ X.env.scope.names.lookup x = some .local := by first | exact .inl rfl | exact .inr rfl | assumption) : PG X (.Name x pos) (gName i) := by
 intro pins s σ H v u Q I r h
 exact wpAny_assign_Name (store_ok I hN hi hx r (fun s' I' => ⟨_, H, I', h⟩) hf)
def gNil : TGs := fun vs σ H Q => vs = [] ∧ Q σ H
def gCons (t : TG) (u : TGs) : TGs := fun vs σ H Q => ∃ v r, vs = v :: r ∧ t v σ H fun σ' H' => u r σ' H' Q
theorem pgs_nil : PGs X [] gNil := by
 intro pins s σ H vs us Q I r h
 obtain ⟨e, h⟩ := h
 subst e
 cases r
 exact assignInOrder_nil ⟨σ, H, I, h⟩
theorem pgs_cons {e : Expr} {es : List Expr} {t : TG} {u : TGs} (h1 : PG X e t) (h2 : PGs X es u)
  (hs : (assignEach (e :: es) X.env).map (·.2) = assign e X.env :: (assignEach es X.env).map (·.2) := by rfl) : PGs X (e :: es) (gCons t u) := by
 intro pins s σ H vs us Q I r h
 obtain ⟨v, vr, e1, h⟩ := h
 subst e1
 cases r with
 | cons r rr =>
  rw [hs]
  refine assignInOrder_cons (thn (h1 pins s σ H _ _ _ I r h) fun _ s1 ⟨σ1, H1, I1, q1⟩ => ?_)
  exact h2 pins s1 σ1 H1 _ _ Q I1 rr q1
def gTup (K : PySem.W.Frag) (n : Nat) (t : TGs) : TG := fun v σ H Q => ∃ a xs, v = .ref a ∧ SqT K H a xs ∧ xs.length = n ∧ t xs σ H Q
theorem pg_tup {es : List Expr} {k : Nat} {t : TGs} {n : Nat} (hc : X.calm = true) (h : PGs X es t)
  (hn : (assignEach es X.env).length = n := by rfl) (hst : (assignEach es X.env).findIdx? (·.1) = none := by rfl) : PG X (.Tuple es k pos) (gTup X.K n t) := by
 intro pins s σ H v u Q I r hw
 obtain ⟨a, xs, e1, hq, hl, hw⟩ := hw
 subst e1
 cases r
 obtain ⟨its, rv, ht, hz⟩ := I.tuple hq
 refine assign_Tuple_tuple (I.ok.hd hc) ht (by simp [hn, ← hl, rv.length]) hst fun h' hx => ?_
 have I1 : Inv X pins σ H { s with heap := h' } := I.kept (t' := s.toks) fun b o e => hx b o (Nat.ne_of_lt (Heap.lt_size e)) e
 exact h pins _ σ H xs _ Q I1 (by simpa using rv) hw
def gSub (to ti : TE) (t : TSet) : TG := fun v σ H Q => to σ H fun o H1 => ti σ H1 fun i H2 => t o i v H2 fun H3 => Q σ H3
theorem pg_sub {o i : Expr} {to ti : TE} {t : TSet} (ho : PE X o to) (hi : PE X i ti) (hs : PSet X t)
  (ha : ∀ v, assign (.Subscript o i pos) X.env v = (do
   let ov ← holding [v] (eval o X.env)
   let iv ← holding [v, ov] (eval i X.env)
   standAt pos
   holding [v, ov, iv] (setItem ov iv v)
   release [v, ov, iv] []) := by intro _; rfl) : PG X (.Subscript o i pos) (gSub to ti t) := by
 intro pins s σ H v u Q I r h
 rw [ha]
 refine wpAny_bind (wpAny_holding (thn (ho pins s σ H _ I h) fun ov s1 ⟨x, H1, I1, r1, q1⟩ => ?_))
 refine wpAny_bind (wpAny_holding (thn (hi pins s1 σ H1 _ I1 q1) fun iv s2 ⟨y, H2, I2, r2, q2⟩ => ?_))
 refine wpAny_bind (wpAny_standAt (wpAny_bind (wpAny_holding (thn (hs pins s2 σ H2 x y v ov iv u _ I2 r1 r2 r q2) fun _ s3 ⟨H3, I3, q3⟩ => ?_))))
 exact wpAny_release ⟨σ, H3, I3, q3⟩
def tAsg (te : TE) (g : TG) : TS := fun D σ H => te σ H fun x H1 => g x σ H1 D.nx
theorem ps_asg {tg e : Expr} {te : TE} {g : TG} (he : PE X e te) (hg : PG X tg g) (hs : swapsWithSole [tg] e pos.line X.env = pure false := by rfl) (hw : swappedStores [tg] e X.env = pure none := by rfl)
  (h1 : (assignEach [tg] X.env).map (·.2) = [assign tg X.env] := by rfl) : PS X (.Assign [tg] e pos) (tAsg te g) := by
 intro pins s σ H D I h
 refine wpAny_Assign_stores (thn (he pins s σ H _ I h) fun v s1 ⟨x, H1, I1, r1, q1⟩ => ?_) hs hw
 rw [h1]
 exact thn (hg pins s1 σ H1 x v _ I1 r1 q1) fun _ s2 q => q
theorem ps_set {i : Nat} {x : Str} {e : Expr} {te : TE} {pos' : Pos} (hN : X.N.Nodup) (hi : X.N[i]? = some x) (hx : Loc X.env.scope x) (he : PE X e te) (hs : swapsWith e (some (.Name x pos')) pos.line X.env = pure false := by rfl) (hf : X.fn x = true ∨ X.env.scope.names.lookup x = some .local := by first | exact .inl rfl | exact .inr rfl | assumption) :
  PS X (.Assign [.Name x pos'] e pos) (tAsg te (gName i)) := by
 intro pins s σ H D I h
 refine wpAny_Assign_Name (thn (he pins s σ H _ I h) fun v s1 ⟨y, H1, I1, r1, q1⟩ => ?_) hs
 exact store_ok I1 hN hi hx r1 (fun s2 I2 => ⟨_, H1, I2, q1⟩) hf
end
section
variable {X : Cx} {pos : Pos}
def tWhile (c : TT) (tb : TS) : TS := fun D σ H => ∃ W : Nat → St → Hp → Prop, (∃ m, W m σ H) ∧ ∀ m σ H, W m σ H →
 c σ H fun b H1 => if b = true then ∃ N : St → Hp → Prop, (∀ σ' H', N σ' H' → ∃ m', m' < m ∧ W m' σ' H') ∧ tb { D with nx := N, ct := N, bk := D.nx } σ H1 else D.nx σ H1
theorem ps_while {c : Expr} {body : List Stmt} {tc : TT} {tb : TS} (hp : PassesOwn (model X.prog X.w) X.A X.env X.xe) (hc : PT X c tc) (hb : PSs X body tb) : PS X (.While c body [] pos) (tWhile tc tb) := by
 intro pins s σ H D I h
 obtain ⟨W, ⟨m0, w0⟩, turn⟩ := h
 refine wpAny_While (codeAny_whileLoop (fun n s' => ∃ σ' H', Inv X pins σ' H' s' ∧ W n σ' H') ?_ m0 ⟨σ, H, I, w0⟩)
 rintro n s1 ⟨σ1, H1, I1, w1⟩
 refine wpAny_passesOwn hp (thn (hc pins s1 σ1 H1 _ I1 (turn n σ1 H1 w1)) fun b s2 ⟨H2, I2, q2⟩ => ?_)
 cases b with
 | true =>
  obtain ⟨N, hN, q2⟩ := q2
  rw [if_pos rfl]
  refine wpAny_passesOwn hp (thn (hb pins s2 σ1 H2 _ I2 q2) fun f s3 q3 => ?_)
  cases f with
  | next =>
   obtain ⟨σ3, H3, I3, n3⟩ := q3
   obtain ⟨m', hm, w3⟩ := hN σ3 H3 n3
   exact ⟨m', hm, σ3, H3, I3, w3⟩
  | cont =>
   obtain ⟨σ3, H3, I3, n3⟩ := q3
   obtain ⟨m', hm, w3⟩ := hN σ3 H3 n3
   exact ⟨m', hm, σ3, H3, I3, w3⟩
  | brk => exact q3
  | ret v => exact q3
 | false =>
  rw [if_neg Bool.false_ne_true]
  exact wpAny_execs_nil ⟨σ1, H2, I2, q2⟩
end
structure It where
 go : Nat → Hp → Prop
 yld : Nat → Hp → V → Hp → Prop
 stop : Nat → Hp → Prop
def FpOk (X : Cx) (pins : List (Addr × Obj)) (H : Hp) (b : Addr) : Prop :=
 H b = none ∧ b ≠ X.env.locals ∧ b ∉ X.fs ∧ (b ∈ X.ex ∨ X.s₀.heap.objs.size ≤ b) ∧ (∀ x c, X.env.cells.lookup x = some c → c ≠ b) ∧ ∀ p ∈ X.pn ++ pins, p.1 ≠ b
theorem Inv.fpOk {X : Cx} {pins : List (Addr × Obj)} {σ : St} {H H' : Hp} {s : Shared} {b : Addr} (I : Inv X pins σ H s) (hb : s.heap.objs.size ≤ b) (hn : H' b = none) : FpOk X pins H' b := by
 refine ⟨hn, Nat.ne_of_gt (Nat.lt_of_lt_of_le I.lt hb), I.nofs hb, .inr (Nat.le_trans I.sz hb), fun x c e z => ?_, fun p hp z => ?_⟩
 ·obtain ⟨v, q⟩ := I.cell x c e
  exact absurd (Nat.lt_of_lt_of_le q.lt (by rw [z]; exact hb)) (Nat.lt_irrefl _)
 ·exact absurd (Nat.lt_of_lt_of_le (Heap.lt_size (I.pin p hp).1) (by rw [z]; exact hb)) (Nat.lt_irrefl _)
structure Turn (P : Program) (w : World) (K : PySem.W.Frag) (tg : Expr) (J : It) (fp : List Addr) (it : Addr) (tn : Nat → Heap → Prop) : Prop where
 mem : it ∈ fp
 obj : ∀ i h, tn i h → ∀ b ∈ fp, ∃ o, h.get? b = some o ∧ ∀ v, o.data ≠ .cell v
 keep : ∀ i h h', tn i h → (∀ b ∈ fp, ∀ o, h.get? b = some o → h'.get? b = some o) → tn i h'
 item : ∀ (X : Cx), X.prog = P → X.w = w → X.K = K → X.calm = true → ∀ (i : Nat) (pins : List (Addr × Obj)) (s : Shared) (σ : St) (H : Hp) (E : Value → Shared → Prop), Inv X pins σ H s → (∀ b ∈ fp, FpOk X pins H b) → tn i s.heap → J.go i H →
  wpAny (model P w) X.A (pyNext (.ref it)) (fun r s1 => ∃ u, r = some u ∧
   wpAny (model P w) X.A (letOwnedTupleGo tg (.ref it) u) (fun _ s2 => ∃ x H', Inv X pins σ H' s2 ∧ RelV x u ∧ J.yld i H x H' ∧ tn (i + 1) s2.heap ∧ ∀ b ∈ fp, H' b = none) E s1) E s
 done : ∀ (X : Cx), X.prog = P → X.w = w → X.K = K → X.calm = true → ∀ (i : Nat) (pins : List (Addr × Obj)) (s : Shared) (σ : St) (H : Hp) (E : Value → Shared → Prop), Inv X pins σ H s → (∀ b ∈ fp, FpOk X pins H b) → tn i s.heap → J.stop i H →
  wpAny (model P w) X.A (pyNext (.ref it)) (fun r s1 => r = none ∧ Inv X pins σ H s1) E s
 self : ∀ (A : Around) (i : Nat) (s : Shared) (Q : Value → Shared → Prop) (E : Value → Shared → Prop), tn i s.heap → Q (.ref it) s → wpAny (model P w) A (pyIter (.ref it)) Q E s
abbrev TI := St → Hp → (It → Hp → Prop) → Prop
def PIE (X : Cx) (pins : List (Addr × Obj)) (σ : St) (tg : Expr) (R : It → Hp → Prop) (itv : Value) (s2 : Shared) : Prop :=
 ∃ (it : Addr) (fp : List Addr) (tn : Nat → Heap → Prop) (J : It) (H' : Hp), itv = .ref it ∧ Inv X pins σ H' s2 ∧ Turn X.prog X.w X.K tg J fp it tn ∧ tn 0 s2.heap ∧ (∀ b ∈ fp, FpOk X pins H' b) ∧ R J H'
def PI (X : Cx) (tg iter : Expr) (wi : TI) : Prop :=
 ∀ (pins : List (Addr × Obj)) (s : Shared) (σ : St) (H : Hp) (R : It → Hp → Prop), Inv X pins σ H s → wi σ H R →
  wpAny (model X.prog X.w) X.A (eval iter X.env) (fun v s1 => wpAny (model X.prog X.w) X.A (pyIter v) (PIE X pins σ tg R) X.xe s1) X.xe s
theorem go_of {M : Model} {A : Around} {E : Value → Shared → Prop} {s : Shared} {tg : Expr} {it : Addr} {u : Value} {o : Obj} {n : String} {vs : Array Value} {Q : Unit → Shared → Prop} (ho : s.heap.get? it = some o) (hc : o.cls = .type n) (hd : o.data = .fields vs)
    (hn : ["enumerate", "zip", "dict_itemiterator", "dict_reverseitemiterator", "odict_iterator", "itertools.zip_longest", "itertools.pairwise"].contains n = false) (hQ : Q () s) : wpAny M A (letOwnedTupleGo tg (.ref it) u) Q E s := by
  unfold letOwnedTupleGo
  cases tg <;> first
    | exact wpAny_pure hQ
    | (cases u <;> first
        | exact wpAny_pure hQ
        | (refine wpAny_bind (wpAny_load ho ?_)
           rw [hc, hd]
           show wpAny M A (if (["enumerate", "zip", "dict_itemiterator", "dict_reverseitemiterator", "odict_iterator", "itertools.zip_longest", "itertools.pairwise"].contains n && vs[0]? == some (rawInt _)) = true then _ else _) Q E s
           rw [if_neg (by intro h; rw [hn, Bool.false_and] at h; cases h)]
           exact wpAny_pure hQ))
def Itl (K : PySem.W.Frag) (a : Addr) : It :=
 ⟨fun i H => ∃ xs x, SqL K H a xs ∧ xs[i]? = some x, fun i H x H' => H' = H ∧ ∀ xs, SqL K H a xs → xs[i]? = some x, fun i H => ∃ xs, SqL K H a xs ∧ xs.length ≤ i⟩
def Itr (lo : Int) (n : Nat) : It := ⟨fun i _ => i < n, fun i H x H' => H' = H ∧ x = .int (lo + i), fun i _ => n ≤ i⟩
theorem turn_list {P : Program} {w : World} {K : PySem.W.Frag} {tg : Expr} (a it : Addr) : Turn P w K tg (Itl K a) [it] it (fun i h => h.IsListIter it a i) where
 mem := by simp
 obj := fun i h st b hb => by
  have e : b = it := by simpa using hb
  subst e
  obtain ⟨o, e, c, d⟩ := st
  exact ⟨o, e, fun v z => by rw [d] at z; cases z⟩
 keep := fun i h h' st k => st.at fun o e => k it (by simp) o e
 item := by
  intro X hP hw hK hc i pins s σ H E I hf st hg
  subst hP hw hK
  obtain ⟨xs, x, hq, hx⟩ := hg
  obtain ⟨its, rv, p, hz⟩ := I.list hq
  obtain ⟨u, hu, ru⟩ := rv.get hx
  obtain ⟨f0, f1, f2, f3, f4, f5⟩ := hf it (by simp)
  refine wpAny_pyNext_list_item st p.isList (x := u) (by simpa using hu) fun h' st' sb => ?_
  have I1 : Inv X pins σ H { s with heap := h' } := I.turned (t' := s.toks) (fun b o hb e => (sb.2 b hb).trans e) f0 f1 f3 f4 f5
  obtain ⟨o, e, c, d⟩ := id st'
  exact ⟨u, rfl, go_of (s := { s with heap := h' }) e c d (by decide) ⟨x, H, I1, ru, ⟨rfl, fun ys hy => by rw [I.list_inj hy hq]; exact hx⟩, st', fun b hb => (hf b hb).1⟩⟩
 done := by
  intro X hP hw hK hc i pins s σ H E I hf st hg
  subst hP hw hK
  obtain ⟨xs, hq, hx⟩ := hg
  obtain ⟨its, rv, p, hz⟩ := I.list hq
  obtain ⟨f0, f1, f2, f3, f4, f5⟩ := hf it (by simp)
  have hl := rv.length
  exact wpAny_pyNext_list_end (I.ok.hd hc) st p.isList (by simp; omega) fun h' eb => ⟨rfl, I.turned (t' := s.toks) (fun b o hb e => eb b o hb e) f0 f1 f3 f4 f5⟩
 self := fun _ _ _ _ _ st h => wpAny_pyIter_listiter st h
theorem turn_range {P : Program} {w : World} {K : PySem.W.Frag} {tg : Expr} (it : Addr) (lo : Int) (n : Nat) : Turn P w K tg (Itr lo n) [it] it (fun i h => IsRangeIter h it (lo + (i : Nat) * 1) ((n : Int) - (i : Nat)) 1) where
 mem := by simp
 obj := fun i h st b hb => by
  have e : b = it := by simpa using hb
  subst e
  exact ⟨_, st, fun v z => by
   have z' : Data.fields _ = Data.cell v := z
   cases z'⟩
 keep := fun i h h' st k => k it (by simp) _ st
 item := by
  intro X hP hw hK hc i pins s σ H E I hf st hg
  subst hP hw hK
  obtain ⟨f0, f1, f2, f3, f4, f5⟩ := hf it (by simp)
  have W := Walks.range (prog := X.prog) (w := X.w) (I.ok.hd hc) it lo 1 n
  refine W.item i s _ _ hg st fun v h' tk hv st' kk => ?_
  obtain ⟨t, rfl⟩ := hv
  have I1 : Inv X pins σ H { s with heap := h', toks := tk } := I.turned (fun b o hb e => kk b o (by simpa using hb) e) f0 f1 f3 f4 f5
  refine ⟨_, rfl, go_of (s := { s with heap := h', toks := tk }) (n := "range_iterator") st' rfl rfl (by decide) ⟨.int (lo + i), H, I1, ⟨t, ?_⟩, ⟨rfl, rfl⟩, st', fun b hb => (hf b hb).1⟩⟩
  rw [Int.mul_one]
 done := by
  intro X hP hw hK hc i pins s σ H E I hf st hg
  subst hP hw hK
  obtain ⟨f0, f1, f2, f3, f4, f5⟩ := hf it (by simp)
  exact wpAny_pyNext_range_end (I.ok.hd hc) st (by have : n ≤ i := hg; omega) fun h' eb => ⟨rfl, I.turned (t' := s.toks) (fun b o hb e => eb b o hb e) f0 f1 f3 f4 f5⟩
 self := fun _ _ _ _ _ st h => wpAny_pyIter_rangeiter st h
end L2
namespace L2
open PySem PySem.Spec PyProof.Rows
section
variable {X : Cx} {tg : Expr}
def iList (K : PySem.W.Frag) (tl : TE) : TI := fun σ H R => tl σ H fun x H1 => ∃ a, x = .ref a ∧ (∃ xs, SqL K H1 a xs) ∧ R (Itl K a) H1
theorem pi_list {l : Expr} {tl : TE} (hl : PE X l tl) : PI X tg l (iList X.K tl) := by
 intro pins s σ H R I h
 refine thn (hl pins s σ H _ I h) fun v s1 ⟨x, H1, I1, r1, q1⟩ => ?_
 obtain ⟨a, e, ⟨xs, hq⟩, q⟩ := q1
 subst e
 cases r1
 obtain ⟨its, rv, p, hz⟩ := I1.list hq
 refine wpAny_pyIter_list p.isList ?_
 refine ⟨s1.heap.objs.size, [s1.heap.objs.size], _, _, H1, rfl, I1.kept (t' := s1.toks) fun b o e => Heap.get?_push_of_some _ e, turn_list a _, ⟨_, Heap.get?_push_size _ rfl, rfl, rfl⟩, fun b hb => ?_, q⟩
 have e : b = s1.heap.objs.size := by simpa using hb
 subst e
 exact I1.fpOk (Nat.le_refl _) (I1.hok.fresh (Nat.le_refl _))
theorem range_it {pins : List (Addr × Obj)} {σ : St} {H : Hp} {s : Shared} {R : It → Hp → Prop} {E : Value → Shared → Prop} {lo hi : Int} {t u v : Tok} {tk : Nat} (I : Inv X pins σ H s) (h1 : -(2 ^ 62) ≤ lo) (h2 : lo < 2 ^ 62) (h3 : -(2 ^ 62) ≤ hi) (h4 : hi < 2 ^ 62)
  (q : R (Itr lo (hi - lo).toNat) H) : wpAny (model X.prog X.w) X.A (pyIter (.ref s.heap.objs.size)) (PIE X pins σ tg R) E { s with heap := s.heap.push { cls := .type "range", data := .fields #[.int lo t, .int hi u, .int 1 v] }, toks := tk } := by
 refine wpAny_pyIter_range (IsRange.new ..) (small_one h1 h2 h3 h4) ?_
 have I1 : Inv X pins σ H { s with heap := s.heap.push { cls := .type "range", data := .fields #[.int lo t, .int hi u, .int 1 v] }, toks := tk } := I.kept fun b o e => Heap.get?_push_of_some _ e
 refine ⟨(s.heap.push { cls := .type "range", data := .fields #[.int lo t, .int hi u, .int 1 v] }).objs.size, [(s.heap.push { cls := .type "range", data := .fields #[.int lo t, .int hi u, .int 1 v] }).objs.size], _, _, H, rfl,
  I1.kept (t' := tk) fun b o e => Heap.get?_push_of_some _ e, turn_range _ lo (hi - lo).toNat, ?_, fun b hb => ?_, q⟩
 ·have e1 : lo + ((0 : Nat) : Int) * 1 = lo := by simp
  have e2 : (((hi - lo).toNat : Nat) : Int) - ((0 : Nat) : Int) = Builtin.Range.rangeSize lo hi 1 := by rw [rangeSize_one]; split <;> omega
  show IsRangeIter _ _ (lo + ((0 : Nat) : Int) * 1) ((((hi - lo).toNat : Nat) : Int) - ((0 : Nat) : Int)) 1
  rw [e1, e2]
  exact Heap.get?_push_size _ rfl
 ·have e : b = (s.heap.push { cls := .type "range", data := .fields #[.int lo t, .int hi u, .int 1 v] }).objs.size := by simpa using hb
  subst e
  exact I1.fpOk (Nat.le_refl _) (I1.hok.fresh (Nat.le_refl _))
def iRng1 (ta : TA) : TI := fun σ H R => ta σ H fun vs H1 => ∃ j : Int, vs = [.int j] ∧ -(2 ^ 62) ≤ j ∧ j < 2 ^ 62 ∧ R (Itr 0 j.toNat) H1
def iRng2 (ta : TA) : TI := fun σ H R => ta σ H fun vs H1 => ∃ i j : Int, vs = [.int i, .int j] ∧ (-(2 ^ 62) ≤ i ∧ i < 2 ^ 62 ∧ -(2 ^ 62) ≤ j ∧ j < 2 ^ 62) ∧ R (Itr i (j - i).toNat) H1
theorem pi_range1 {a : Expr} {ta : TA} {p pos : Pos} (hg : Gl X "range") (hm : X.mg "range" = none) (ha : PA X [a] ta) (hs : starEach [a] X.env = [(false, eval a X.env)] := by rfl) : PI X tg (.Call (.Name "range" p) [a] [] pos) (iRng1 ta) := by
 intro pins s σ H R I h
 refine Call_ (ld_blt I hg hm boot_range (PyProof.Rows.callWith_type1 (thn (ha pos pins s σ H _ I h) fun us s1 ⟨vs, H1, I1, r1, q1⟩ => ?_) hs rfl))
 obtain ⟨j, e, q1, q2, q⟩ := q1
 subst e
 cases r1 with
 | cons r rr =>
  cases rr
  obtain ⟨t, rfl⟩ := r
  exact call_range_1 (range_it I1 (by omega) (by omega) q1 q2 (by simpa using q))
theorem pi_range2 {a b : Expr} {ta : TA} {p pos : Pos} (hg : Gl X "range") (hm : X.mg "range" = none) (ha : PA X [a, b] ta) (hs : starEach [a, b] X.env = [(false, eval a X.env), (false, eval b X.env)] := by rfl) (hs2 : starEach [b] X.env = [(false, eval b X.env)] := by rfl) :
  PI X tg (.Call (.Name "range" p) [a, b] [] pos) (iRng2 ta) := by
 intro pins s σ H R I h
 refine Call_ (ld_blt I hg hm boot_range (PyProof.Rows.callWith_type1 (thn (ha pos pins s σ H _ I h) fun us s1 ⟨vs, H1, I1, r1, q1⟩ => ?_) (by rw [hs, hs2]) (by rw [hs2]; rfl)))
 obtain ⟨i, j, e, ⟨q1, q2, q3, q4⟩, q⟩ := q1
 subst e
 cases r1 with
 | cons r rr =>
  cases rr with
  | cons r' rr =>
   cases rr
   obtain ⟨t, rfl⟩ := r
   obtain ⟨t', rfl⟩ := r'
   exact call_range_2 (range_it I1 q1 q2 q3 q4 q)
def tFor (wi : TI) (g : TG) (tb : TS) : TS := fun D σ H => wi σ H fun J H1 => ∃ W : Nat → Nat → St → Hp → Prop, (∃ m, W 0 m σ H1) ∧ ∀ i m σ H, W i m σ H →
 (J.stop i H ∧ D.nx σ H) ∨ (J.go i H ∧ ∃ N : St → Hp → Prop, (∀ σ' H', N σ' H' → ∃ m', m' < m ∧ W (i + 1) m' σ' H') ∧ ∀ x H', J.yld i H x H' → g x σ H' fun σ2 H2 => tb { D with nx := N, ct := N, bk := D.nx } σ2 H2)
def pinsAt (fp : List Addr) (h : Heap) : List (Addr × Obj) := fp.filterMap fun b => (h.get? b).map fun o => (b, o)
theorem mem_pinsAt {fp : List Addr} {h : Heap} {b : Addr} {o : Obj} (hb : b ∈ fp) (e : h.get? b = some o) : (b, o) ∈ pinsAt fp h := List.mem_filterMap.mpr ⟨b, hb, by rw [e]; rfl⟩
theorem of_pinsAt {fp : List Addr} {h : Heap} {p : Addr × Obj} (hp : p ∈ pinsAt fp h) : p.1 ∈ fp ∧ h.get? p.1 = some p.2 := by
 obtain ⟨b, hb, e⟩ := List.mem_filterMap.mp hp
 cases q : h.get? b with
 | none => rw [q] at e; cases e
 | some o =>
  rw [q] at e
  have e' : (b, o) = p := Option.some.inj e
  subst e'
  exact ⟨hb, q⟩
theorem Inv.pinned {pins : List (Addr × Obj)} {σ : St} {H : Hp} {s : Shared} {fp : List Addr} (I : Inv X pins σ H s) (hf : ∀ b ∈ fp, FpOk X pins H b) (ho : ∀ b ∈ fp, ∃ o, s.heap.get? b = some o ∧ ∀ v, o.data ≠ .cell v) : Inv X (pins ++ pinsAt fp s.heap) σ H s :=
 I.pins_of fun p hp => (List.mem_append.mp hp).elim (fun z => I.pin p (List.mem_append_right _ z)) fun z => by
  obtain ⟨hb, e⟩ := of_pinsAt z
  obtain ⟨f0, f1, f2, _⟩ := hf p.1 hb
  obtain ⟨o, e', d⟩ := ho p.1 hb
  rw [e] at e'; cases e'
  exact ⟨e, f0, f1, f2, d⟩
theorem Inv.unpinned {pins pl : List (Addr × Obj)} {σ : St} {H : Hp} {s : Shared} (I : Inv X (pins ++ pl) σ H s) : Inv X pins σ H s := I.pins_of fun p hp => I.pin p (List.mem_append_right _ (List.mem_append_left _ hp))
theorem ps_for {iter : Expr} {body : List Stmt} {wi : TI} {g : TG} {tb : TS} {pos : Pos} (hp : PassesOwn (model X.prog X.w) X.A X.env X.xe) (hc : X.calm = true) (hi : PI X tg iter wi) (hg : PG X tg g) (hb : PSs X body tb)
  (hs : ∀ x, foldedSetIterable iter X.env x = pure x := by intro _; rfl) : PS X (.For tg iter body [] pos) (tFor wi g tb) := by
 intro pins s σ H D I h
 refine wpAny_For (thn (hi pins s σ H _ I h) fun v s1 h1 => thn h1 fun itv s2 h2 => ?_) hs
 obtain ⟨it, fp, tn, J, H2, e, I2, T, st2, f2, W, ⟨m0, w0⟩, turn⟩ := h2
 subst e
 have stat : ∀ {H' : Hp}, (∀ b ∈ fp, H' b = none) → ∀ b ∈ fp, FpOk X pins H' b := fun hn b hb => ⟨hn b hb, (f2 b hb).2⟩
 refine codeAny_forLoop_any (fun n s' => ∃ i σ' H', Inv X pins σ' H' s' ∧ tn i s'.heap ∧ (∀ b ∈ fp, H' b = none) ∧ W i n σ' H') ?_ m0 ⟨0, σ, H2, I2, st2, fun b hb => (f2 b hb).1, w0⟩
 rintro n s3 ⟨i, σ3, H3, I3, st3, fr3, w3⟩
 rcases turn i n σ3 H3 w3 with ⟨stop, qn⟩ | ⟨go, N, hN, step⟩
 ·refine wpAny_passesOwn hp (thn (T.done X rfl rfl rfl hc i pins s3 σ3 H3 X.xe I3 (stat fr3) st3 stop) fun r s4 ⟨hr, I4⟩ => ?_)
  subst hr
  exact wpAny_execs_nil ⟨σ3, H3, I4, qn⟩
 ·refine wpAny_passesOwn hp (thn (T.item X rfl rfl rfl hc i pins s3 σ3 H3 X.xe I3 (stat fr3) st3 go) fun r s4 ⟨u, hr, h4⟩ => ?_)
  subst hr
  refine wpAny_passesOwn hp (thn h4 fun _ s5 ⟨x, H5, I5, r5, y5, st5, fr5⟩ => ?_)
  have I5' := I5.pinned (stat fr5) (T.obj _ _ st5)
  refine wpAny_passesOwn hp (thn (hg _ s5 σ3 H5 x u _ I5' r5 (step x H5 y5)) fun _ s6 ⟨σ6, H6, I6, q6⟩ => ?_)
  refine wpAny_passesOwn hp (thn (hb _ s6 σ6 H6 _ I6 q6) fun f s7 q7 => ?_)
  have again : ∀ {σ7 : St} {H7 : Hp}, Inv X (pins ++ pinsAt fp s5.heap) σ7 H7 s7 → N σ7 H7 → ∃ m, m < n ∧ ∃ i σ' H', Inv X pins σ' H' s7 ∧ tn i s7.heap ∧ (∀ b ∈ fp, H' b = none) ∧ W i m σ' H' := fun {σ7 H7} I7 n7 => by
   obtain ⟨m', hm, w7⟩ := hN σ7 H7 n7
   refine ⟨m', hm, i + 1, σ7, H7, I7.unpinned, T.keep _ _ _ st5 fun b hb o e => (I7.pin (b, o) (List.mem_append_right _ (List.mem_append_right _ (mem_pinsAt hb e)))).1, fun b hb => ?_, w7⟩
   obtain ⟨o, e, d⟩ := T.obj _ _ st5 b hb
   exact (I7.pin (b, o) (List.mem_append_right _ (List.mem_append_right _ (mem_pinsAt hb e)))).2.1
  cases f with
  | next => obtain ⟨σ7, H7, I7, n7⟩ := q7; exact again I7 n7
  | cont => obtain ⟨σ7, H7, I7, n7⟩ := q7; exact again I7 n7
  | brk => obtain ⟨σ7, H7, I7, q7⟩ := q7; exact ⟨σ7, H7, I7.unpinned, q7⟩
  | ret v => obtain ⟨x7, σ7, H7, I7, r7, q7⟩ := q7; exact ⟨x7, σ7, H7, I7.unpinned, r7, q7⟩
end
theorem for_list {K : PySem.W.Frag} {a : Addr} {xs : List V} {g : TG} {tb : TS} {D : Ends} {σ : St} {H : Hp} (Pv : Nat → St → Hp → Prop) (h0 : Pv 0 σ H) (hl : ∀ i σ H, i ≤ xs.length → Pv i σ H → SqL K H a xs)
  (hs : ∀ i x σ H, xs[i]? = some x → Pv i σ H → g x σ H fun σ2 H2 => tb { D with nx := Pv (i + 1), ct := Pv (i + 1), bk := D.nx } σ2 H2) (hd : ∀ σ H, Pv xs.length σ H → D.nx σ H) :
  ∃ W : Nat → Nat → St → Hp → Prop, (∃ m, W 0 m σ H) ∧ ∀ i m σ H, W i m σ H →
   ((Itl K a).stop i H ∧ D.nx σ H) ∨ ((Itl K a).go i H ∧ ∃ N : St → Hp → Prop, (∀ σ' H', N σ' H' → ∃ m', m' < m ∧ W (i + 1) m' σ' H') ∧ ∀ x H', (Itl K a).yld i H x H' → g x σ H' fun σ2 H2 => tb { D with nx := N, ct := N, bk := D.nx } σ2 H2) := by
 refine ⟨fun i m σ H => m = xs.length - i ∧ i ≤ xs.length ∧ Pv i σ H, ⟨xs.length, by simp, Nat.zero_le _, h0⟩, ?_⟩
 rintro i m σ H ⟨rfl, hi, p⟩
 have q := hl i σ H hi p
 by_cases hlt : i < xs.length
 ·refine .inr ⟨⟨xs, xs[i], q, by simp [hlt]⟩, Pv (i + 1), fun σ' H' p' => ⟨xs.length - (i + 1), by omega, rfl, hlt, p'⟩, fun x H' y => ?_⟩
  obtain ⟨e, y⟩ := y
  subst e
  exact hs i x σ _ (y xs q) p
 ·have e : i = xs.length := by omega
  subst e
  exact .inl ⟨⟨xs, q, Nat.le_refl _⟩, hd σ H p⟩
theorem for_range {lo : Int} {n : Nat} {g : TG} {tb : TS} {D : Ends} {σ : St} {H : Hp} (Pv : Nat → St → Hp → Prop) (h0 : Pv 0 σ H)
  (hs : ∀ i σ H, i < n → Pv i σ H → g (.int (lo + i)) σ H fun σ2 H2 => tb { D with nx := Pv (i + 1), ct := Pv (i + 1), bk := D.nx } σ2 H2) (hd : ∀ σ H, Pv n σ H → D.nx σ H) :
  ∃ W : Nat → Nat → St → Hp → Prop, (∃ m, W 0 m σ H) ∧ ∀ i m σ H, W i m σ H →
   ((Itr lo n).stop i H ∧ D.nx σ H) ∨ ((Itr lo n).go i H ∧ ∃ N : St → Hp → Prop, (∀ σ' H', N σ' H' → ∃ m', m' < m ∧ W (i + 1) m' σ' H') ∧ ∀ x H', (Itr lo n).yld i H x H' → g x σ H' fun σ2 H2 => tb { D with nx := N, ct := N, bk := D.nx } σ2 H2) := by
 refine ⟨fun i m σ H => m = n - i ∧ i ≤ n ∧ Pv i σ H, ⟨n, by simp, Nat.zero_le _, h0⟩, ?_⟩
 rintro i m σ H ⟨rfl, hi, p⟩
 by_cases hlt : i < n
 ·refine .inr ⟨hlt, Pv (i + 1), fun σ' H' p' => ⟨n - (i + 1), by omega, rfl, hlt, p'⟩, fun x H' y => ?_⟩
  obtain ⟨e, y⟩ := y
  subst e y
  exact hs i σ _ hlt p
 ·have e : i = n := by omega
  subst e
  exact .inl ⟨Nat.le_refl _, hd σ H p⟩
end L2
namespace L2
open PySem PySem.Spec PyProof.Rows
abbrev R2 := V → V → Hp → VK → Prop
def OpR (X : Cx) (f : Value → Value → Sem Value) (r : R2) : Prop :=
 ∀ (pins : List (Addr × Obj)) (s : Shared) (σ : St) (H : Hp) (x y : V) (v u : Value) (Q : VK), Inv X pins σ H s → RelV x v → RelV y u → r x y H Q →
  wpAny (model X.prog X.w) X.A (f v u) (EP X pins σ Q) X.xe s
def UnR (X : Cx) (f : Value → Sem Value) (r : V → Hp → VK → Prop) : Prop :=
 ∀ (pins : List (Addr × Obj)) (s : Shared) (σ : St) (H : Hp) (x : V) (v : Value) (Q : VK), Inv X pins σ H s → RelV x v → r x H Q →
  wpAny (model X.prog X.w) X.A (f v) (EP X pins σ Q) X.xe s
def CallR (X : Cx) (f : Value) (r : List V → Hp → VK → Prop) : Prop :=
 ∀ (pins : List (Addr × Obj)) (s : Shared) (σ : St) (H : Hp) (xs : List V) (us : List Value) (Q : VK), Inv X pins σ H s → Vals xs us → r xs H Q →
  wpAny (model X.prog X.w) X.A (call f us) (EP X pins σ Q) X.xe s
def tOp (r : R2) (ta tb : TE) : TE := fun σ H Q => ta σ H fun x H1 => tb σ H1 fun y H2 => r x y H2 Q
def tUn (r : V → Hp → VK → Prop) (ta : TE) : TE := fun σ H Q => ta σ H fun x H1 => r x H1 Q
def rI (C : Int → Int → Prop) (g : Int → Int → V) : R2 := fun x y H Q => ∃ i j, x = .int i ∧ y = .int j ∧ C i j ∧ Q (g i j) H
def rI0 (g : Int → Int → V) : R2 := fun x y H Q => ∃ i j, x = .int i ∧ y = .int j ∧ Q (g i j) H
def rU (g : Int → V) : V → Hp → VK → Prop := fun x H Q => ∃ i, x = .int i ∧ Q (g i) H
section
variable {X : Cx} {a b c : Expr} {ta tb tc : TE} {pos : Pos}
theorem binT (ha : PE X a ta) (hb : PE X b tb) {pins : List (Addr × Obj)} {s : Shared} {σ : St} {H : Hp} {R : V → V → Hp → Prop} (I : Inv X pins σ H s)
  (h : ta σ H fun x H1 => tb σ H1 fun y H2 => R x y H2) {Q : Value → Shared → Prop} {f : Value → Value → Sem Value}
  (hf : ∀ v u s2 x y H2, Inv X pins σ H2 s2 → RelV x v → RelV y u → R x y H2 → wpAny (model X.prog X.w) X.A (f v u) Q X.xe s2) :
  wpAny (model X.prog X.w) X.A (eval a X.env) (fun v s₁ => wpAny (model X.prog X.w) X.A (eval b X.env) (fun u s₂ => wpAny (model X.prog X.w) X.A (f v u) Q X.xe s₂) X.xe s₁) X.xe s := by
 refine thn (ha pins s σ H _ I h) fun v s1 ⟨x, H1, I1, r1, q1⟩ => ?_
 refine thn (hb pins s1 σ H1 _ I1 q1) fun u s2 ⟨y, H2, I2, r2, q2⟩ => ?_
 exact hf v u s2 x y H2 I2 r1 r2 q2
theorem pe_op {op : Operator} {r : R2} (ho : OpR X (binaryOp op) r) (ha : PE X a ta) (hb : PE X b tb) : PE X (.BinOp a op b pos) (tOp r ta tb) := by
 intro pins s σ H Q I h
 exact wpAny_BinOp (binT ha hb I h fun v u s2 x y H2 I2 rx ry q => ho pins s2 σ H2 x y v u Q I2 rx ry q)
theorem pe_un {op : UnaryOp} {r : V → Hp → VK → Prop} (ho : UnR X (unaryOp op) r) (ha : PE X a ta) : PE X (.UnaryOp op a pos) (tUn r ta) := by
 intro pins s σ H Q I h
 exact UnaryOp_ (thn (ha pins s σ H _ I h) fun v s1 ⟨x, H1, I1, r1, q1⟩ => ho pins s1 σ H1 x v Q I1 r1 q1)
theorem opI {f : Value → Value → Sem Value} {C : Int → Int → Prop} {g : Int → Int → Int}
  (rule : ∀ (i j : Int) (t u : Tok) (s : Shared) (Q : Value → Shared → Prop) (E : Value → Shared → Prop), C i j → Q (.int (g i j) s.toks) { s with toks := s.toks + 1 } → wpAny (model X.prog X.w) X.A (f (.int i t) (.int j u)) Q E s) :
  OpR X f (rI C fun i j => .int (g i j)) := by
 intro pins s σ H x y v u Q I rx ry h
 obtain ⟨i, j, rfl, rfl, hc, q⟩ := h
 obtain ⟨t, rfl⟩ := rx
 obtain ⟨t', rfl⟩ := ry
 exact rule i j t t' s _ _ hc ⟨.int (g i j), H, I.tok _, ⟨_, rfl⟩, q⟩
theorem opI0 {f : Value → Value → Sem Value} {g : Int → Int → Int}
  (rule : ∀ (i j : Int) (t u : Tok) (s : Shared) (Q : Value → Shared → Prop) (E : Value → Shared → Prop), Q (.int (g i j) s.toks) { s with toks := s.toks + 1 } → wpAny (model X.prog X.w) X.A (f (.int i t) (.int j u)) Q E s) :
  OpR X f (rI0 fun i j => .int (g i j)) := by
 intro pins s σ H x y v u Q I rx ry h
 obtain ⟨i, j, rfl, rfl, q⟩ := h
 obtain ⟨t, rfl⟩ := rx
 obtain ⟨t', rfl⟩ := ry
 exact rule i j t t' s _ _ ⟨.int (g i j), H, I.tok _, ⟨_, rfl⟩, q⟩
theorem opB0 {f : Value → Value → Sem Value} {g : Int → Int → Bool}
  (rule : ∀ (i j : Int) (t u : Tok) (s : Shared) (Q : Value → Shared → Prop) (E : Value → Shared → Prop), Q (.bool (g i j)) s → wpAny (model X.prog X.w) X.A (f (.int i t) (.int j u)) Q E s) :
  OpR X f (rI0 fun i j => .bl (g i j)) := by
 intro pins s σ H x y v u Q I rx ry h
 obtain ⟨i, j, rfl, rfl, q⟩ := h
 obtain ⟨t, rfl⟩ := rx
 obtain ⟨t', rfl⟩ := ry
 exact rule i j t t' s _ _ ⟨.bl (g i j), H, I, rfl, q⟩
def CDiv (i j : Int) : Prop := 0 < j ∧ j < 1073741824
def CPow (i j : Int) : Prop := 0 ≤ j ∧ j ≤ 1000000 ∧ i.natAbs < 2 ^ 64
def CMul (i j : Int) : Prop := (-(2 ^ 64) < i ∧ i < 2 ^ 64) ∨ (-(2 ^ 64) < j ∧ j < 2 ^ 64)
theorem CMul.ok {i j : Int} (h : CMul i j) : IntMulOk i j := by
 rcases h with ⟨h1, h2⟩ | ⟨h1, h2⟩
 ·exact .of_left (intBits_le_64 h1 h2)
 ·exact .of_right (intBits_le_64 h1 h2)
theorem op_add : OpR X (binaryOp .Add) (rI0 fun i j => .int (i + j)) := opI0 fun _ _ _ _ _ _ _ q => add_int q
theorem op_sub : OpR X (binaryOp .Sub) (rI0 fun i j => .int (i - j)) := opI0 fun _ _ _ _ _ _ _ q => sub_int q
theorem op_mul : OpR X (binaryOp .Mult) (rI CMul fun i j => .int (i * j)) := opI fun _ _ _ _ _ _ _ hc q => mul_int q hc.ok
theorem op_fdiv : OpR X (binaryOp .FloorDiv) (rI CDiv fun i j => .int (i / j)) := opI fun i j _ _ _ _ _ hc q => by
 have h1 : (0 : Int) < j := hc.1
 have h2 : j < 1073741824 := hc.2
 exact floordiv_int (by omega) (by rw [Int.fdiv_eq_ediv_of_nonneg i (by omega)]; exact q) (.inl (PyProof.noPylong_small (by omega)))
theorem op_mod : OpR X (binaryOp .Mod) (rI (fun _ j => 0 < j) fun i j => .int (i % j)) := opI fun i j _ _ _ _ _ hc q => by
 have h1 : (0 : Int) < j := hc
 exact mod_int' (by omega) (by rw [Int.fmod_eq_emod_of_nonneg i (by omega)]; exact q)
theorem op_pow : OpR X (binaryOp .Pow) (rI CPow fun i j => .int (i ^ j.toNat)) := opI fun _ _ _ _ _ _ _ hc q => pow_int_small hc.1 hc.2.1 hc.2.2 q
theorem op_shl : OpR X (binaryOp .LShift) (rI CPow fun i j => .int (i * 2 ^ j.toNat)) := opI fun _ _ _ _ _ _ _ hc q => lshift_int_small hc.1 hc.2.1 hc.2.2 q
theorem op_and : OpR X (binaryOp .BitAnd) (rI0 fun i j => .int (Builtin.bitAnd i j)) := opI0 fun _ _ _ _ _ _ _ q => and_int q
theorem unI {f : Value → Sem Value} {g : Int → Int}
  (rule : ∀ (i : Int) (t : Tok) (s : Shared) (Q : Value → Shared → Prop) (E : Value → Shared → Prop), Q (.int (g i) s.toks) { s with toks := s.toks + 1 } → wpAny (model X.prog X.w) X.A (f (.int i t)) Q E s) :
  UnR X f (rU fun i => .int (g i)) := by
 intro pins s σ H x v Q I rx h
 obtain ⟨i, rfl, q⟩ := h
 obtain ⟨t, rfl⟩ := rx
 exact rule i t s _ _ ⟨.int (g i), H, I.tok _, ⟨_, rfl⟩, q⟩
theorem un_neg : UnR X (unaryOp .USub) (rU fun i => .int (-i)) := unI fun _ _ _ _ _ q => neg_int q
end
def scal : V → V → Bool
 | .non, .non => true | .non, .int _ => true | .int _, .non => true | .non, .bl _ => true | .bl _, .non => true | .non, .str _ => true | .str _, .non => true
 | .int _, .int _ => true | .bl _, .bl _ => true | .str _, .str _ => true | .byt _, .byt _ => true
 | .int _, .str _ => true | .str _, .int _ => true | .bl _, .str _ => true | .str _, .bl _ => true
 | _, _ => false
def rEq : R2 := fun x y H Q => scal x y = true ∧ Q (.bl (decide (x = y))) H
def rNe : R2 := fun x y H Q => scal x y = true ∧ Q (.bl (!decide (x = y))) H
theorem dec_int {i j : Int} : decide (V.int i = V.int j) = (i == j) := by
 rw [Bool.eq_iff_iff]
 simp
theorem dec_bl {i j : Bool} : decide (V.bl i = V.bl j) = (i == j) := by
 rw [Bool.eq_iff_iff]
 simp
theorem dec_str {i j : Str} : decide (V.str i = V.str j) = (i == j) := by
 rw [Bool.eq_iff_iff]
 simp
theorem dec_byt {i j : Array UInt8} : decide (V.byt i = V.byt j) = (i.toList == j.toList) := by
 rw [Bool.eq_iff_iff]
 cases i
 cases j
 simp
section
variable {X : Cx} {a b c : Expr} {ta tb tc : TE} {pos : Pos}
theorem fin_bl {pins : List (Addr × Obj)} {σ : St} {H : Hp} {s : Shared} {Q : VK} {k k' : Bool} (I : Inv X pins σ H s) (q : Q (.bl k) H) (e : k = k') : EP X pins σ Q (.bool k') s := by
 subst e
 exact ⟨.bl k, H, I, rfl, q⟩
theorem op_eq : OpR X (compareOp .Eq) rEq := by
 intro pins s σ H x y v u Q I rx ry h
 obtain ⟨hs, q⟩ := h
 cases x with
 | non =>
  cases rx
  cases y with
  | non => cases ry; exact PySem.EqNone.eq_none_none (fin_bl I q (by simp))
  | bl j => cases ry; exact PySem.EqNone.eq_none_bool (fin_bl I q (by simp))
  | int j => obtain ⟨t', rfl⟩ := ry; exact PySem.EqNone.eq_none_int (fin_bl I q (by simp))
  | str j => obtain ⟨t', rfl⟩ := ry; exact PySem.EqNone.eq_none_str (fin_bl I q (by simp))
  | _ => exact absurd (show false = true from hs) Bool.false_ne_true
 | bl i =>
  cases rx
  cases y with
  | non => cases ry; exact PySem.EqNone.eq_bool_none (fin_bl I q (by simp))
  | bl j => cases ry; exact eq_bool (fin_bl I q dec_bl)
  | str j => obtain ⟨t', rfl⟩ := ry; exact PySem.EqMixed.eq_bool_str (fin_bl I q (by simp))
  | _ => exact absurd (show false = true from hs) Bool.false_ne_true
 | int i =>
  obtain ⟨t, rfl⟩ := rx
  cases y with
  | non => cases ry; exact PySem.EqNone.eq_int_none (fin_bl I q (by simp))
  | int j => obtain ⟨t', rfl⟩ := ry; exact eq_int (fin_bl I q dec_int)
  | str j => obtain ⟨t', rfl⟩ := ry; exact PySem.EqMixed.eq_int_str (fin_bl I q (by simp))
  | _ => exact absurd (show false = true from hs) Bool.false_ne_true
 | str i =>
  obtain ⟨t, rfl⟩ := rx
  cases y with
  | non => cases ry; exact PySem.EqNone.eq_str_none (fin_bl I q (by simp))
  | bl j => cases ry; exact PySem.EqMixed.eq_str_bool (fin_bl I q (by simp))
  | int j => obtain ⟨t', rfl⟩ := ry; exact PySem.EqMixed.eq_str_int (fin_bl I q (by simp))
  | str j => obtain ⟨t', rfl⟩ := ry; exact eq_str (fin_bl I q dec_str)
  | _ => exact absurd (show false = true from hs) Bool.false_ne_true
 | byt i =>
  obtain ⟨t, rfl⟩ := rx
  cases y with
  | byt j => obtain ⟨t', rfl⟩ := ry; exact PySem.W.eq_bytes (fin_bl I q dec_byt)
  | _ => exact absurd (show false = true from hs) Bool.false_ne_true
 | _ => cases y <;> exact absurd (show false = true from hs) Bool.false_ne_true
theorem op_ne : OpR X (compareOp .NotEq) rNe := by
 intro pins s σ H x y v u Q I rx ry h
 obtain ⟨hs, q⟩ := h
 cases x with
 | non =>
  cases rx
  cases y with
  | non => cases ry; exact PySem.EqNone.ne_none_none (fin_bl I q (by simp))
  | bl j => cases ry; exact PySem.EqNone.ne_none_bool (fin_bl I q (by simp))
  | int j => obtain ⟨t', rfl⟩ := ry; exact PySem.EqNone.ne_none_int (fin_bl I q (by simp))
  | str j => obtain ⟨t', rfl⟩ := ry; exact PySem.EqNone.ne_none_str (fin_bl I q (by simp))
  | _ => exact absurd (show false = true from hs) Bool.false_ne_true
 | bl i =>
  cases rx
  cases y with
  | non => cases ry; exact PySem.EqNone.ne_bool_none (fin_bl I q (by simp))
  | bl j => cases ry; exact ne_bool (fin_bl I q (congrArg not dec_bl))
  | str j => obtain ⟨t', rfl⟩ := ry; exact PySem.EqMixed.ne_bool_str (fin_bl I q (by simp))
  | _ => exact absurd (show false = true from hs) Bool.false_ne_true
 | int i =>
  obtain ⟨t, rfl⟩ := rx
  cases y with
  | non => cases ry; exact PySem.EqNone.ne_int_none (fin_bl I q (by simp))
  | int j => obtain ⟨t', rfl⟩ := ry; exact ne_int (fin_bl I q (congrArg not dec_int))
  | str j => obtain ⟨t', rfl⟩ := ry; exact PySem.EqMixed.ne_int_str (fin_bl I q (by simp))
  | _ => exact absurd (show false = true from hs) Bool.false_ne_true
 | str i =>
  obtain ⟨t, rfl⟩ := rx
  cases y with
  | non => cases ry; exact PySem.EqNone.ne_str_none (fin_bl I q (by simp))
  | bl j => cases ry; exact PySem.EqMixed.ne_str_bool (fin_bl I q (by simp))
  | int j => obtain ⟨t', rfl⟩ := ry; exact PySem.EqMixed.ne_str_int (fin_bl I q (by simp))
  | str j => obtain ⟨t', rfl⟩ := ry; exact ne_str (fin_bl I q (congrArg not dec_str))
  | _ => exact absurd (show false = true from hs) Bool.false_ne_true
 | byt i =>
  obtain ⟨t, rfl⟩ := rx
  cases y with
  | byt j => obtain ⟨t', rfl⟩ := ry; exact PySem.W.ne_bytes (fin_bl I q (congrArg not dec_byt))
  | _ => exact absurd (show false = true from hs) Bool.false_ne_true
 | _ => cases y <;> exact absurd (show false = true from hs) Bool.false_ne_true
theorem op_lt : OpR X (compareOp .Lt) (rI0 fun i j => .bl (decide (i < j))) := opB0 fun _ _ _ _ _ _ _ q => lt_int q
theorem op_le : OpR X (compareOp .LtE) (rI0 fun i j => .bl (decide (i ≤ j))) := opB0 fun _ _ _ _ _ _ _ q => le_int q
theorem op_gt : OpR X (compareOp .Gt) (rI0 fun i j => .bl (decide (j < i))) := opB0 fun _ _ _ _ _ _ _ q => gt_int q
theorem op_ge : OpR X (compareOp .GtE) (rI0 fun i j => .bl (decide (j ≤ i))) := opB0 fun _ _ _ _ _ _ _ q => ge_int q
theorem op_isN : OpR X (compareOp .Is) (fun x y H Q => y = .non ∧ Q (.bl (decide (x = .non))) H) := by
 intro pins s σ H x y v u Q I rx ry h
 obtain ⟨rfl, q⟩ := h
 cases ry
 refine is_none_gen (fin_bl I q ?_)
 cases x <;> first
  | (cases rx; rfl)
  | (obtain ⟨t, rfl⟩ := rx; rfl)
theorem op_notN : OpR X (compareOp .IsNot) (fun x y H Q => y = .non ∧ Q (.bl (!decide (x = .non))) H) := by
 intro pins s σ H x y v u Q I rx ry h
 obtain ⟨rfl, q⟩ := h
 cases ry
 refine isnot_none_gen (fin_bl I q ?_)
 cases x <;> first
  | (cases rx; rfl)
  | (obtain ⟨t, rfl⟩ := rx; rfl)
theorem nomark (b : Expr) {op : CmpOp} (h : op ≠ .In := by decide) (h2 : op ≠ .NotIn := by decide) : behindInMarks op b = false := by
 have e1 : (op == CmpOp.In) = false := by cases op <;> first | rfl | exact absurd rfl h
 have e2 : (op == CmpOp.NotIn) = false := by cases op <;> first | rfl | exact absurd rfl h2
 cases b <;> simp [behindInMarks, e1, e2]
theorem pe_cmpR {op : CmpOp} {r : R2} (ho : OpR X (compareOp op) r) (ha : PE X a ta) (hb : PE X b tb) (hm : behindInMarks op b = false) : PE X (.Compare a [op] [b] pos) (tOp r ta tb) := by
 intro pins s σ H Q I h
 exact wpAny_Compare1 (binT ha hb I h fun v u s2 x y H2 I2 rx ry q => ho pins s2 σ H2 x y v u Q I2 rx ry q) hm
def tTest (t : TE) : TT := fun σ H Q => t σ H fun x H' => ∃ k, x = .bl k ∧ Q k H'
theorem pt_cmpR {op : CmpOp} {r : R2} (ho : OpR X (compareOp op) r) (ha : PE X a ta) (hb : PE X b tb) (hm : behindInMarks op b = false) : PT X (.Compare a [op] [b] pos) (tTest (tOp r ta tb)) := by
 intro pins s σ H Q I h
 refine wpAny_isTrue_Compare1 (thn (ha pins s σ H _ I h) fun v s1 ⟨x, H1, I1, r1, q1⟩ => thn (hb pins s1 σ H1 _ I1 q1) fun u s2 ⟨y, H2, I2, r2, q2⟩ =>
  thn (ho pins s2 σ H2 x y v u _ I2 r1 r2 q2) fun c s3 ⟨z, H3, I3, r3, k, e, q3⟩ => ?_) hm
 subst e
 cases r3
 exact wpAny_truthy_bool ⟨H3, I3, q3⟩
def tChain (r r' : R2) (ta tb tc : TE) : TE := fun σ H Q => ta σ H fun x H1 => tb σ H1 fun y H2 => r x y H2 fun z H3 => ∃ k, z = .bl k ∧
 (if k = true then tc σ H3 fun w' H4 => r' y w' H4 Q else Q (.bl false) H3)
theorem pt_chain {op op' : CmpOp} {r r' : R2} (ho : OpR X (compareOp op) r) (ho' : OpR X (compareOp op') r') (ha : PE X a ta) (hb : PE X b tb) (hc : PE X c tc)
  (hm : lastMarks [op, op'] [b, c] = false := by with_unfolding_all rfl) : PT X (.Compare a [op, op'] [b, c] pos) (tTest (tChain r r' ta tb tc)) := by
 intro pins s σ H Q I h
 refine isTrue_chain (thn (ha pins s σ H _ I h) fun v s1 ⟨x, H1, I1, r1, q1⟩ => test_link (thn (hb pins s1 σ H1 _ I1 q1) fun u s2 ⟨y, H2, I2, r2, q2⟩ =>
  thn (ho pins s2 σ H2 x y v u _ I2 r1 r2 q2) fun d s3 ⟨z, H3, I3, r3, k, e, q3⟩ => ?_)) hm
 subst e
 cases r3
 refine wpAny_truthy_bool ?_
 cases k with
 | false =>
  obtain ⟨k', e', q'⟩ := q3
  cases e'
  exact ite_ff ⟨H3, I3, q'⟩
 | true =>
  refine ite_tt (test_last (thn (hc pins s3 σ H3 _ I3 q3) fun w' s4 ⟨z', H4, I4, r4, q4⟩ => thn (ho' pins s4 σ H4 y z' u w' _ I4 r2 r4 q4) fun d' s5 ⟨z2, H5, I5, r5, k2, e2, q5⟩ => ?_))
  subst e2
  cases r5
  exact wpAny_truthy_bool ⟨H5, I5, q5⟩
theorem line63 : (sizeLine : Nat) < 2 ^ 63 := by rw [sizeLine_eq]; decide
theorem vals1 {x : V} {us : List Value} (r : Vals [x] us) : ∃ u, us = [u] ∧ RelV x u := by
 cases r with
 | cons r1 r2 => cases r2; exact ⟨_, rfl, r1⟩
theorem vals2 {x y : V} {us : List Value} (r : Vals [x, y] us) : ∃ u w', us = [u, w'] ∧ RelV x u ∧ RelV y w' := by
 cases r with
 | cons r1 r2 =>
  cases r2 with
  | cons r3 r4 => cases r4; exact ⟨_, _, rfl, r1, r3⟩
theorem call_abs : CallR X (.builtin "abs") (fun xs H Q => ∃ i, xs = [.int i] ∧ Q (.int (if i < 0 then -i else i)) H) := by
 intro pins s σ H xs us Q I r h
 obtain ⟨i, rfl, q⟩ := h
 obtain ⟨u, rfl, t, rfl⟩ := vals1 r
 exact call_abs_int fun u tk => ⟨.int (if i < 0 then -i else i), H, I.tok _, ⟨_, rfl⟩, q⟩
theorem call_int1 : CallR X (.type "int") (fun xs H Q => (∃ i, xs = [.int i] ∧ Q (.int i) H) ∨ ∃ k, xs = [.bl k] ∧ Q (.int (if k then 1 else 0)) H) := by
 intro pins s σ H xs us Q I r h
 rcases h with ⟨i, rfl, q⟩ | ⟨k, rfl, q⟩
 ·obtain ⟨u, rfl, t, rfl⟩ := vals1 r
  exact call_int_int ⟨.int i, H, I, ⟨_, rfl⟩, q⟩
 ·obtain ⟨u, rfl, r1⟩ := vals1 r
  cases r1
  exact call_int_bool ⟨.int (if k then 1 else 0), H, I.tok _, ⟨_, rfl⟩, q⟩
end
end L2
namespace L2
open PySem PySem.Spec PyProof.Rows
structure ObjM (h : Heap) (x dx C : Addr) (mA : Str → Option Value) : Prop where
 obj : h.get? x = some (PySem.W.instObj C dx)
 ns : h.Ns1 dx mA
 ne : dx ≠ x
theorem lookIn_ns {h : Heap} {dx : Addr} {mA : Str → Option Value} (n : h.Ns1 dx mA) : ∃ od, h.get? dx = some od ∧ ∀ name, PySem.W.lookIn name od = some (mA name) := by
 obtain ⟨o, es, ep, ho, hd, hk, _, hm⟩ := n
 refine ⟨o, ho, fun name => ?_⟩
 have e := hm name
 unfold nsFind findBy at e
 rw [← Array.find?_toList] at e
 unfold PySem.W.lookIn
 rw [hd]
 dsimp only
 split
 ·rename_i y q
  rw [q] at e
  exact congrArg some e
 ·rename_i q
  rw [q] at e
  have a : es.toList.any (·.refKey) = false := by
   rw [List.any_eq_false]
   intro y hy
   obtain ⟨z, t, hkey⟩ := hk y (Array.mem_toList_iff.mp hy)
   simp [DictEntry.refKey, hkey]
  have a' : ¬ es.toList.any (·.refKey) = true := by rw [a]; exact Bool.false_ne_true
  rw [if_neg a']
  exact congrArg some e
theorem ObjM.look {h : Heap} {x dx C : Addr} {mA : Str → Option Value} (I : ObjM h x dx C mA) : ∃ od, PySem.W.InstAt h x (PySem.W.instObj C dx) C (some od) ∧ ∀ name, PySem.W.lookIn name od = some (mA name) :=
 let ⟨od, ho, hl⟩ := lookIn_ns I.ns
 ⟨od, ⟨I.obj, rfl, rfl, ho⟩, hl⟩
section
variable {prog : Program} {w : World} {A : Around} {E : Value → Shared → Prop} {s : Shared} {K : PySem.W.Frag} {x dx C f : Addr} {mA : Str → Option Value} {name : Str} {v : Value}
theorem get_map {expr : Bool} {Q : Value → Shared → Prop} (X : K.In s.heap) (I : ObjM s.heap x dx C mA) (hg : PySem.W.plainGet K C name = true) (hh : PySem.W.hasDictIn K C = true)
  (ha : PySem.W.findIn K (.ref C) name = some none) (hv : mA name = some v) (hv' : PySem.W.handedIn v = true) (h : Q v { s with toks := s.toks + 1 }) :
  wpAny (model prog w) A (getAttr (.ref x) name expr) Q E s := by
 obtain ⟨od, J, hl⟩ := I.look
 exact PySem.W.get_value X J (PySem.W.plainGet_of hg).1 (PySem.W.findObj_own hh ha rfl (by rw [hl, hv])) hv' h
theorem get_meth {pl : Sem Bool} {Q : Value × List Value → Shared → Prop} (X : K.In s.heap) (I : ObjM s.heap x dx C mA) (hg : PySem.W.plainGet K C name = true)
  (hf : PySem.W.findIn K (.ref C) name = some (some (.ref f))) (ht : PySem.W.isFn K (.ref f) = true) (hv : mA name = none) (h : Q (.ref f, [.ref x]) s) :
  wpAny (model prog w) A (getMethod (.ref x) name pl) Q E s := by
 obtain ⟨od, J, hl⟩ := I.look
 exact PySem.W.method_fn X J (PySem.W.plainGet_of hg).1 (PySem.W.plainGet_of hg).2 hf (beq_iff_eq.mp ht) (by show (PySem.W.lookIn name od).map (·.isSome) = some false; rw [hl, hv]; rfl) h
theorem set_map {ns : List Str} {Q : Unit → Shared → Prop} (X : K.In s.heap) (I : ObjM s.heap x dx C mA)
  (hs : PySem.W.findIn K (.ref C) "__setattr__" = some (some (.builtin "object.__setattr__"))) (hp : PySem.W.plainOver K C = true) (ht : PySem.W.takerIn K C name = some none) (hh : PySem.W.hasDictIn K C = true)
  (hw : PySem.Within mA ns) (hsz : ns.length ≤ sizeLine)
  (h : ∀ h', ObjM h' x dx C (fun y => if y = name then some v else mA y) → Heap.SameBut dx s.heap h' → Q () { s with heap := h', toks := s.toks + 2 }) :
  wpAny (model prog w) A (setAttr (.ref x) name v) Q E s := by
 obtain ⟨od, J, hl⟩ := I.look
 refine PySem.W.set_plain X J hs (PySem.W.osa_open (s := { s with toks := s.toks + 1 }) (r := none) X J hp ht fun b => ?_)
 obtain ⟨cd, hc, hd'⟩ := PySem.W.any_some hh
 have hx : s.heap.get? x = some ⟨.ref C, some dx, .plain, #[]⟩ := I.obj
 refine wpAny_bind (wpAny_pure (wpAny_bind (wpAny_bind (wpAny_loadPart hx (wpAny_bind (PySem.W.Looks.here (s := { s with toks := s.toks + 1 }) (PySem.W.looks_clsIn X hc) ?_))))))
 rw [hd']
 refine wpAny_pure (a := some dx) (wpAny_bind (wpAny_pure (wpAny_bind ?_)))
 refine wpAny_nsSet1 (s := { s with toks := s.toks + 1 }) I.ns fun h' hn2 hs2 => ?_
 obtain ⟨oD, esD, epD, hoD, hdD, hcD⟩ := hn2.count (PySem.Within.cons name v hw)
 refine wpAny_bind (wpAny_lookBehind hoD (by rw [hdD]; exact pastItsLine_dict (Nat.le_trans hcD (by rw [List.length_cons]; omega))) ?_)
 exact wpAny_pure (h _ ⟨(hs2.2 _ (Ne.symm I.ne)).trans I.obj, hn2, I.ne⟩ hs2)
theorem make_map {R : Result → Shared → Prop} {vs : List Value} {kw : List (Str × Value)} (X : K.In s.heap) (hm : PySem.W.makesIn K C = true)
  (hi : PySem.W.findIn K (.ref C) "__init__" = some (some (.ref f))) (hf : PySem.W.typeIn K (.ref f) = some (.type "function"))
  (h : codeAny (model prog w) (A.under (.builtin "type.__call__" ⟨.ref C :: vs, kw⟩)) (.call (.ref f) ⟨.ref (s.heap.objs.size + 1) :: vs, kw⟩) (PySem.W.InitBack (s.heap.objs.size + 1) R)
   { s with heap := (s.heap.push PySem.W.emptyDict).push (PySem.W.instObj C s.heap.objs.size) }) :
  codeAny (model prog w) A (.call (.ref C) ⟨vs, kw⟩) R s := by
 obtain ⟨hh, g, d, t, os⟩ := s
 exact PySem.W.make_core (PySem.W.makes_of X hm) (PySem.W.looks_findIn X hi) (fun self => PySem.W.bind_fn X self hf) (.inl rfl) h
end
def putF (f : Str) (v : V) : List (Str × V) → List (Str × V)
 | [] => [(f, v)]
 | (g, x) :: r => if g = f then (g, v) :: r else (g, x) :: putF f v r
theorem lookup_putF (f g : Str) (v : V) : ∀ fs : List (Str × V), (putF f v fs).lookup g = if g = f then some v else fs.lookup g
 | [] => by
  show List.lookup g [(f, v)] = _
  by_cases h : g = f
  ·have hb : (g == f) = true := beq_iff_eq.mpr h
   simp only [List.lookup, hb, if_pos h]
  ·have hb : (g == f) = false := beq_eq_false_iff_ne.mpr h
   simp only [List.lookup, hb, if_neg h]
 | (k, x) :: r => by
  have ih := lookup_putF f g v r
  rw [show putF f v ((k, x) :: r) = (if k = f then (k, v) :: r else (k, x) :: putF f v r) from rfl]
  by_cases hk : k = f
  ·rw [if_pos hk]
   by_cases h : g = k
   ·have hb : (g == k) = true := beq_iff_eq.mpr h
    simp only [List.lookup, hb, if_pos (h.trans hk)]
   ·have hb : (g == k) = false := beq_eq_false_iff_ne.mpr h
    simp only [List.lookup, hb, if_neg (fun e : g = f => h (e.trans hk.symm))]
  ·rw [if_neg hk]
   by_cases h : g = k
   ·have hb : (g == k) = true := beq_iff_eq.mpr h
    simp only [List.lookup, hb, if_neg (fun e : g = f => hk (h.symm.trans e))]
   ·have hb : (g == k) = false := beq_eq_false_iff_ne.mpr h
    simp only [List.lookup, hb]
    exact ih
theorem keys_putF (f : Str) (v : V) : ∀ fs : List (Str × V), f ∈ (putF f v fs).map (·.1) ∧ ∀ g, g ∈ fs.map (·.1) → g ∈ (putF f v fs).map (·.1)
 | [] => ⟨by simp [putF], fun g h => by simp at h⟩
 | (k, x) :: r => by
  obtain ⟨i1, i2⟩ := keys_putF f v r
  rw [show putF f v ((k, x) :: r) = (if k = f then (k, v) :: r else (k, x) :: putF f v r) from rfl]
  by_cases hk : k = f
  ·rw [if_pos hk]
   subst hk
   exact ⟨by simp, fun g h => by simpa using h⟩
  ·rw [if_neg hk]
   refine ⟨?_, fun g h => ?_⟩
   ·rw [List.map_cons]
    exact List.mem_cons_of_mem _ i1
   ·rw [List.map_cons] at h ⊢
    rcases List.mem_cons.mp h with e | e
    ·exact List.mem_cons.mpr (.inl e)
    ·exact List.mem_cons_of_mem _ (i2 g e)
theorem length_putF (f : Str) (v : V) : ∀ fs : List (Str × V), (putF f v fs).length ≤ fs.length + 1
 | [] => by simp [putF]
 | (k, x) :: r => by
  have ih := length_putF f v r
  rw [show putF f v ((k, x) :: r) = (if k = f then (k, v) :: r else (k, x) :: putF f v r) from rfl]
  by_cases hk : k = f
  ·rw [if_pos hk, List.length_cons, List.length_cons]; omega
  ·rw [if_neg hk, List.length_cons, List.length_cons]; omega
theorem RelO.some_of {v : V} {o : Option Value} (r : RelO (some v) o) : ∃ u, o = some u ∧ RelV v u := by
 cases o with
 | none => exact (show False from r).elim
 | some u => exact ⟨u, rfl, r⟩
theorem RelO.none_of {o : Option Value} (r : RelO none o) : o = none := by
 cases o with
 | none => rfl
 | some u => exact (show False from r).elim
theorem handed_of {v : V} {u : Value} (r : RelV v u) : PySem.W.handedIn u = true := by
 cases v with
 | non => cases (show u = Value.none from r); rfl
 | bl b => cases (show u = Value.bool b from r); rfl
 | int i => obtain ⟨t, e⟩ := (show ∃ t, u = Value.int i t from r); cases e; rfl
 | str x => obtain ⟨t, e⟩ := (show ∃ t, u = Value.str x t from r); cases e; rfl
 | byt b => obtain ⟨t, e⟩ := (show ∃ t, u = Value.bytes b t from r); cases e; rfl
 | flt b => obtain ⟨t, e⟩ := (show ∃ t, u = Value.float b t from r); cases e; rfl
 | ref a => cases (show u = Value.ref a from r); rfl
 | ty n => cases (show u = Value.type n from r); rfl
section
variable {P : Program} {w : World} {H H' : Hp} {h h' : Heap} {a C dx : Addr} {fs fs' : List (Str × V)}
theorem ins_get (hok : HOk P w H h) (e : H a = some (.ins C dx fs)) : ∃ mA, ObjM h a dx C mA ∧ (∀ f, RelO (fs.lookup f) (mA f)) ∧ PySem.Within mA (fs.map (·.1)) ∧ fs.length ≤ 1000 ∧ H dx = some (.own a) := by
 obtain ⟨d, z, ne, ob, mA, n, r, q⟩ := (show ObjOk P w H h a (.ins C dx fs) from hok a _ e)
 exact ⟨mA, ⟨ob, n, ne⟩, r, q, z, d⟩
end
structure Cls (K : PySem.W.Frag) (C : Addr) : Prop where
 pg : PySem.W.plainGet K C Str.empty = true
 hd : PySem.W.hasDictIn K C = true
 po : PySem.W.plainOver K C = true
 sa : PySem.W.findIn K (.ref C) "__setattr__" = some (some (.builtin "object.__setattr__"))
theorem Cls.get {K : PySem.W.Frag} {C : Addr} (c : Cls K C) (f : Str) : PySem.W.plainGet K C f = true := c.pg
def NoAttr (K : PySem.W.Frag) (C : Addr) (f : Str) : Prop := PySem.W.findIn K (.ref C) f = some none
theorem NoAttr.taker {K : PySem.W.Frag} {C : Addr} {f : Str} (n : NoAttr K C f) : PySem.W.takerIn K C f = some none := by
 unfold PySem.W.takerIn
 rw [show PySem.W.findIn K (.ref C) f = some none from n]
 rfl
structure Con (K : PySem.W.Frag) (C : Addr) (f : Str) (v : V) (u : Value) : Prop where
 at_ : PySem.W.findIn K (.ref C) f = some (some u)
 rel : RelV v u
 get : PySem.W.specialIn K u "__get__" = some none
 cp : PySem.W.copiedNames.contains f = false
structure Meth (K : PySem.W.Frag) (C : Addr) (m : Str) (f : Addr) : Prop where
 at_ : PySem.W.findIn K (.ref C) m = some (some (.ref f))
 fn : PySem.W.isFn K (.ref f) = true
 kp : PySem.W.keepIn K (.ref f) = true
section
variable {X : Cx} {pins : List (Addr × Obj)} {σ : St} {H : Hp} {s : Shared} {a C dx : Addr} {fs : List (Str × V)} {f : Str} {v : V} {A : Around} {E : Value → Shared → Prop}
theorem getattr_ok {b : Bool} {Q : Value → Shared → Prop} (I : Inv X pins σ H s) (e : H a = some (.ins C dx fs)) (c : Cls X.K C) (n : NoAttr X.K C f) (l : fs.lookup f = some v)
  (h : ∀ u s', Inv X pins σ H s' → RelV v u → Q u s') : wpAny (model X.prog X.w) A (getAttr (.ref a) f b) Q E s := by
 obtain ⟨mA, O, r, _, _, _⟩ := ins_get I.hok e
 obtain ⟨u, hu, ru⟩ := RelO.some_of (v := v) (o := mA f) (by rw [← l]; exact r f)
 exact get_map I.kIn O (c.get f) c.hd n hu (handed_of ru) (h u _ (I.tok _) ru)
theorem getmeth_ok {m : Str} {g : Addr} {pl : Sem Bool} {Q : Value × List Value → Shared → Prop} (I : Inv X pins σ H s) (e : H a = some (.ins C dx fs)) (c : Cls X.K C) (k : Meth X.K C m g) (l : fs.lookup m = none)
  (h : Q (.ref g, [.ref a]) s) : wpAny (model X.prog X.w) A (getMethod (.ref a) m pl) Q E s := by
 obtain ⟨mA, O, r, _, _, _⟩ := ins_get I.hok e
 have hn : mA m = none := RelO.none_of (by rw [← l]; exact r m)
 exact get_meth I.kIn O (c.get m) k.at_ k.fn hn h
theorem setattr_ok {y : V} {u : Value} {Q : Unit → Shared → Prop} (I : Inv X pins σ H s) (e : H a = some (.ins C dx fs)) (c : Cls X.K C) (n : NoAttr X.K C f) (hl : fs.length < 1000) (ry : RelV y u)
  (h : ∀ s', Inv X pins σ (upd H a (.ins C dx (putF f y fs))) s' → Q () s') : wpAny (model X.prog X.w) A (setAttr (.ref a) f u) Q E s := by
 obtain ⟨mA, O, r, wi, _, ho⟩ := ins_get I.hok e
 have hz : (fs.map (·.1)).length ≤ sizeLine := by rw [List.length_map, sizeLine_eq]; omega
 refine set_map I.kIn O c.sa c.po n.taker c.hd wi hz fun h' O' sb => h _ ?_
 have hd : ∃ o, h'.get? dx = some o := let ⟨o, _, _, e', _⟩ := O'.ns; ⟨o, e'⟩
 refine I.write (x := a) (e := dx) (by rw [e]; exact True.intro) (.inr ho) (fun b q hb z => (sb.2 b hb).trans z) hd ?_
 refine ⟨by rw [upd_ne O.ne]; exact ho, ?_, O.ne, O'.obj, _, O'.ns, fun g => ?_, fun g hg => ?_⟩
 ·have := length_putF f y fs; omega
 ·show RelO ((putF f y fs).lookup g) (if g = f then some u else mA g)
  rw [lookup_putF]
  by_cases q : g = f
  ·rw [if_pos q, if_pos q]; exact ry
  ·rw [if_neg q, if_neg q]; exact r g
 ·by_cases q : g = f
  ·rw [q]; exact (keys_putF f y fs).1
  ·refine (keys_putF f y fs).2 g (wi g fun z => hg ?_)
   show (if g = f then some u else mA g) = none
   rw [if_neg q]; exact z
theorem Inv.made (I : Inv X pins σ H s) : Inv X pins σ (upd (upd H s.heap.objs.size (.own (s.heap.objs.size + 1))) (s.heap.objs.size + 1) (.ins C s.heap.objs.size []))
  { s with heap := (s.heap.push PySem.W.emptyDict).push (PySem.W.instObj C s.heap.objs.size) } := by
 have e1 : (s.heap.push PySem.W.emptyDict).get? s.heap.objs.size = some PySem.W.emptyDict := Heap.get?_push_size s.heap rfl
 have e2 : ((s.heap.push PySem.W.emptyDict).push (PySem.W.instObj C s.heap.objs.size)).get? (s.heap.objs.size + 1) = some (PySem.W.instObj C s.heap.objs.size) := by
  have := Heap.get?_push_size (s.heap.push PySem.W.emptyDict) (o := PySem.W.instObj C s.heap.objs.size) rfl
  rwa [Heap.size_push] at this
 have e3 : (s.heap.push PySem.W.emptyDict).Ns s.heap.objs.size (fun _ => none) := ⟨PySem.W.emptyDict, #[], _, e1, rfl, (fun e he => absurd he (by simp)), fun _ => rfl⟩
 have I1 := I.laid (a := s.heap.objs.size) (o := .own (s.heap.objs.size + 1)) (h' := s.heap.push PySem.W.emptyDict) (t' := s.toks) (fun b u q => Heap.get?_push_of_some _ q) (Nat.le_refl _) ⟨_, e1⟩
 refine I1.laid (a := s.heap.objs.size + 1) (o := .ins C s.heap.objs.size []) (t' := s.toks) (fun b u q => Heap.get?_push_of_some _ q) (Nat.le_of_eq (Heap.size_push _ _)) ?_
 have ne : s.heap.objs.size ≠ s.heap.objs.size + 1 := Nat.ne_of_lt (Nat.lt_succ_self _)
 refine ⟨by rw [upd_ne ne, upd_same], Nat.zero_le _, ne, e2, fun _ => none, (Heap.Ns1.of_empty e3).at fun o q => Heap.get?_push_of_some _ q, fun _ => True.intro, fun y hy => absurd rfl hy⟩
theorem attr_of {prog : Program} {w : World} {env : Env} {e : Expr} {f : Str} {pos : Pos} {s : Shared} {Q : Value → Shared → Prop} (hb : attributeBase e f env (eval e env) = eval e env)
  (h : wpAny (model prog w) A (eval e env) (fun o s₁ => wpAny (model prog w) A (getAttr o f true) Q E s₁) E s) : wpAny (model prog w) A (eval (.Attribute e f pos) env) Q E s :=
 Attribute_any_ h (by rw [arm_eval_Attribute, hb])
end
def tFld (K : PySem.W.Frag) (ta : TE) (f : Str) : TE := fun σ H Q => ta σ H fun x H1 => ∃ a C dx fs v, x = .ref a ∧ H1 a = some (.ins C dx fs) ∧ Cls K C ∧ NoAttr K C f ∧ fs.lookup f = some v ∧ Q v H1
def sFld (K : PySem.W.Frag) (ta tv : TE) (f : Str) : TS := fun D σ H => tv σ H fun y H1 => ta σ H1 fun x H2 => ∃ a C dx fs, x = .ref a ∧ H2 a = some (.ins C dx fs) ∧ Cls K C ∧ NoAttr K C f ∧ fs.length < 1000 ∧
 D.nx σ (upd H2 a (.ins C dx (putF f y fs)))
section
variable {X : Cx} {o e value : Expr} {f : Str} {pos pos' tpos : Pos} {ta tv : TE}
theorem pe_fld (he : PE X e ta) (hb : attributeBase e f X.env (eval e X.env) = eval e X.env) : PE X (.Attribute e f pos) (tFld X.K ta f) := by
 intro pins s σ H Q I h
 refine attr_of hb (thn (he pins s σ H _ I h) fun u s1 ⟨x, H1, I1, rx, a, C, dx, fs, v, ex, ea, c, n, l, q⟩ => ?_)
 subst ex
 obtain rfl : u = Value.ref a := rx
 exact getattr_ok I1 ea c n l fun u' s2 I2 ru => ⟨v, H1, I2, ru, q⟩
theorem ps_fld (ha : PE X o ta) (hv : PE X value tv) (hs : swapsWith value (some (.Attribute o f pos')) pos.line X.env = pure false) : PS X (.Assign [.Attribute o f pos'] value pos) (sFld X.K ta tv f) := by
 intro pins s σ H D I h
 refine plainObj_wpAny_Assign_Attribute (thn (hv pins s σ H _ I h) fun u s1 ⟨y, H1, I1, ry, q⟩ => thn (ha pins s1 σ H1 _ I1 q) fun ov s2 ⟨x, H2, I2, rx, a, C, dx, fs, ex, ea, c, n, l, q2⟩ => ?_) hs
 subst ex
 obtain rfl : ov = Value.ref a := rx
 exact setattr_ok I2 ea c n l ry fun s3 I3 => ⟨σ, _, I3, q2⟩
end
section
variable {X : Cx} {pins : List (Addr × Obj)} {σ : St} {H : Hp} {s : Shared} {A : Around} {E : Value → Shared → Prop} {Q : Value → Shared → Prop} {c : Value} {b : Bool}
inductive TyOf (K : PySem.W.Frag) (H : Hp) : V → Value → Prop where
 | non : TyOf K H .non (.type "NoneType")
 | bl (x : Bool) : TyOf K H (.bl x) (.type "bool")
 | int (i : Int) : TyOf K H (.int i) (.type "int")
 | str (x : Str) : TyOf K H (.str x) (.type "str")
 | flt (x : UInt64) : TyOf K H (.flt x) (.type "float")
 | lst {a : Addr} {xs : List V} (e : H a = some (.lst xs)) : TyOf K H (.ref a) (.type "list")
 | frz {a : Addr} {o : Obj} {xs : List V} (e : H a = some (.frz o (.lst xs))) : TyOf K H (.ref a) (.type "list")
 | tup {a : Addr} {xs : List V} (e : H a = some (.tup xs)) : TyOf K H (.ref a) (.type "tuple")
 | dK {a : Addr} {kvs : List (Key × V)} (e : H a = some (.dK kvs)) : TyOf K H (.ref a) (.type "dict")
 | dT {a : Addr} {kvs : List (List Key × V)} (e : H a = some (.dT kvs)) : TyOf K H (.ref a) (.type "dict")
 | ins {a C dx : Addr} {fs : List (Str × V)} (e : H a = some (.ins C dx fs)) (cl : Cls K C) (ha : PySem.W.findIn K (.ref C) "__class__" = some (some (.builtin "object.__class__")))
   (hn : PySem.W.specialIn K (.builtin "object.__class__") "__get__" = some (some (.builtin "getset_descriptor.__get__"))) (htk : PySem.W.takesIn K (.builtin "object.__class__") = some true)
   (hm : PySem.W.mroIn K C (.type "object") = some true) : TyOf K H (.ref a) (.ref C)
theorem isinst_ok {x : V} {u t : Value} (I : Inv X pins σ H s) (rx : RelV x u) (ty : TyOf X.K H x t) (e : PySem.W.kitOne X.K t c = some b) (h : ∀ tk, Q (.bool b) { s with toks := tk }) :
  wpAny (model X.prog X.w) A (call (.builtin "isinstance") [u, c]) Q E s := by
 cases ty with
 | non => cases (show u = Value.none from rx); exact PySem.W.kia_one PySem.W.kitx_none I.kIn True.intro e (fun z => nomatch z) h
 | bl y => cases (show u = Value.bool y from rx); exact PySem.W.kia_one PySem.W.kitx_bool I.kIn True.intro e (fun z => nomatch z) h
 | int i => obtain ⟨t, q⟩ := (show ∃ t, u = Value.int i t from rx); cases q; exact PySem.W.kia_one PySem.W.kitx_int I.kIn True.intro e (fun z => nomatch z) h
 | str y => obtain ⟨t, q⟩ := (show ∃ t, u = Value.str y t from rx); cases q; exact PySem.W.kia_one PySem.W.kitx_str I.kIn True.intro e (fun z => nomatch z) h
 | flt y => obtain ⟨t, q⟩ := (show ∃ t, u = Value.float y t from rx); cases q; exact PySem.W.kia_one PySem.W.kitx_float I.kIn True.intro e (fun z => nomatch z) h
 | @lst a xs ea =>
  cases (show u = Value.ref a from rx)
  obtain ⟨_, _, n, _, h1⟩ := (show ObjOk X.prog X.w H s.heap a (.lst xs) from I.hok a _ ea)
  exact PySem.W.kia_one PySem.W.kitx_list I.kIn ⟨_, h1, rfl⟩ e (fun z => nomatch z) h
 | @frz a ob xs ea =>
  cases (show u = Value.ref a from rx)
  obtain ⟨_, _, _, n, _, h1⟩ := (show ObjOk X.prog X.w H s.heap a (.frz ob (.lst xs)) from I.hok a _ ea)
  exact PySem.W.kia_one PySem.W.kitx_list I.kIn ⟨_, h1, rfl⟩ e (fun z => nomatch z) h
 | @tup a xs ea =>
  cases (show u = Value.ref a from rx)
  obtain ⟨_, _, _, p⟩ := (show ObjOk X.prog X.w H s.heap a (.tup xs) from I.hok a _ ea)
  obtain ⟨o, h1, h2, _⟩ := p
  exact PySem.W.kia_one PySem.W.kitx_tuple I.kIn ⟨o, h1, h2⟩ e (fun z => nomatch z) h
 | @dK a kvs ea =>
  cases (show u = Value.ref a from rx)
  obtain ⟨_, _, vs, _, p⟩ := (show ObjOk X.prog X.w H s.heap a (.dK kvs) from I.hok a _ ea)
  obtain ⟨o, es, ep, h1, h2, _⟩ := p
  exact PySem.W.kia_one PySem.W.kitx_dict I.kIn ⟨o, h1, h2.1⟩ e (fun z => nomatch z) h
 | @dT a kvs ea =>
  cases (show u = Value.ref a from rx)
  obtain ⟨_, _, xs, _, o, es, ep, h1, h2, _⟩ := (show ObjOk X.prog X.w H s.heap a (.dT kvs) from I.hok a _ ea)
  exact PySem.W.kia_one PySem.W.kitx_dict I.kIn ⟨o, h1, h2.1⟩ e (fun z => nomatch z) h
 | @ins a C dx fs ea cl ha hn htk hm =>
  cases (show u = Value.ref a from rx)
  obtain ⟨mA, O, _⟩ := ins_get I.hok ea
  obtain ⟨od, J, _⟩ := O.look
  exact PySem.W.kia_one (PySem.W.kitx_own (cl.get _) cl.hd ha hn htk hm) I.kIn J e (fun z => nomatch z) h
end
end L2
namespace L2
open PySem PySem.Spec PyProof.Rows
structure Room (k : Nat) (A : Around) : Prop where
 hd : A.handled = none
 dp : A.depth + 3 * k + 5 < recursionLimit
 un : A.units + 16 * k + 200 < cLine
 gd : A.guards = some []
theorem Room.mono {j k : Nat} {A : Around} (r : Room k A) (h : j ≤ k) : Room j A := ⟨r.hd, by have := r.dp; omega, by have := r.un; omega, r.gd⟩
theorem Room.deeper {k : Nat} {A : Around} (r : Room (k + 1) A) (env : Env) : Room k (A.deeper env) :=
 ⟨r.hd, by have := r.dp; show A.depth + 1 + 3 * k + 5 < _; omega, by have := r.un; show A.units + 3 + 16 * k + 200 < _; omega, r.gd⟩
theorem make_depth {A : Around} {C : Addr} {us : List Value} {kw : List (Str × Value)} : (A.under (.builtin "type.__call__" ⟨.ref C :: us, kw⟩)).depth = A.depth + 1 := by
 first | rfl | simp [Around.under, Code.weight, Code.isCreation, Code.isGuard, Code.isCaller, Code.frames, Code.isFrame, guardIds]
theorem make_units {A : Around} {C : Addr} {us : List Value} {kw : List (Str × Value)} : (A.under (.builtin "type.__call__" ⟨.ref C :: us, kw⟩)).units = A.units + 1 := by
 first | rfl | simp [Around.under, Code.cUnits, Code.frames, Code.isFrame]
theorem Room.make {k : Nat} {A : Around} (r : Room (k + 1) A) (C : Addr) (us : List Value) (kw : List (Str × Value)) : Room k (A.under (.builtin "type.__call__" ⟨.ref C :: us, kw⟩)) :=
 ⟨r.hd, by have := r.dp; rw [make_depth]; omega, by have := r.un; rw [make_units]; omega, by first | exact r.gd | (simp [Around.under, Code.isGuard, guardIds]; exact r.gd)⟩
theorem Room.depth {k : Nat} {A : Around} (r : Room k A) : A.depth < recursionLimit := by have := r.dp; omega
theorem Room.units {k : Nat} {A : Around} (r : Room k A) : A.units + 64 < cLine := by have := r.un; omega
def tNil : TA := fun _ H Q => Q [] H
def tCons (ta : TE) (tr : TA) : TA := fun σ H Q => ta σ H fun x H1 => tr σ H1 fun xs H2 => Q (x :: xs) H2
section
variable {X : Cx} {e : Expr} {es : List Expr} {te : TE} {t : TA} {pos : Pos}
theorem pa_nil : PA X [] tNil := fun _ _ _ _ H Q I h => Calls.spliced_nil ⟨[], H, I, .nil, h⟩
theorem pa_cons (ha : PE X e te) (hr : PA X es t) (hs : starEach (e :: es) X.env = (false, eval e X.env) :: starEach es X.env := by rfl) : PA X (e :: es) (tCons te t) := by
 intro pos pins s σ H Q I h
 rw [hs]
 show wpAny _ _ (spliced ((false, eval e X.env) :: backTo pos (starEach es X.env))) _ _ s
 refine Calls.spliced_cons (thn (ha pins s σ H _ I h) fun u s1 ⟨x, H1, I1, r1, q1⟩ => ?_)
 exact thn (hr pos pins s1 σ H1 _ I1 q1) fun us s2 ⟨xs, H2, I2, r2, q2⟩ => ⟨x :: xs, H2, I2, .cons r1 r2, q2⟩
def tTup (t : TA) : TE := fun σ H Q => t σ H fun xs H1 => xs.length ≤ sizeLine ∧ ∀ p, H1 p = none → Q (.ref p) (upd H1 p (.tup xs))
def tLst (t : TA) : TE := fun σ H Q => t σ H fun xs H1 => xs.length ≤ sizeLine ∧ ∀ p, H1 p = none → Q (.ref p) (upd H1 p (.lst xs))
theorem pe_tup {x1} (h : PA X es t) : PE X (.Tuple es x1 pos) (tTup t) := by
 intro pins s σ H Q I hq
 refine wpAny_Tuple_spliced (thn (h pos pins s σ H _ I hq) fun us s1 ⟨xs, H1, I1, r, z, q⟩ => ⟨by rw [← r.length]; exact z, ?_⟩)
 have hf : H1 s1.heap.objs.size = none := I1.hok.fresh (Nat.le_refl _)
 refine ⟨.ref s1.heap.objs.size, upd H1 s1.heap.objs.size (.tup xs), I1.laid (t' := s1.toks) (fun b u e => Heap.get?_push_of_some _ e) (Nat.le_refl _) ?_, rfl, q _ hf⟩
 exact ⟨z, us, r, ⟨_, Heap.get?_push_size _ rfl, rfl, _, rfl⟩⟩
theorem pe_lst (h : PA X es t) : PE X (.List es pos) (tLst t) := by
 intro pins s σ H Q I hq
 refine wpAny_List_spliced (thn (h pos pins s σ H _ I hq) fun us s1 ⟨xs, H1, I1, r, z, q⟩ => ⟨by rw [← r.length]; exact z, ?_⟩)
 have hf : H1 s1.heap.objs.size = none := I1.hok.fresh (Nat.le_refl _)
 refine ⟨.ref s1.heap.objs.size, upd H1 s1.heap.objs.size (.lst xs), I1.laid (t' := s1.toks) (fun b u e => Heap.get?_push_of_some _ e) (Nat.le_refl _) ?_, rfl, q _ hf⟩
 exact ⟨z, us, 0, r, Heap.get?_push_size _ rfl⟩
end
abbrev Sp := List V → Hp → VK → XK → Prop
abbrev CXT := List Env → Hp → Shared → XK → Value → Shared → Prop
structure Env0 (P : Program) (w : World) (K : PySem.W.Frag) (mg : Str → Option Value) (base : Heap) (A : Around) (outer : List Env) (s : Shared) (H : Hp) : Prop where
 frames : A.frames = some outer
 mod : Mod K mg base
 bs : ∀ b o, base.get? b = some o → s.heap.get? b = some o ∧ H b = none
 bsz : base.objs.size ≤ s.heap.objs.size
 funs : s.heap.FunFrames base outer
 frf : ∀ b ∈ frs outer, H b = none
 hok : HOk P w H s.heap
 bare : AllBare s.gens
def CE (outer : List Env) (P : Program) (w : World) (H : Hp) (s : Shared) (Q : VK) (u : Value) (s' : Shared) : Prop :=
 ∃ v H', s'.os = s.os ∧ AllBare s'.gens ∧ Un (frs outer) [] H H' s.heap s'.heap ∧ HOk P w H' s'.heap ∧ RelV v u ∧ Q v H'
def CR (CX : CXT) (outer : List Env) (P : Program) (w : World) (H : Hp) (s : Shared) (Q : VK) (E : XK) (r : Result) (s' : Shared) : Prop :=
 match r with
 | .ok (.ret u) => CE outer P w H s Q u s'
 | .ok _ => False
 | .error e => CX outer H s E e s'
structure FnOk (P : Program) (w : World) (K : PySem.W.Frag) (mg : Str → Option Value) (base : Heap) (CX : CXT) (k : Nat) (f : Addr) (fd : FuncData) (ps : List Str) (sp : Sp) : Prop where
 len : ∀ vs H Q E, sp vs H Q E → vs.length = ps.length
 run : ∀ (A : Around) (outer : List Env) (s : Shared) (H : Hp) (args : Args) (us : List Value) (vs : List V) (Q : VK) (E : XK), Room k A → Env0 P w K mg base A outer s H → BindsTo s fd args (ps.zip us) → Vals vs us → sp vs H Q E →
  codeAny (model P w) A (.call (.ref f) args) (CR CX outer P w H s Q E) s
theorem FnOk.mono {P : Program} {w : World} {K : PySem.W.Frag} {mg : Str → Option Value} {base : Heap} {CX : CXT} {j k : Nat} {f : Addr} {fd : FuncData} {ps : List Str} {sp : Sp} (F : FnOk P w K mg base CX j f fd ps sp) (h : j ≤ k) :
  FnOk P w K mg base CX k f fd ps sp := ⟨F.len, fun A outer s H args us vs Q E hr => F.run A outer s H args us vs Q E (hr.mono h)⟩
theorem FnOk.imp {P : Program} {w : World} {K : PySem.W.Frag} {mg : Str → Option Value} {base : Heap} {CX : CXT} {k : Nat} {f : Addr} {fd : FuncData} {ps : List Str} {sp sp' : Sp} (F : FnOk P w K mg base CX k f fd ps sp)
  (h : ∀ vs H Q E, sp' vs H Q E → sp vs H Q E) : FnOk P w K mg base CX k f fd ps sp' :=
 ⟨fun vs H Q E q => F.len vs H Q E (h _ _ _ _ q), fun A outer s H args us vs Q E hr he hb hv hs => F.run A outer s H args us vs Q E hr he hb hv (h _ _ _ _ hs)⟩
theorem Env0.make {P : Program} {w : World} {K : PySem.W.Frag} {mg : Str → Option Value} {base : Heap} {A : Around} {outer : List Env} {s : Shared} {H : Hp} (e : Env0 P w K mg base A outer s H) (C : Addr) (us : List Value) (kw : List (Str × Value)) :
  Env0 P w K mg base (A.under (.builtin "type.__call__" ⟨.ref C :: us, kw⟩)) outer s H := ⟨by first | exact e.frames | (simpa [Around.under, Code.envs, Code.isFrame, pushEnvs] using e.frames), e.mod, e.bs, e.bsz, e.funs, e.frf, e.hok, e.bare⟩
section
variable {X : Cx} {pins : List (Addr × Obj)} {σ : St} {H : Hp} {s s' : Shared}
theorem Inv.env0 (I : Inv X pins σ H s) : Env0 X.prog X.w X.K X.mg X.base X.A X.stack s H :=
 ⟨I.ok.frames, I.ok.mod, I.bs, Nat.le_trans I.ok.bsz I.sz, I.stack, I.stkFree, I.hok, I.bare⟩
theorem Inv.after {Q : VK} {u : Value} (I : Inv X pins σ H s) (h : CE X.stack X.prog X.w H s Q u s') : EP X pins σ Q u s' := by
 obtain ⟨v, H', os, bare, un, hok, r, q⟩ := h
 obtain ⟨hh, g, d, t, os'⟩ := s'
 obtain rfl : os' = s.os := os
 exact ⟨v, H', I.call (h' := hh) (g' := g) (d' := d) (t' := t) (ch := []) un hok bare (fun b z => absurd z (by simp)), r, q⟩
end
def tCall (sp : Sp) (dvs : List V) (E : XK) (t : TA) : TE := fun σ H Q => t σ H fun vs H1 => sp (vs ++ dvs) H1 Q E
def tMeth (C : Addr) (m : Str) (sp : Sp) (dvs : List V) (E : XK) (ta : TE) (t : TA) : TE := fun σ H Q => ta σ H fun x H1 => ∃ a dx fs, x = .ref a ∧ H1 a = some (.ins C dx fs) ∧ fs.lookup m = none ∧
 t σ H1 fun vs H2 => sp (x :: (vs ++ dvs)) H2 Q E
def tMake (C : Addr) (sp : Sp) (dvs : List V) (E : XK) (t : TA) : TE := fun σ H Q => t σ H fun vs H1 => ∀ x dx, H1 x = none → H1 dx = none → dx ≠ x →
 sp (.ref x :: (vs ++ dvs)) (upd (upd H1 dx (.own x)) x (.ins C dx [])) (fun v H2 => v = .non ∧ Q (.ref x) H2) E
def Binds (K : PySem.W.Frag) (fd : FuncData) (ps : List Str) (ds : List Value) : Prop :=
 ∀ (s : Shared) (us : List Value), K.In s.heap → (us ++ ds).length = ps.length → BindsTo s fd ⟨us, []⟩ (ps.zip (us ++ ds))
theorem Binds.all {K : PySem.W.Frag} {fd : FuncData} {ps : List Str} (h : ∀ us : List Value, us.length = ps.length → bindArgs fd ⟨us, []⟩ = pure (ps.zip us)) : Binds K fd ps [] := fun s us _ hl => by
 rw [List.append_nil] at hl ⊢
 exact .of_eq (h us hl)
def Passes (CX : CXT) (X : Cx) (E : XK) : Prop := ∀ (pins : List (Addr × Obj)) (σ : St) (H : Hp) (s : Shared) (e : Value) (s' : Shared), Inv X pins σ H s → CX X.stack H s E e s' → X.xe e s'
section
variable {X : Cx} {CX : CXT} {k : Nat} {f C : Addr} {fd : FuncData} {ps : List Str} {sp : Sp} {dvs : List V} {ds : List Value} {E : XK} {x m : Str} {p pos apos : Pos} {e o : Expr} {es : List Expr} {ta : TE} {t : TA}
theorem run_fn {pins : List (Addr × Obj)} {σ : St} {H : Hp} {s : Shared} {Q : VK} {us : List Value} {vs : List V} (F : FnOk X.prog X.w X.K X.mg X.base CX k f fd ps sp) (hr : Room k X.A) (hb : Binds X.K fd ps ds) (hd : Vals dvs ds) (hx : Passes CX X E)
  (I : Inv X pins σ H s) (r : Vals vs us) (h : sp (vs ++ dvs) H Q E) : wpAny (model X.prog X.w) X.A (call (.ref f) us) (EP X pins σ Q) X.xe s := by
 have r2 : Vals (vs ++ dvs) (us ++ ds) := r.append hd
 have hl : (us ++ ds).length = ps.length := by rw [← r2.length]; exact F.len _ _ _ _ h
 refine wpAny_call (codeAny_mono (F.run X.A X.stack s H ⟨us, []⟩ (us ++ ds) (vs ++ dvs) Q E hr I.env0 (hb s us I.kIn hl) r2 h) fun r s' hq => ?_)
 cases r with
 | error e => exact hx pins σ H s e s' I hq
 | ok fl =>
  cases fl with
  | ret u => exact I.after hq
  | next => exact False.elim hq
  | brk => exact False.elim hq
  | cont => exact False.elim hq
theorem pe_call (F : FnOk X.prog X.w X.K X.mg X.base CX k f fd ps sp) (hr : Room k X.A) (hg : Gl X x) (hm : X.mg x = some (.ref f)) (hk : PySem.W.keepIn X.K (.ref f) = true) (hb : Binds X.K fd ps ds) (hd : Vals dvs ds) (hx : Passes CX X E)
  (ha : PA X (e :: es) t) (hdb : (x == ("__debug__" : Str)) = false := by decide) (he : starEach (e :: es) X.env = (false, eval e X.env) :: starEach es X.env := by rfl) (hpl : (backTo pos (starEach es X.env)).any (·.1) = false := by rfl) :
  PE X (.Call (.Name x p) (e :: es) [] pos) (tCall sp dvs E t) := by
 intro pins s σ H Q I h
 refine wpAny_Call_Name_kw (ld_glob I hg hm ?_ hdb)
 refine PySem.W.callWith_K (h₀ := X.base) I.ok.mod.kin hk (thn (ha pos pins s σ H _ I h) fun us s1 ⟨vs, H1, I1, r, q⟩ => ⟨I1.kIn, ?_⟩) he hpl
 exact run_fn F hr hb hd hx I1 r q
theorem pe_meth {pl : Sem Bool} (he : PE X o ta) (c : Cls X.K C) (hm : Meth X.K C m f) (F : FnOk X.prog X.w X.K X.mg X.base CX k f fd ps sp) (hr : Room k X.A) (hb : Binds X.K fd ps ds) (hd : Vals dvs ds) (hx : Passes CX X E) (ha : PA X (e :: es) t)
  (hst : starEach (e :: es) X.env = (false, eval e X.env) :: starEach es X.env := by rfl) (hpl : (backTo pos (starEach es X.env)).any (·.1) = false := by rfl)
  (ht : eval (.Call (.Attribute o m apos) (e :: es) [] pos) X.env = (do
   let ov ← eval o X.env
   standAt apos.atName
   let (f, first) ← holding [ov] (getMethod ov m pl)
   callWith pos f first (backTo pos (starEach (e :: es) X.env)) (backToKw pos (keywordEach [] X.env))) := by rfl) :
  PE X (.Call (.Attribute o m apos) (e :: es) [] pos) (tMeth C m sp dvs E ta t) := by
 intro pins s σ H Q I h
 refine PySem.W.methodCall_KW (pl := pl) (thn (he pins s σ H _ I h) fun u s1 ⟨x, H1, I1, rx, a, dx, fs, ex, ea, l, q⟩ => ?_) ht
 subst ex
 obtain rfl : u = Value.ref a := rx
 refine getmeth_ok I1 ea c hm l ?_
 refine PySem.W.callWith_K (first := [.ref a]) (h₀ := X.base) I.ok.mod.kin hm.kp (thn (ha pos pins s1 σ H1 _ I1 q) fun us s2 ⟨vs, H2, I2, r, q2⟩ => ⟨I2.kIn, ?_⟩) hst hpl
 exact run_fn (us := .ref a :: us) (vs := .ref a :: vs) F hr hb hd hx I2 (.cons rfl r) q2
theorem pe_meth0 {pl : Sem Bool} (he : PE X o ta) (c : Cls X.K C) (hm : Meth X.K C m f) (F : FnOk X.prog X.w X.K X.mg X.base CX k f fd ps sp) (hr : Room k X.A) (hb : Binds X.K fd ps ds) (hd : Vals dvs ds) (hx : Passes CX X E)
  (ht : eval (.Call (.Attribute o m apos) [] [] pos) X.env = (do
   let ov ← eval o X.env
   standAt apos.atName
   let (f, first) ← holding [ov] (getMethod ov m pl)
   callWith pos f first (backTo pos (starEach [] X.env)) (backToKw pos (keywordEach [] X.env))) := by rfl) :
  PE X (.Call (.Attribute o m apos) [] [] pos) (tMeth C m sp dvs E ta tNil) := by
 intro pins s σ H Q I h
 refine PySem.W.methodCall_KW (pl := pl) (thn (he pins s σ H _ I h) fun u s1 ⟨x, H1, I1, rx, a, dx, fs, ex, ea, l, q⟩ => ?_) ht
 subst ex
 obtain rfl : u = Value.ref a := rx
 refine getmeth_ok I1 ea c hm l ?_
 exact PySem.W.callWith_K0 (first := [.ref a]) I1.kIn hm.kp (run_fn (us := [.ref a]) (vs := [.ref a]) F hr hb hd hx I1 (.cons rfl .nil) q)
structure Mk (K : PySem.W.Frag) (C f : Addr) : Prop where
 makes : PySem.W.makesIn K C = true
 init : PySem.W.findIn K (.ref C) "__init__" = some (some (.ref f))
 fn : PySem.W.isFn K (.ref f) = true
 kp : PySem.W.keepIn K (.ref C) = true
theorem run_make {pins : List (Addr × Obj)} {σ : St} {H : Hp} {s : Shared} {Q : VK} {us : List Value} {vs : List V} (M : Mk X.K C f) (F : FnOk X.prog X.w X.K X.mg X.base CX k f fd ps sp) (hr : Room (k + 1) X.A) (hb : Binds X.K fd ps ds) (hd : Vals dvs ds)
  (hx : Passes CX X E) (I : Inv X pins σ H s) (r : Vals vs us)
  (h : ∀ x dx, H x = none → H dx = none → dx ≠ x → sp (.ref x :: (vs ++ dvs)) (upd (upd H dx (.own x)) x (.ins C dx [])) (fun v H2 => v = .non ∧ Q (.ref x) H2) E) :
  wpAny (model X.prog X.w) X.A (call (.ref C) us) (EP X pins σ Q) X.xe s := by
 have hq := h (s.heap.objs.size + 1) s.heap.objs.size (I.hok.fresh (Nat.le_succ _)) (I.hok.fresh (Nat.le_refl _)) (Nat.ne_of_lt (Nat.lt_succ_self _))
 have I2 := Inv.made (C := C) I
 have r2 : Vals (V.ref (s.heap.objs.size + 1) :: (vs ++ dvs)) (Value.ref (s.heap.objs.size + 1) :: (us ++ ds)) := .cons rfl (r.append hd)
 have hl : (Value.ref (s.heap.objs.size + 1) :: us ++ ds).length = ps.length := by
  have e := r2.length
  rw [F.len _ _ _ _ hq] at e
  exact e.symm
 refine wpAny_call (make_map (f := f) I.kIn M.makes M.init (beq_iff_eq.mp M.fn) (codeAny_mono (F.run _ X.stack _ _ ⟨Value.ref (s.heap.objs.size + 1) :: us, []⟩ (Value.ref (s.heap.objs.size + 1) :: (us ++ ds)) _ _ E (hr.make C us [])
  (I2.env0.make C us []) (hb _ (Value.ref (s.heap.objs.size + 1) :: us) I2.kIn hl) r2 hq) fun r s' hq' => ?_))
 cases r with
 | error e => exact hx pins σ _ _ e s' I2 hq'
 | ok fl =>
  cases fl with
  | ret u =>
   obtain ⟨v, H', I3, rv, ev, q3⟩ := I2.after hq'
   subst ev
   exact ⟨rv, ⟨V.ref (s.heap.objs.size + 1), H', I3, rfl, q3⟩⟩
  | next => exact False.elim hq'
  | brk => exact False.elim hq'
  | cont => exact False.elim hq'
theorem pe_make (M : Mk X.K C f) (F : FnOk X.prog X.w X.K X.mg X.base CX k f fd ps sp) (hr : Room (k + 1) X.A) (hg : Gl X x) (hm : X.mg x = some (.ref C)) (hb : Binds X.K fd ps ds) (hd : Vals dvs ds) (hx : Passes CX X E)
  (ha : PA X (e :: es) t) (hdb : (x == ("__debug__" : Str)) = false := by decide) (he : starEach (e :: es) X.env = (false, eval e X.env) :: starEach es X.env := by rfl) (hpl : (backTo pos (starEach es X.env)).any (·.1) = false := by rfl) :
  PE X (.Call (.Name x p) (e :: es) [] pos) (tMake C sp dvs E t) := by
 intro pins s σ H Q I h
 refine wpAny_Call_Name_kw (ld_glob I hg hm ?_ hdb)
 refine PySem.W.callWith_K (h₀ := X.base) I.ok.mod.kin M.kp (thn (ha pos pins s σ H _ I h) fun us s1 ⟨vs, H1, I1, r, q⟩ => ⟨I1.kIn, ?_⟩) he hpl
 exact run_make M F hr hb hd hx I1 r q
end
section
variable {X : Cx} {CX : CXT} {k : Nat} {f C : Addr} {fd : FuncData} {ps ks : List Str} {sp : Sp} {E : XK} {x m : Str} {p pos apos kpos : Pos} {e o : Expr} {es : List Expr} {kws : List Keyword} {te ta : TE} {t tk : TA} {nm : Option Str}
structure KBinds (K : PySem.W.Frag) (fd : FuncData) (ps ks : List Str) (g : List Value → List Value → List Value) (gV : List V → List V → List V) : Prop where
 to : ∀ (s : Shared) (us ws : List Value), K.In s.heap → (g us ws).length = ps.length → BindsTo s fd ⟨us, ks.zip ws⟩ (ps.zip (g us ws))
 rel : ∀ {vs : List V} {us : List Value} {zs : List V} {ws : List Value}, Vals vs us → Vals zs ws → Vals (gV vs zs) (g us ws)
variable {g : List Value → List Value → List Value} {gV : List V → List V → List V}
end
structure FnScope (N P : List Str) (sc : Scope) : Prop where
 kind : sc.kind = .function
 co : sc.isCoroutine = false
 gen : sc.isGenerator = false
 nd : N.Nodup
 pre : N.take P.length = P
 par : ∀ x ∈ P, sc.names.lookup x = some .local ∨ sc.names.lookup x = some .cell
 nofree : ∀ y ∈ sc.names, y.2 ≠ .free
theorem bindL_out {kindOf : Str → Option NameKind} {x : Str} : ∀ {binds : List (Str × Value)} {m : Str → Option Value}, (∀ v, (x, v) ∉ binds) → bindL kindOf binds m x = m x
 | [], _, _ => rfl
 | (n, v) :: r, m, h => by
  unfold bindL
  rw [bindL_out fun w hw => h w (List.mem_cons_of_mem _ hw)]
  split
  ·have : x ≠ n := by rintro rfl; exact h v List.mem_cons_self
   simp [this]
  ·rfl
theorem bindC_out {kindOf : Str → Option NameKind} {x : Str} : ∀ {binds : List (Str × Value)} {m : Str → Option Value}, (∀ v, (x, v) ∉ binds) → bindC kindOf binds m x = m x
 | [], _, _ => rfl
 | (n, v) :: r, m, h => by
  unfold bindC
  rw [bindC_out fun w hw => h w (List.mem_cons_of_mem _ hw)]
  split
  ·rfl
  ·have : x ≠ n := by rintro rfl; exact h v List.mem_cons_self
   simp [this]
theorem bindL_get {kindOf : Str → Option NameKind} {x : Str} {v : Value} : ∀ {P : List Str} {vs : List Value} {i : Nat} {m : Str → Option Value}, P.Nodup → P[i]? = some x → vs[i]? = some v → kindOf x = some .local →
  bindL kindOf (P.zip vs) m x = some v
 | [], _, _, _, _, h, _, _ => by simp at h
 | _ :: _, [], _, _, _, _, h, _ => by simp at h
 | p :: P, w :: vs, 0, m, nd, h1, h2, hk => by
  simp at h1 h2; subst h1; subst h2
  show bindL kindOf ((p, w) :: P.zip vs) m p = _
  unfold bindL
  rw [bindL_out fun v hv => (List.nodup_cons.mp nd).1 (List.of_mem_zip hv).1, if_pos hk]
  simp
 | p :: P, w :: vs, i + 1, m, nd, h1, h2, hk => by
  show bindL kindOf ((p, w) :: P.zip vs) m x = _
  unfold bindL
  exact bindL_get (i := i) (List.nodup_cons.mp nd).2 (by simpa using h1) (by simpa using h2) hk
theorem bindC_get {kindOf : Str → Option NameKind} {x : Str} {v : Value} : ∀ {P : List Str} {vs : List Value} {i : Nat} {m : Str → Option Value}, P.Nodup → P[i]? = some x → vs[i]? = some v → kindOf x ≠ some .local →
  bindC kindOf (P.zip vs) m x = some v
 | [], _, _, _, _, h, _, _ => by simp at h
 | _ :: _, [], _, _, _, _, h, _ => by simp at h
 | p :: P, w :: vs, 0, m, nd, h1, h2, hk => by
  simp at h1 h2; subst h1; subst h2
  show bindC kindOf ((p, w) :: P.zip vs) m p = _
  unfold bindC
  rw [bindC_out fun v hv => (List.nodup_cons.mp nd).1 (List.of_mem_zip hv).1, if_neg hk]
  simp
 | p :: P, w :: vs, i + 1, m, nd, h1, h2, hk => by
  show bindC kindOf ((p, w) :: P.zip vs) m x = _
  unfold bindC
  exact bindC_get (i := i) (List.nodup_cons.mp nd).2 (by simpa using h1) (by simpa using h2) hk
def start (N : List Str) (vs : List V) : St := vs.map some ++ List.replicate (N.length - vs.length) none
def cxOf (CX : CXT) (P : Program) (w : World) (K : PySem.W.Frag) (mg : Str → Option Value) (base : Heap) (N : List Str) (qual : Str) (scope : Scope) (f : Addr) (cd : Value) (A : Around) (outer : List Env) (s : Shared) (H : Hp) (E : XK) : Cx where
 prog := P
 w := w
 K := K
 mg := mg
 base := base
 A := A.deeper (envOfC qual scope s.heap.objs.size f cd)
 N := N
 s₀ := s
 H₀ := H
 env := envOfC qual scope s.heap.objs.size f cd
 outer := outer
 stack := envOfC qual scope s.heap.objs.size f cd :: outer
 ex := []
 calm := true
 fn := fun _ => true
 pn := []
 xe := fun e s' => wpAny (model P w) (A.deeper (envOfC qual scope s.heap.objs.size f cd)) (leaving (envOfC qual scope s.heap.objs.size f cd) e) (fun _ s'' => CX outer H s E e s'') (fun e' s'' => CX outer H s E e' s'') s'
theorem cell_has {sc : Scope} {n : Nat} {x : Str} (h : sc.names.lookup x = some .cell) : ∃ c, (cellsFrom n sc.names []).lookup x = some c := by
 have q := PySem.W.cellsFrom_some sc.names n [] (.inl h)
 exact Option.isSome_iff_exists.mp q
theorem inv_start {CX : CXT} {P : Program} {w : World} {K : PySem.W.Frag} {mg : Str → Option Value} {base : Heap} {N ps : List Str} {qual : Str} {scope : Scope} {f : Addr} {cd : Value} {A : Around} {outer : List Env} {s s1 : Shared} {H : Hp} {E : XK} {us : List Value} {vs : List V}
  (S : FnScope N ps scope) (hd : A.handled = none) (e0 : Env0 P w K mg base A outer s H) (hl : vs.length = ps.length) (r : Vals vs us)
  (x : InCallC s s.heap.objs.size (bindL (envOfC qual scope s.heap.objs.size f cd).kindOf (ps.zip us) fun _ => none) (cellsFrom (s.heap.objs.size + 1) scope.names []) (bindC (envOfC qual scope s.heap.objs.size f cd).kindOf (ps.zip us) fun _ => none) s1) :
  Inv (cxOf CX P w K mg base N qual scope f cd A outer s H E) [] (start N vs) H s1 := by
 have hpl : ps.length ≤ N.length := by have := congrArg List.length S.pre; rw [List.length_take] at this; omega
 obtain ⟨h1, tk, rfl, hk⟩ := x.done
 have noA : ∀ b : Addr, b ∉ (cxOf CX P w K mg base N qual scope f cd A outer s H E).ex := fun b z => absurd (show b ∈ ([] : List Addr) from z) (by simp)
 refine ⟨⟨e0.mod, S.kind, rfl, rfl, Nat.le_refl _, fun y z c h1 h2 => ?_, fun y hy => ?_, fun y c _ h => ?_, fun _ => hd, Around.frames_deeper e0.frames, .inr ⟨rfl, rfl⟩, fun b z => absurd z (noA b), e0.bs, e0.bsz, fun b _ _ => noA b, fun b z => absurd z (noA b), e0.funs, e0.frf⟩,
  rfl, e0.bare, Un.kept hk, ⟨_, x.toInCall.ns, fun i y v h1 h2 h3 => ?_⟩, fun y c h => ⟨_, x.cell y c h⟩, e0.hok.fresh (Nat.le_refl _), fun y c h => ?_, fun p hp => absurd (show p ∈ ([] : List (Addr × Obj)) from hp) (by simp), e0.hok.kept hk, ?_⟩
 ·exact name_of_addr x.apart (PySem.mem_of_lookup h1) (PySem.mem_of_lookup h2)
 ·have hy : scope.names.lookup y = some .cell ∨ scope.names.lookup y = some .free := hy
  rcases hy with hy | hy
  ·exact cell_has hy
  ·exact absurd rfl (S.nofree _ (PySem.mem_of_lookup hy))
 ·exact Nat.le_of_lt (x.above y c (PySem.mem_of_lookup h))
 ·have hi : i < vs.length := by
   unfold start at h2
   by_cases hi : i < vs.length
   ·exact hi
   ·rw [List.getElem?_append_right (by simpa using hi)] at h2
    rw [List.getElem?_replicate] at h2
    split at h2 <;> cases h2
  have ha : vs[i]? = some v := by
   unfold start at h2
   rw [List.getElem?_append_left (by simpa using hi), List.getElem?_map] at h2
   cases e : vs[i]? with
   | none => rw [e] at h2; cases h2
   | some a => rw [e] at h2; cases h2; rfl
  obtain ⟨u, hu, rv⟩ := r.get ha
  have hp : ps[i]? = some y := by
   rw [← S.pre, List.getElem?_take_of_lt (by omega)]; exact h1
  have ndP : ps.Nodup := by rw [← S.pre]; exact S.nd.sublist (List.take_sublist _ _)
  refine ⟨u, rv, ?_⟩
  rcases S.par y (List.mem_of_getElem? hp) with k | k
  ·exact .inl ⟨k, bindL_get ndP hp hu k⟩
  ·obtain ⟨c, e⟩ := cell_has (n := s.heap.objs.size + 1) k
   refine .inr ⟨.inl k, c, e, ?_⟩
   have q := x.cell y c e
   rw [bindC_get ndP hp hu (by show scope.names.lookup y ≠ _; rw [k]; decide)] at q
   exact q
 ·exact e0.hok.fresh (Nat.le_of_lt (x.above y c (PySem.mem_of_lookup h)))
 ·unfold start
  show _ = N.length
  rw [List.length_append, List.length_map, List.length_replicate]
  omega
theorem fn_of {CX : CXT} {P : Program} {w : World} {K : PySem.W.Frag} {mg : Str → Option Value} {base : Heap} {k : Nat} {f : Addr} {name qual : Str} {params : Arguments} {body : List Stmt} {scope : Scope} {dV kV doc pm cdv ct oc : Value} {an od : Option Addr}
  {osl : Array (Option Value)} {N ps : List Str} {sp : Sp} (lk : K.lookup f = some ⟨oc, od, .func (PySem.W.fnOf name qual params body scope dV kV doc pm an cdv ct), osl⟩) (hcd : PySem.W.codeIn K cdv qual = true) (S : FnScope N ps scope)
  (len : ∀ vs H Q E, sp vs H Q E → vs.length = ps.length)
  (hbody : ∀ (A : Around) (outer : List Env) (s : Shared) (H : Hp) (vs : List V) (Q : VK) (E : XK), Room k (A.deeper (envOfC qual scope s.heap.objs.size f cdv)) → sp vs H Q E →
   ∃ t, PSs (cxOf CX P w K mg base N qual scope f cdv A outer s H E) body t ∧ t { nx := fun _ H' => Q .non H', rt := Q } (start N vs) H) :
  FnOk P w K mg base CX (k + 1) f (PySem.W.fnOf name qual params body scope dV kV doc pm an cdv ct) ps sp := by
 refine ⟨len, fun A outer s H args us vs Q E hr e0 hb r hsp => ?_⟩
 have hl := len _ _ _ _ hsp
 have KX : K.In s.heap := e0.mod.kin.keeps fun b o e => (e0.bs b o e).1
 have lim : s.heap.NoLimit := e0.mod.nolimit.keeps fun b o e => (e0.bs b o e).1
 have hkind : ∀ y ∈ ps.zip us, scope.names.lookup y.1 = some .local ∨ (scope.names.lookup y.1 = some .cell ∧ ((cellsFrom (s.heap.objs.size + 1) scope.names []).lookup y.1).isSome = true) := fun ⟨n, v⟩ hy => by
  rcases S.par n (List.of_mem_zip hy).1 with q | q
  ·exact .inl q
  ·exact .inr ⟨q, PySem.W.cellsFrom_some _ _ _ (.inl q)⟩
 refine codeAny_call_function hr.depth (KX _ _ lk) rfl S.co S.gen rfl (PySem.W.codeRec_of KX hcd) (hb _ _ _ _ ?_)
 refine wpAny_newFunctionEnv_cells S.kind hkind fun env he s1 x => ?_
 subst he
 refine ⟨lim.keeps x.toInCall.keep, codeAny_func ?_⟩
 obtain ⟨t, ht, hq⟩ := hbody A outer s H vs Q E (hr.deeper _) hsp
 have I : Inv (cxOf CX P w K mg base N qual scope f cdv A outer s H E) [] (start N vs) H s1 := inv_start S hr.hd e0 hl r x
 refine wpAny_mono (ht [] s1 (start N vs) H _ I hq) (fun fl s' hs => ?_) fun e s' hs => hs
 have fin : ∀ {σ' : St} {H' : Hp} {v : V} {u : Value}, Inv (cxOf CX P w K mg base N qual scope f cdv A outer s H E) [] σ' H' s' → RelV v u → Q v H' → CE outer P w H s Q u s' :=
  fun {σ' H' v u} J rv q => ⟨v, H', J.os, J.bare, J.base, J.hok, rv, q⟩
 cases fl with
 | ret u =>
  obtain ⟨v, σ', H', J, rv, q⟩ := hs
  exact fin J rv q
 | next =>
  obtain ⟨σ', H', J, q⟩ := hs
  exact fin (v := V.non) (u := Value.none) J rfl q
 | brk =>
  obtain ⟨_, _, _, q⟩ := hs
  exact False.elim q
 | cont =>
  obtain ⟨_, _, _, q⟩ := hs
  exact False.elim q
end L2
namespace L2
open PySem PySem.Spec PyProof.Rows
section
variable {X : Cx} {x : Str} {p pos : Pos} {e : Expr} {es : List Expr} {t : TA} {id T : String} {r : List V → Hp → VK → Prop}
def tCB (r : List V → Hp → VK → Prop) (t : TA) : TE := fun σ H Q => t σ H fun vs H1 => r vs H1 Q
theorem pe_callB (hc : CallR X (.builtin id) r) (hg : Gl X x) (hm : X.mg x = none) (hv : bootBuiltins x = some (.builtin id)) (ha : PA X (e :: es) t) (hn : x ≠ "__name__" := by decide) (hdb : (x == ("__debug__" : Str)) = false := by decide)
  (he : starEach (e :: es) X.env = (false, eval e X.env) :: starEach es X.env := by rfl) (hpl : (backTo pos (starEach es X.env)).any (·.1) = false := by rfl) : PE X (.Call (.Name x p) (e :: es) [] pos) (tCB r t) := by
 intro pins s σ H Q I h
 refine wpAny_Call_Name_kw (ld_blt I hg hm hv ?_ hn hdb)
 exact PyProof.Rows.callWith_builtin1 (thn (ha pos pins s σ H _ I h) fun us s1 ⟨vs, H1, I1, r1, q1⟩ => hc pins s1 σ H1 vs us Q I1 r1 q1) he hpl
theorem pe_callTy (hc : CallR X (.type T) r) (hg : Gl X x) (hm : X.mg x = none) (hv : bootBuiltins x = some (.type T)) (ha : PA X (e :: es) t) (hn : x ≠ "__name__" := by decide) (hdb : (x == ("__debug__" : Str)) = false := by decide)
  (he : starEach (e :: es) X.env = (false, eval e X.env) :: starEach es X.env := by rfl) (hpl : (backTo pos (starEach es X.env)).any (·.1) = false := by rfl) : PE X (.Call (.Name x p) (e :: es) [] pos) (tCB r t) := by
 intro pins s σ H Q I h
 refine wpAny_Call_Name_kw (ld_blt I hg hm hv ?_ hn hdb)
 exact PyProof.Rows.callWith_type1 (thn (ha pos pins s σ H _ I h) fun us s1 ⟨vs, H1, I1, r1, q1⟩ => hc pins s1 σ H1 vs us Q I1 r1 q1) he hpl
end
end L2
namespace HT
open PySem PyProof.Rows
section
open PySem.SeqAt
open PySem.AutoSeq1 (wpAny_loadPart')
open PySem.MeetsSeq PySem.MeetsSeq2 PySem.MeetsSeq3
end
section
variable {prog : Program} {w : World} {A : Around} {E : Value → Shared → Prop} {s : Shared}
theorem cat_tup {t b : Addr} {vs ws : List Value} {Q : Value → Shared → Prop} (ht : IsTup s.heap t vs.toArray) (hb : IsTup s.heap b ws.toArray) (hv : vs ≠ [])
  (h1 : ws = [] → Q (.ref t) s) (h2 : ws ≠ [] → Q (.ref s.heap.objs.size) { s with heap := s.heap.push { cls := .type "tuple", data := .seq (vs ++ ws).toArray } })
  (hsz : vs.length + ws.length ≤ sizeLine) : wpAny (model prog w) A (binaryOp .Add (.ref t) (.ref b)) Q E s := by
 obtain ⟨⟨cls, dd, data, sl⟩, ho, hc, n, hd⟩ := id ht
 obtain ⟨⟨cls2, dd2, data2, sl2⟩, ho2, hc2, n2, hd2⟩ := id hb
 simp only at hc hd hc2 hd2
 subst hc hd hc2 hd2
 have e : vs.toArray ++ ws.toArray = (vs ++ ws).toArray := by simp
 by_cases hw : ws = []
 ·exact concat_meets ⟨_, ho, rfl⟩ ⟨_, ho2, rfl⟩ noFill_tuple_add seq_tuple_add PySem.F.slot_tuple_add PySem.F.entry_tuple_add (PySem.F.args_tuple_add_2 _ _)
   (tuple_addW1 t b vs.toArray ws.toArray n n2 dd dd2 sl sl2 (by simpa using hv) (by simp [hw])) ⟨ho, ho2, h1 hw⟩
 ·refine concat_meets ⟨_, ho, rfl⟩ ⟨_, ho2, rfl⟩ noFill_tuple_add seq_tuple_add PySem.F.slot_tuple_add PySem.F.entry_tuple_add (PySem.F.args_tuple_add_2 _ _)
   (tuple_addW2 t b vs.toArray ws.toArray n n2 dd dd2 sl sl2 (by simpa using hv) (by simpa using hw) (by rw [List.size_toArray, List.size_toArray]; exact hsz)) ⟨ho, ho2, ?_⟩
  rw [e]
  exact h2 hw
def sIx (n d : Nat) : Option Int → Nat
 | none => d
 | some v => if v < 0 then (v + (n : Int)).toNat else min v.toNat n
theorem sIx_none (n d : Nat) : sIx n d none = d := rfl
theorem sIx_nat (n d k : Nat) : sIx n d (some (k : Int)) = min k n := by
 show (if (k : Int) < 0 then ((k : Int) + (n : Int)).toNat else min (k : Int).toNat n) = min k n
 rw [if_neg (by omega), Int.toNat_natCast]
theorem sIx_le (n d : Nat) (hd : d ≤ n) (o : Option Int) : sIx n d o ≤ n := by
 cases o with
 | none => exact hd
 | some v =>
  show (if v < 0 then (v + (n : Int)).toNat else min v.toNat n) ≤ n
  by_cases hv : v < 0
  ·rw [if_pos hv]; omega
  ·rw [if_neg hv]; exact Nat.min_le_right _ _
theorem clip_eq (v : Int) (n d : Nat) : (if v < 0 then max (v + (n : Int)) 0 else min v (n : Int)) = ((sIx n d (some v) : Nat) : Int) := by
 show (if v < 0 then max (v + (n : Int)) 0 else min v (n : Int)) = (((if v < 0 then (v + (n : Int)).toNat else min v.toNat n) : Nat) : Int)
 by_cases hv : v < 0
 ·simp only [if_pos hv]; omega
 ·simp only [if_neg hv]; omega
theorem adjust_gen (lo hi : Option Int) (n : Nat) : Builtin.Slice.sliceAdjust lo hi 1 (n : Int) = (((sIx n 0 lo : Nat) : Int), ((sIx n n hi : Nat) : Int)) := by
 have h1 : ¬ ((1 : Int) < 0) := by omega
 unfold Builtin.Slice.sliceAdjust
 simp only [h1, if_false]
 refine Prod.ext ?_ ?_
 ·cases lo with
  | none => rfl
  | some v => exact clip_eq v n 0
 ·cases hi with
  | none => rfl
  | some v => exact clip_eq v n n
theorem places_gen (i j : Nat) : Builtin.Slice.slicePlaces (i : Int) (j : Int) 1 = j - i := by
 unfold Builtin.Slice.slicePlaces
 have h1 : (1 : Int) > 0 := by omega
 simp only [h1, if_true, Int.ediv_one]
 split <;> omega
theorem slicePart_ {v : Value} {o : Option Int} {Q : Option Int → Shared → Prop} (p : IsPart v o) (h : Q o s) : wpAny (model prog w) A (Builtin.Slice.slicePartIndex v) Q E s := by
 cases p with
 | none => exact slicePart_none h
 | int i t => exact slicePart_int h
theorem sliceApplied_gen {sl : Addr} {vl vu : Value} {lo hi : Option Int} {n : Nat} {Q : Int × Int × Nat → Shared → Prop} (hs : s.heap.IsSliceOf sl vl vu .none) (pl : IsPart vl lo) (pu : IsPart vu hi)
  (h : Q (((sIx n 0 lo : Nat) : Int), 1, sIx n n hi - sIx n 0 lo) s) : wpAny (model prog w) A (Builtin.Slice.sliceApplied (.ref sl) (pure (n : Int))) Q E s := by
 obtain ⟨os, hos, hcs, hds⟩ := id hs
 unfold Builtin.Slice.sliceApplied Builtin.Slice.sliceFields
 refine wpAny_bind (wpAny_bind (wpAny_field hos hds (x := vl) rfl (wpAny_bind (wpAny_field hos hds (x := vu) rfl (wpAny_bind (wpAny_field hos hds (x := .none) rfl (wpAny_pure ?_)))))))
 refine wpAny_bind (slicePart_none ?_)
 show wpAny _ _ (if ((1 : Int) == 0) = true then _ else _) _ _ s
 rw [if_neg (by decide)]
 refine wpAny_bind (slicePart_ pl (wpAny_bind (slicePart_ pu (wpAny_bind (wpAny_pure ?_)))))
 show wpAny _ _ (match Builtin.Slice.sliceAdjust lo hi 1 (n : Int) with | (lo, hi) => pure (lo, (1 : Int), Builtin.Slice.slicePlaces lo hi 1)) _ _ s
 rw [adjust_gen lo hi n]
 show wpAny _ _ (pure (((sIx n 0 lo : Nat) : Int), (1 : Int), Builtin.Slice.slicePlaces ((sIx n 0 lo : Nat) : Int) ((sIx n n hi : Nat) : Int) 1)) _ _ s
 rw [places_gen]
 exact wpAny_pure h
theorem pick_gen (xs : Array Value) (i k : Nat) : ((List.range k).filterMap fun (m : Nat) => xs[((i : Int) + (m : Int) * 1).toNat]?).toArray = ((xs.toList.drop i).take k).toArray := by
 have e : (fun (m : Nat) => xs[((i : Int) + (m : Int) * 1).toNat]?) = fun m => xs[i + m]? := by
  funext m
  have : ((i : Int) + (m : Int) * 1).toNat = i + m := by omega
  rw [this]
 rw [e]
 have := pick_run xs i k
 rw [List.filterMap_map] at this
 have e2 : ((fun x => xs[x]?) ∘ fun x => i + x) = fun m => xs[i + m]? := rfl
 rw [e2] at this
 rw [this]
theorem getItem_tuple_cut {t sl : Addr} {items : Array Value} {vl vu : Value} {lo hi : Option Int} {Q : Value → Shared → Prop} (ht : IsTup s.heap t items) (hs : s.heap.IsSliceOf sl vl vu .none) (pl : IsPart vl lo) (pu : IsPart vu hi)
  (hw : ¬ (sIx items.size 0 lo = 0 ∧ sIx items.size items.size hi = items.size))
  (h : Q (.ref s.heap.objs.size) { s with heap := s.heap.push { cls := .type "tuple", data := .seq ((items.toList.drop (sIx items.size 0 lo)).take (sIx items.size items.size hi - sIx items.size 0 lo)).toArray } })
  (hsz : items.size ≤ sizeLine) : wpAny (model prog w) A (getItem (.ref t) (.ref sl)) Q E s := by
 have htake : sizeOk (.seq ((items.toList.drop (sIx items.size 0 lo)).take (sIx items.size items.size hi - sIx items.size 0 lo)).toArray) := by
  show ((items.toList.drop (sIx items.size 0 lo)).take (sIx items.size items.size hi - sIx items.size 0 lo)).toArray.size ≤ sizeLine
  rw [List.size_toArray, List.length_take, List.length_drop, Array.length_toList]
  omega
 have hj : sIx items.size items.size hi ≤ items.size := sIx_le _ _ (Nat.le_refl _) hi
 obtain ⟨os, hos, hcs, hds⟩ := id hs
 have hTs : s.TypeIs (.ref sl) "slice" := ⟨os, hos, hcs⟩
 unfold getItem
 try with_reducible refine wpAny_holding ?_
 first | refine wpAny_bind (wpAny_pure ?_) | skip
 refine wpAny_bind (wpAny_sequenceKey ht.typeIs (by decide) ?_)
 refine wpAny_bind (wpAny_callSpecial?_slot (name := Str.ofString "__getitem__") ht.typeIs PyProof.Rows.slot_tuple_getitem
  (wpAny_call_entry PyProof.Rows.slot_tuple_getitem ht.typeIs entry_tuple_getitem ?_ (args_tuple_getitem _ _)))
 show wpAny _ _ (Builtin.Tuple.tupleItemsOf (.ref t) >>= _) _ _ s
 refine wpAny_bind (tupleItemsOf_ ht ?_)
 refine wpAny_bind (wpAny_typeOf hTs ?_)
 rw [if_pos (by decide)]
 refine wpAny_bind (sliceApplied_gen hs pl pu ?_)
 have hno : ¬ ((((sIx items.size 0 lo : Nat) : Int) == 0 && (1 : Int) == 1 && (sIx items.size items.size hi - sIx items.size 0 lo) == items.size) = true) := by
  intro q
  rw [Bool.and_eq_true, Bool.and_eq_true] at q
  have q1 : ((sIx items.size 0 lo : Nat) : Int) = 0 := eq_of_beq q.1.1
  have q2 : sIx items.size items.size hi - sIx items.size 0 lo = items.size := eq_of_beq q.2
  exact hw ⟨by omega, by omega⟩
 show wpAny _ _ (if (((sIx items.size 0 lo : Nat) : Int) == 0 && (1 : Int) == 1 && (sIx items.size items.size hi - sIx items.size 0 lo) == items.size) = true then _ else _) _ _ s
 rw [if_neg hno, pick_gen]
 first
  | exact wpAny_bind (m := Builtin.Tuple.tupleExact _) (wpAny_newObj_type (wpAny_pure ⟨_, rfl, wpAny_pure h⟩) htake)
  | exact wpAny_bind (m := Builtin.Tuple.tupleExact _) (wpAny_newObj_type (wpAny_bind (wpAny_pure (wpAny_pure ⟨_, rfl, wpAny_pure h⟩))) htake)
  | exact wpAny_bind (wpAny_bind (m := Builtin.Tuple.tupleExact _) (wpAny_newObj_type (wpAny_pure (wpAny_pure ⟨_, rfl, wpAny_pure h⟩)) htake))
  | exact wpAny_bind (wpAny_bind (m := Builtin.Tuple.tupleExact _) (wpAny_newObj_type (wpAny_pure ⟨_, rfl, wpAny_pure h⟩) htake))
end
end HT
namespace L2
open PySem PySem.Spec PyProof.Rows
abbrev TO := St → Hp → (Option Int → Hp → Prop) → Prop
def PO (X : Cx) (e : Option Expr) (t : TO) : Prop :=
 ∀ (pins : List (Addr × Obj)) (s : Shared) (σ : St) (H : Hp) (Q : Option Int → Hp → Prop), Inv X pins σ H s → t σ H Q →
  wpAny (model X.prog X.w) X.A (evalPart e X.env) (fun u s' => ∃ o H', Inv X pins σ H' s' ∧ IsPart u o ∧ Q o H') X.xe s
def tNoPart : TO := fun _ H Q => Q none H
def tPart (t : TE) : TO := fun σ H Q => t σ H fun x H1 => ∃ i, x = .int i ∧ Q (some i) H1
section
variable {X : Cx} {e : Expr} {te : TE} {lo hi : Option Expr} {tl th : TO} {pos p2 : Pos}
theorem po_none : PO X none tNoPart := by
 intro pins s σ H Q I h
 rw [evalPart_none]
 exact wpAny_pure ⟨none, H, I, .none, h⟩
theorem po_some (h : PE X e te) : PO X (some e) (tPart te) := by
 intro pins s σ H Q I hw
 rw [evalPart_some]
 refine thn (h pins s σ H _ I hw) fun u s1 ⟨x, H1, I1, r1, q1⟩ => ?_
 obtain ⟨i, rfl, q⟩ := q1
 obtain ⟨t, rfl⟩ := r1
 exact ⟨some i, H1, I1, .int i t, q⟩
def SlR (X : Cx) (r : V → Option Int → Option Int → Hp → VK → Prop) : Prop :=
 ∀ (pins : List (Addr × Obj)) (s : Shared) (σ : St) (H : Hp) (x : V) (v vl vu : Value) (lo hi : Option Int) (sl : Addr) (Q : VK), Inv X pins σ H s → RelV x v → s.heap.IsSliceOf sl vl vu .none → IsPart vl lo → IsPart vu hi → r x lo hi H Q →
  ∃ T id, typeLookup (.type T) "__getitem__" = pure (some (.builtin id)) ∧ s.TypeIs v T ∧ wpAny (model X.prog X.w) X.A (getItem v (.ref sl)) (EP X pins σ Q) X.xe s
def tSl (r : V → Option Int → Option Int → Hp → VK → Prop) (te : TE) (tl th : TO) : TE := fun σ H Q => te σ H fun x H1 => tl σ H1 fun l H2 => th σ H2 fun u H3 => r x l u H3 Q
theorem pe_slice {r : V → Option Int → Option Int → Hp → VK → Prop} (hr : SlR X r) (he : PE X e te) (hl : PO X lo tl) (hu : PO X hi th) : PE X (.Subscript e (.Slice lo hi none p2) pos) (tSl r te tl th) := by
 intro pins s σ H Q I h
 refine Subscript_ (thn (he pins s σ H _ I h) fun v s1 ⟨x, H1, I1, r1, q1⟩ => ?_)
 refine wpAny_Slice (thn (hl pins s1 σ H1 _ I1 q1) fun vl s2 ⟨l, H2, I2, pl, q2⟩ => thn (hu pins s2 σ H2 _ I2 q2) fun vu s3 ⟨u, H3, I3, pu, q3⟩ => ?_)
 rw [evalPart_none]
 refine wpAny_pure ?_
 have I4 : Inv X pins σ H3 { s3 with heap := s3.heap.push { cls := .type "slice", data := .fields #[vl, vu, .none] } } := I3.kept (t' := s3.toks) fun b ob q => Heap.get?_push_of_some _ q
 obtain ⟨T, id, hT, ht, hg⟩ := hr pins { s3 with heap := s3.heap.push { cls := .type "slice", data := .fields #[vl, vu, .none] } } σ H3 x v vl vu l u s3.heap.objs.size Q I4 r1 (Heap.IsSliceOf.new ..) pl pu q3
 show wpAny (model X.prog X.w) X.A (subscriptTail e (.Slice lo hi none p2) v (.ref s3.heap.objs.size)) (EP X pins σ Q) X.xe { s3 with heap := s3.heap.push { cls := .type "slice", data := .fields #[vl, vu, .none] } }
 exact tail_any (ops := [.ref s3.heap.objs.size, v]) ht hT hg (by with_unfolding_all rfl)
def cutV (xs : List V) (lo hi : Option Int) : List V := (xs.drop (HT.sIx xs.length 0 lo)).take (HT.sIx xs.length xs.length hi - HT.sIx xs.length 0 lo)
theorem cutV_length (xs : List V) (lo hi : Option Int) : (cutV xs lo hi).length ≤ xs.length := by
 unfold cutV
 rw [List.length_take, List.length_drop]
 omega
def rSlT (K : PySem.W.Frag) : V → Option Int → Option Int → Hp → VK → Prop := fun x lo hi H Q => ∃ a xs, x = .ref a ∧ SqT K H a xs ∧
 ¬ (HT.sIx xs.length 0 lo = 0 ∧ HT.sIx xs.length xs.length hi = xs.length) ∧ ∀ p, H p = none → Q (.ref p) (upd H p (.tup (cutV xs lo hi)))
theorem sl_tup : SlR X (rSlT X.K) := by
 intro pins s σ H x v vl vu lo hi sl Q I rx hs pl pu h
 obtain ⟨a, xs, rfl, hx, hw, q⟩ := h
 cases rx
 obtain ⟨its, r, ht, hz⟩ := I.tuple hx
 have hlen : its.toArray.size = xs.length := by rw [List.size_toArray]; exact r.length.symm
 refine ⟨"tuple", _, PyProof.Rows.slot_tuple_getitem.lookup, ht.typeIs, ?_⟩
 refine HT.getItem_tuple_cut ht hs pl pu (by rw [hlen]; exact hw) ?_ (by rw [hlen]; exact hz)
 rw [hlen]
 refine ⟨.ref s.heap.objs.size, _, I.laid (t' := s.toks) (o := .tup (cutV xs lo hi)) (fun b ob q => Heap.get?_push_of_some _ q) (Nat.le_refl _) ?_, rfl, q _ (I.hok.fresh (Nat.le_refl _))⟩
 exact ⟨Nat.le_trans (cutV_length xs lo hi) hz, _, (r.drop (HT.sIx xs.length 0 lo)).take (HT.sIx xs.length xs.length hi - HT.sIx xs.length 0 lo), IsTup.new _ _⟩
theorem Vals.nil_iff {xs : List V} {us : List Value} (r : Vals xs us) : us = [] ↔ xs = [] := by
 cases r with
 | nil => simp
 | cons _ _ => simp
end
end L2
namespace L2
open PySem PySem.Spec PyProof.Rows
def ixN (n : Nat) (i : Int) : Option Nat := if 0 ≤ i then (if i < n then some i.toNat else none) else if -(n : Int) ≤ i then some (i + n).toNat else none
def atI {α : Type} (xs : List α) (i : Int) : Option α := (ixN xs.length i).bind fun j => xs[j]?
theorem ixN_seq {n : Nat} {i : Int} {j : Nat} (h : ixN n i = some j) : seqIndex? i n = some j ∧ j < n ∧ -(n : Int) ≤ i ∧ i < n := by
 unfold ixN at h
 by_cases h0 : 0 ≤ i
 ·rw [if_pos h0] at h
  by_cases h1 : i < n
  ·rw [if_pos h1] at h
   have e : i.toNat = j := Option.some.inj h
   exact ⟨by rw [seqIndex_of h0 h1, e], by omega, by omega, h1⟩
  ·rw [if_neg h1] at h; cases h
 ·rw [if_neg h0] at h
  by_cases h1 : -(n : Int) ≤ i
  ·rw [if_pos h1] at h
   have e : (i + n).toNat = j := Option.some.inj h
   exact ⟨by rw [seqIndex_neg (by omega) h1, e], by omega, h1, by omega⟩
  ·rw [if_neg h1] at h; cases h
theorem atI_get {α : Type} {xs : List α} {i : Int} {v : α} (h : atI xs i = some v) : ∃ j, seqIndex? i xs.length = some j ∧ xs[j]? = some v ∧ j < xs.length ∧ -(xs.length : Int) ≤ i ∧ i < xs.length := by
 unfold atI at h
 cases e : ixN xs.length i with
 | none => rw [e] at h; cases h
 | some j =>
  rw [e] at h
  obtain ⟨h1, h2, h3, h4⟩ := ixN_seq e
  exact ⟨j, h1, h, h2, h3, h4⟩
theorem atI_nat {α : Type} {xs : List α} {j : Nat} {v : α} (h : xs[j]? = some v) : atI xs (j : Int) = some v := by
 have hj : j < xs.length := (List.getElem?_eq_some_iff.mp h).1
 have e : ixN xs.length (j : Int) = some j := by
  unfold ixN
  rw [if_pos (by omega), if_pos (by omega)]; simp
 unfold atI; rw [e]; exact h
theorem atI_last {α : Type} (xs : List α) (v : α) : atI (xs ++ [v]) (-1) = some v := by
 have hl : (xs ++ [v]).length = xs.length + 1 := by simp
 have e : ixN (xs ++ [v]).length (-1) = some xs.length := by
  unfold ixN
  rw [hl, if_neg (by decide), if_pos (by omega)]
  congr 1
  omega
 unfold atI
 rw [e]
 show (xs ++ [v])[xs.length]? = some v
 simp
def PlainIx (b : Expr) : Prop := ∀ o i, subscripted b false o i = operate [o, i] (getItem o i)
def IxR (X : Cx) (r : R2) : Prop :=
 ∀ (value slice : Expr) (pins : List (Addr × Obj)) (s : Shared) (σ : St) (H : Hp) (x y : V) (v u : Value) (Q : VK), Inv X pins σ H s → RelV x v → RelV y u → r x y H Q →
  subscripted slice false v u = operate [v, u] (getItem v u) → wpAny (model X.prog X.w) X.A (subscriptTail value slice v u) (EP X pins σ Q) X.xe s
def MtR (X : Cx) (id : String) (r : V → List V → Hp → VK → Prop) : Prop :=
 ∀ (pins : List (Addr × Obj)) (s : Shared) (σ : St) (H : Hp) (x : V) (xs : List V) (v : Value) (us : List Value) (Q : VK), Inv X pins σ H s → RelV x v → Vals xs us → r x xs H Q →
  wpAny (model X.prog X.w) X.A (call (.builtin id) (v :: us)) (EP X pins σ Q) X.xe s
section
variable {X : Cx} {a b : Expr} {ta tb : TE} {pos : Pos}
theorem pe_ix {r : R2} (hr : IxR X r) (ha : PE X a ta) (hb : PE X b tb) (hs : PlainIx b) : PE X (.Subscript a b pos) (tOp r ta tb) := by
 intro pins s σ H Q I h
 exact Subscript_ (binT ha hb I h fun v u s2 x y H2 I2 rx ry q => hr a b pins s2 σ H2 x y v u Q I2 rx ry q (hs _ _))
def rIxL (K : PySem.W.Frag) : R2 := fun x y H Q => ∃ p xs i v, x = .ref p ∧ y = .int i ∧ SqL K H p xs ∧ atI xs i = some v ∧ Q v H
def rIxT (K : PySem.W.Frag) : R2 := fun x y H Q => ∃ p xs i v, x = .ref p ∧ y = .int i ∧ SqT K H p xs ∧ atI xs i = some v ∧ Q v H
theorem ix_list : IxR X (rIxL X.K) := by
 intro value slice pins s σ H x y v u Q I rx ry h hs
 obtain ⟨p, xs, i, z, rfl, rfl, hq, he, q⟩ := h
 cases rx
 obtain ⟨t, rfl⟩ := ry
 obtain ⟨its, r, pl, hz⟩ := I.list hq
 obtain ⟨j, h1, h2, h3, h4, h5⟩ := atI_get he
 obtain ⟨w, ew, rw'⟩ := r.get h2
 have hl := r.length
 have hn := line63
 have fin : EP X pins σ Q w s := ⟨z, H, I, rw', q⟩
 by_cases h0 : 0 ≤ i
 ·have hj : i.toNat = j := by
   rw [seqIndex_of h0 h5] at h1
   exact Option.some.inj h1
  exact item_listR pl.isList h0 (by omega) (by rw [hj]; simpa using ew) fin hs
 ·have hj : (i + (its.toArray.size : Int)).toNat = j := by
   rw [seqIndex_neg (by omega) h4] at h1
   rw [List.size_toArray, ← hl]
   exact Option.some.inj h1
  exact subscriptTail_builtinR (x := w) pl.isList.typeIs slot_list_getitem.lookup
   (wpAny_getItem_list_neg (Q := fun r s' => r = w ∧ EP X pins σ Q r s') pl.isList (by omega) (by rw [List.size_toArray] <;> omega) (by omega) (by rw [hj]; simpa using ew) ⟨rfl, fin⟩) hs
theorem ix_tup : IxR X (rIxT X.K) := by
 intro value slice pins s σ H x y v u Q I rx ry h hs
 obtain ⟨p, xs, i, z, rfl, rfl, hq, he, q⟩ := h
 cases rx
 obtain ⟨t, rfl⟩ := ry
 obtain ⟨its, r, pl, hz⟩ := I.tuple hq
 obtain ⟨j, h1, h2, h3, h4, h5⟩ := atI_get he
 obtain ⟨w, ew, rw'⟩ := r.get h2
 have hl := r.length
 have hn := line63
 have fin : EP X pins σ Q w s := ⟨z, H, I, rw', q⟩
 exact subscriptTail_builtinR (x := w) pl.typeIs slot_tuple_getitem.lookup
  (getItem_tuple (j := j) (Q := fun r s' => r = w ∧ EP X pins σ Q r s') pl (by omega) (by omega) (by rw [List.size_toArray, ← hl]; exact h1) (by simpa using ew) ⟨rfl, fin⟩) hs
theorem mapSeq_set (its : List Value) (n j : Nat) (u : Value) : Obj.mapSeq (·.setIfInBounds j u) { cls := .type "list", data := .seq its.toArray n } = { cls := .type "list", data := .seq (its.set j u).toArray n } := by
 simp [Obj.mapSeq]
theorem Inv.lst {pins : List (Addr × Obj)} {σ : St} {H : Hp} {s : Shared} {p : Addr} {xs : List V} (I : Inv X pins σ H s) (h : H p = some (.lst xs)) :
  ∃ (its : List Value) (n : Nat), Vals xs its ∧ s.heap.get? p = some { cls := .type "list", data := .seq its.toArray n } ∧ xs.length ≤ sizeLine := by
 obtain ⟨z, its, n, r, e⟩ := I.hok p _ h
 exact ⟨its, n, r, e, z⟩
theorem Inv.lstUpd {pins : List (Addr × Obj)} {σ : St} {H : Hp} {s : Shared} {p : Addr} {xs ys : List V} {its its' : List Value} {n n' : Nat} {f : Obj → Obj} (I : Inv X pins σ H s) (h : H p = some (.lst xs))
  (ho : s.heap.get? p = some { cls := .type "list", data := .seq its.toArray n }) (hf : f { cls := .type "list", data := .seq its.toArray n } = { cls := .type "list", data := .seq its'.toArray n' }) (r : Vals ys its') (hz : ys.length ≤ sizeLine) (t : Nat) :
  Inv X pins σ (upd H p (.lst ys)) { s with heap := s.heap.update p f, toks := t } := by
 have e : (s.heap.update p f).get? p = some { cls := .type "list", data := .seq its'.toArray n' } := by
  rw [Heap.get?_update_self f ho (by rw [hf] <;> rfl), hf]
 refine I.write (x := p) (e := p) (by rw [h]; trivial) (.inl rfl) (fun b u hb q => (Heap.get?_update_other _ _ (Ne.symm hb)).trans q) ⟨_, e⟩ ?_
 exact ⟨hz, its', n', r, e⟩
def rSetL : V → V → V → Hp → (Hp → Prop) → Prop := fun o i v H Q => ∃ p xs k j, o = .ref p ∧ i = .int k ∧ H p = some (.lst xs) ∧ ixN xs.length k = some j ∧ Q (upd H p (.lst (xs.set j v)))
theorem set_list : PSet X rSetL := by
 intro pins s σ H o i v ov iv u Q I ro ri rv h
 obtain ⟨p, xs, k, j, rfl, rfl, hp, hj, q⟩ := h
 cases ro
 obtain ⟨t, rfl⟩ := ri
 obtain ⟨its, n, r, ho, hz⟩ := I.lst hp
 obtain ⟨h1, h2, h3, h4⟩ := ixN_seq hj
 have hl := r.length
 have hn := line63
 have I' : Inv X pins σ (upd H p (.lst (xs.set j v))) { s with heap := s.heap.update p (Obj.mapSeq (·.setIfInBounds j u)) } :=
  I.lstUpd hp ho (mapSeq_set its n j u) (r.set rv j) (by rw [List.length_set]; exact hz) s.toks
 by_cases h0 : 0 ≤ k
 ·have hk : k.toNat = j := by
   rw [seqIndex_of h0 h4] at h1
   exact Option.some.inj h1
  exact PySem.W.ki_setAt ho h0 (by omega) (by rw [List.size_toArray, ← hl]; exact h4) (by rw [hk]; exact ⟨_, I', q⟩)
 ·have hk : (k + (its.toArray.size : Int)).toNat = j := by
   rw [seqIndex_neg (by omega) h3] at h1
   rw [List.size_toArray, ← hl]
   exact Option.some.inj h1
  exact PySem.W.ki_setBack ho (by omega) (by rw [List.size_toArray, ← hl]; exact h3) (by omega) (by rw [hk]; exact ⟨_, I', q⟩)
theorem slice_bounds (lo hi : Option Int) (n : Nat) : (sliceBounds lo hi none n).1 = ((HT.sIx n 0 lo : Nat) : Int) ∧ (sliceBounds lo hi none n).2.1 = ((HT.sIx n n hi : Nat) : Int) ∧ (sliceBounds lo hi none n).2.2 = 1 := by
 refine ⟨?_, ?_, rfl⟩
 ·cases lo with
  | none => simp [sliceBounds, HT.sIx]
  | some i =>
   simp only [sliceBounds, HT.sIx, Option.getD_none, show (1 : Int) > 0 by decide, if_true]
   by_cases h : i < 0
   ·simp only [h, if_true] <;> omega
   ·simp only [h, if_false] <;> omega
 ·cases hi with
  | none => simp [sliceBounds, HT.sIx]
  | some i =>
   simp only [sliceBounds, HT.sIx, Option.getD_none, show (1 : Int) > 0 by decide, if_true]
   by_cases h : i < 0
   ·simp only [h, if_true] <;> omega
   ·simp only [h, if_false] <;> omega
theorem slicePick_cut (its : List Value) (lo hi : Option Int) : slicePick its.toArray lo hi none = ((its.drop (HT.sIx its.length 0 lo)).take (HT.sIx its.length its.length hi - HT.sIx its.length 0 lo)).toArray := by
 obtain ⟨h1, h2, h3⟩ := slice_bounds lo hi its.toArray.size
 unfold slicePick
 rw [h1, h2, h3]
 simp only [sliceRange_one, pick_run, List.size_toArray] <;> rfl
def rSlL (K : PySem.W.Frag) : V → Option Int → Option Int → Hp → VK → Prop := fun x lo hi H Q => ∃ a xs, x = .ref a ∧ SqL K H a xs ∧ ∀ p, H p = none → Q (.ref p) (upd H p (.lst (cutV xs lo hi)))
theorem sl_list : SlR X (rSlL X.K) := by
 intro pins s σ H x v vl vu lo hi sl Q I rx hs pl pu h
 obtain ⟨a, xs, rfl, hx, q⟩ := h
 cases rx
 obtain ⟨its, r, ht, hz⟩ := I.list hx
 have hlen := r.length
 refine ⟨"list", _, slot_list_getitem.lookup, ht.isList.typeIs, ?_⟩
 refine wpAny_getItem_list_slice ht.isList hs pl pu .none (by simp) ?_ (by rw [List.size_toArray] <;> omega)
 rw [slicePick_cut, ← hlen]
 refine ⟨.ref s.heap.objs.size, _, I.laid (t' := s.toks) (o := .lst (cutV xs lo hi)) (fun b ob q => Heap.get?_push_of_some _ q) (Nat.le_refl _) ?_, rfl, q _ (I.hok.fresh (Nat.le_refl _))⟩
 exact ⟨Nat.le_trans (cutV_length xs lo hi) hz, _, 0, (r.drop (HT.sIx xs.length 0 lo)).take (HT.sIx xs.length xs.length hi - HT.sIx xs.length 0 lo), Heap.get?_push_size _ rfl⟩
def flatV : V → Bool
 | .non => true
 | .bl _ => true
 | .int _ => true
 | .str _ => true
 | _ => false
def eqV : V → V → Bool
 | .non, .non => true
 | .bl a, .bl b => a == b
 | .bl a, .int b => (if a then 1 else 0) == b
 | .int a, .bl b => a == (if b then 1 else 0)
 | .int a, .int b => a == b
 | .str a, .str b => a == b
 | _, _ => false
theorem eqAt_V {A : Around} {s : Shared} {y x : V} {u v : Value} (ry : RelV y u) (rx : RelV x v) (fy : flatV y = true) (fx : flatV x = true) : SeqAt.EqAt A s u v (eqV y x) := by
 cases y with
 | non =>
  cases ry
  cases x with
  | non => cases rx; exact SeqAt.EqAt.same _
  | bl b => cases rx; exact SeqAt.EqAt.none_bool b
  | int b => obtain ⟨t, rfl⟩ := rx; exact SeqAt.EqAt.none_int b t
  | str b => obtain ⟨t, rfl⟩ := rx; exact SeqAt.EqAt.none_str b t
  | _ => exact absurd (show false = true from fx) Bool.false_ne_true
 | bl a =>
  cases ry
  cases x with
  | non => cases rx; exact SeqAt.EqAt.bool_none a
  | bl b => cases rx; exact SeqAt.EqAt.bool_bool a b
  | int b => obtain ⟨t, rfl⟩ := rx; exact SeqAt.EqAt.bool_int a b t
  | str b => obtain ⟨t, rfl⟩ := rx; exact SeqAt.EqAt.bool_str a b t
  | _ => exact absurd (show false = true from fx) Bool.false_ne_true
 | int a =>
  obtain ⟨t', rfl⟩ := ry
  cases x with
  | non => cases rx; exact SeqAt.EqAt.int_none a t'
  | bl b => cases rx; exact SeqAt.EqAt.int_bool a t' b
  | int b => obtain ⟨t, rfl⟩ := rx; exact SeqAt.EqAt.int_int a t' b t
  | str b => obtain ⟨t, rfl⟩ := rx; exact SeqAt.EqAt.int_str a t' b t
  | _ => exact absurd (show false = true from fx) Bool.false_ne_true
 | str a =>
  obtain ⟨t', rfl⟩ := ry
  cases x with
  | non => cases rx; exact SeqAt.EqAt.str_none a t'
  | bl b => cases rx; exact SeqAt.EqAt.str_bool a t' b
  | int b => obtain ⟨t, rfl⟩ := rx; exact SeqAt.EqAt.str_int a t' b t
  | str b => obtain ⟨t, rfl⟩ := rx; exact SeqAt.EqAt.str_str a t' b t
  | _ => exact absurd (show false = true from fx) Bool.false_ne_true
 | _ => exact absurd (show false = true from fy) Bool.false_ne_true
def eqU (x : V) (u : Value) : Bool := match u with
 | .none => eqV .non x
 | .bool b => eqV (.bl b) x
 | .int i _ => eqV (.int i) x
 | .str z _ => eqV (.str z) x
 | _ => false
theorem eqU_of {x y : V} {u : Value} (r : RelV y u) (f : flatV y = true) : eqU x u = eqV y x := by
 cases y with
 | non => cases r; rfl
 | bl b => cases r; rfl
 | int i => obtain ⟨t, rfl⟩ := r; rfl
 | str z => obtain ⟨t, rfl⟩ := r; rfl
 | _ => exact absurd (show false = true from f) Bool.false_ne_true
theorem any_eqU {x : V} : ∀ {xs : List V} {us : List Value}, Vals xs us → xs.all flatV = true → us.any (eqU x) = xs.any fun y => eqV y x
 | _, _, .nil, _ => rfl
 | y :: xs, u :: us, .cons r t, f => by
  rw [List.all_cons, Bool.and_eq_true] at f
  rw [List.any_cons, List.any_cons, eqU_of r f.1, any_eqU t f.2]
theorem mem_eqAt {A : Around} {s : Shared} {x : V} {v : Value} (rx : RelV x v) (fx : flatV x = true) : ∀ {xs : List V} {us : List Value}, Vals xs us → xs.all flatV = true → ∀ u ∈ us, SeqAt.EqAt A s u v (eqU x u)
 | _, _, .nil, _ => fun u hu => by cases hu
 | y :: xs, u :: us, .cons r t, f => fun u' hu => by
  rw [List.all_cons, Bool.and_eq_true] at f
  rcases List.mem_cons.mp hu with rfl | hu
  ·rw [eqU_of r f.1]; exact eqAt_V r rx f.1 fx
  ·exact mem_eqAt rx fx t f.2 u' hu
def inV (x : V) (xs : List V) : Bool := xs.any fun y => eqV y x
def rIn (K : PySem.W.Frag) (neg : Bool) : R2 := fun x y H Q => ∃ p xs, y = .ref p ∧ (SqL K H p xs ∨ SqT K H p xs) ∧ flatV x = true ∧ xs.all flatV = true ∧ Q (.bl (if neg then !inV x xs else inV x xs)) H
theorem op_in_seq : OpR X (compareOp .In) (rIn X.K false) := by
 intro pins s σ H x y v u Q I rx ry h
 obtain ⟨p, xs, rfl, hq, fx, fs, q⟩ := h
 cases ry
 rcases hq with hq | hq
 ·obtain ⟨its, r, pl, hz⟩ := I.list hq
  refine SeqAt.in_listAt (eqU x) pl.isList (fun w hw => mem_eqAt rx fx r fs w (by simpa using hw)) ⟨.bl _, H, I, rfl, ?_⟩
  rw [show its.toArray.any (eqU x) = its.any (eqU x) by simp, any_eqU r fs]
  exact q
 ·obtain ⟨its, r, pl, hz⟩ := I.tuple hq
  refine SeqAt.in_tupleAt (eqU x) pl (fun w hw => mem_eqAt rx fx r fs w (by simpa using hw)) ⟨.bl _, H, I, rfl, ?_⟩
  rw [show its.toArray.any (eqU x) = its.any (eqU x) by simp, any_eqU r fs]
  exact q
theorem op_notIn_seq : OpR X (compareOp .NotIn) (rIn X.K true) := by
 intro pins s σ H x y v u Q I rx ry h
 obtain ⟨p, xs, rfl, hq, fx, fs, q⟩ := h
 cases ry
 rcases hq with hq | hq
 ·obtain ⟨its, r, pl, hz⟩ := I.list hq
  refine SeqAt.notIn_listAt (eqU x) pl.isList (fun w hw => mem_eqAt rx fx r fs w (by simpa using hw)) ⟨.bl _, H, I, rfl, ?_⟩
  rw [show its.toArray.any (eqU x) = its.any (eqU x) by simp, any_eqU r fs]
  exact q
 ·obtain ⟨its, r, pl, hz⟩ := I.tuple hq
  refine SeqAt.notIn_tupleAt (eqU x) pl (fun w hw => mem_eqAt rx fx r fs w (by simpa using hw)) ⟨.bl _, H, I, rfl, ?_⟩
  rw [show its.toArray.any (eqU x) = its.any (eqU x) by simp, any_eqU r fs]
  exact q
theorem call_len_seq : CallR X (.builtin "len") (fun xs H Q => ∃ p ys, xs = [.ref p] ∧ (SqL X.K H p ys ∨ SqT X.K H p ys) ∧ Q (.int ys.length) H) := by
 intro pins s σ H xs us Q I r h
 obtain ⟨p, ys, rfl, hq, q⟩ := h
 obtain ⟨u, rfl, rx⟩ := vals1 r
 cases rx
 have hn := line63
 rcases hq with hq | hq
 ·obtain ⟨its, r', pl, hz⟩ := I.list hq
  have hlen := r'.length
  exact Calls.call_len_list pl.isList (by simp only [List.size_toArray] <;> omega) ⟨.int ys.length, H, I.tok _, ⟨s.toks + 1, by rw [List.size_toArray, hlen]⟩, q⟩
 ·obtain ⟨its, r', pl, hz⟩ := I.tuple hq
  have hlen := r'.length
  exact len_tuple pl (by simp only [List.size_toArray] <;> omega) ⟨.int ys.length, H, I.tok _, ⟨s.toks + 1, by rw [List.size_toArray, hlen]⟩, q⟩
theorem call_list_of : CallR X (.type "list") (fun xs H Q => ∃ p ys, xs = [.ref p] ∧ (SqL X.K H p ys ∨ SqT X.K H p ys) ∧ ∀ l, H l = none → Q (.ref l) (upd H l (.lst ys))) := by
 intro pins s σ H xs us Q I r h
 obtain ⟨p, ys, rfl, hq, q⟩ := h
 obtain ⟨u, rfl, rx⟩ := vals1 r
 cases rx
 have fin : ∀ (its : List Value), Vals ys its → ys.length ≤ sizeLine → ∀ (h' : Heap) (c' : Nat), (∀ b o', s.heap.get? b = some o' → h'.get? b = some o') →
   h'.get? s.heap.objs.size = some { cls := .type "list", dict := none, data := .seq its.toArray c', slots := #[] } → EP X pins σ Q (.ref s.heap.objs.size) { s with heap := h' } := fun its r' hz h' c' kp e =>
  ⟨.ref s.heap.objs.size, _, I.laid (t' := s.toks) kp (Nat.le_refl _) (show ObjOk X.prog X.w _ h' _ (.lst ys) from ⟨hz, its, c', r', e⟩), rfl, q _ (I.hok.fresh (Nat.le_refl _))⟩
 rcases hq with hq | hq
 ·obtain ⟨its, r', pl, hz⟩ := I.list hq
  have hlen := r'.length
  obtain ⟨o, ho, hc, n, hd⟩ := pl.isList
  exact call_list_seq p (.inl rfl) ho hc hd (fun h' c' kp e => fin its r' hz h' c' kp e) (by simp only [List.size_toArray] <;> omega)
 ·obtain ⟨its, r', pl, hz⟩ := I.tuple hq
  have hlen := r'.length
  obtain ⟨o, ho, hc, n, hd⟩ := pl
  exact call_list_seq p (.inr rfl) ho hc hd (fun h' c' kp e => fin its r' hz h' c' kp e) (by simp only [List.size_toArray] <;> omega)
theorem call_tuple_of : CallR X (.type "tuple") (fun xs H Q => ∃ p ys, xs = [.ref p] ∧ ((SqL X.K H p ys ∧ ∀ l, H l = none → Q (.ref l) (upd H l (.tup ys))) ∨ (SqT X.K H p ys ∧ Q (.ref p) H))) := by
 intro pins s σ H xs us Q I r h
 obtain ⟨p, ys, rfl, h⟩ := h
 obtain ⟨u, rfl, rx⟩ := vals1 r
 cases rx
 rcases h with ⟨hq, q⟩ | ⟨hq, q⟩
 ·obtain ⟨its, r', pl, hz⟩ := I.list hq
  have hlen := r'.length
  refine call_tuple_list pl.isList (fun h' kp => ?_) (by simp only [List.size_toArray] <;> omega)
  have I1 : Inv X pins σ H { s with heap := h' } := I.kept (t' := s.toks) kp
  have I2 : Inv X pins σ (upd H h'.objs.size (.tup ys)) { s with heap := h'.push { cls := .type "tuple", data := .seq its.toArray } } :=
   I1.laid (t' := s.toks) (fun b o e => Heap.get?_push_of_some _ e) (Nat.le_refl _) (show ObjOk X.prog X.w _ _ _ (.tup ys) from ⟨hz, its, r', IsTup.new _ _⟩)
  exact ⟨.ref h'.objs.size, _, I2, rfl, q _ (I1.hok.fresh (Nat.le_refl _))⟩
 ·obtain ⟨its, r', pl, hz⟩ := I.tuple hq
  exact call_tuple_same pl ⟨.ref p, H, I, rfl, q⟩
def tyV (K : PySem.W.Frag) (T : String) (x : V) (H : Hp) : Prop := match x with
 | .str _ => T = "str"
 | .int _ => T = "int"
 | .ref p => (T = "list" ∧ ∃ xs, SqL K H p xs) ∨ (T = "tuple" ∧ ∃ o, K.lookup p = some o ∧ o.cls = .type "tuple" ∧ o.dict = none) ∨
   (T = "dict" ∧ ((∃ kvs, H p = some (.dK kvs)) ∨ ∃ kvs, H p = some (.dT kvs))) ∨ (T = "set" ∧ ∃ S n, H p = some (.set S n))
 | _ => False
theorem tyV_is {pins : List (Addr × Obj)} {σ : St} {H : Hp} {s : Shared} {T : String} {x : V} {v : Value} (I : Inv X pins σ H s) (r : RelV x v) (ty : tyV X.K T x H) :
  s.TypeIs v T ∧ ∀ a, v = .ref a → ∃ ob, s.heap.get? a = some ob ∧ ob.dict = none := by
 cases x with
 | str z =>
  obtain ⟨t, rfl⟩ := r
  cases (show T = "str" from ty)
  exact ⟨typeIs_str s z t, fun _ e => nomatch e⟩
 | int i =>
  obtain ⟨t, rfl⟩ := r
  cases (show T = "int" from ty)
  exact ⟨typeIs_int s i t, fun _ e => nomatch e⟩
 | ref p =>
  cases r
  rcases ty with ⟨rfl, xs, hq⟩ | ⟨rfl, o, hk, hc, hd⟩ | ⟨rfl, hk⟩ | ⟨rfl, S, n, hk⟩
  ·obtain ⟨its, _, pl, _⟩ := I.list hq
   refine ⟨pl.isList.typeIs, fun a e => ?_⟩
   cases e
   obtain ⟨o, n, e, c, hd, _⟩ := pl
   exact ⟨o, e, hd⟩
  ·refine ⟨⟨o, I.kIn p o hk, hc⟩, fun a e => ?_⟩
   cases e
   exact ⟨o, I.kIn _ o hk, hd⟩
  ·have z : ∃ o, s.heap.get? p = some o ∧ o.ExactDict := by
    rcases hk with ⟨kvs, hk⟩ | ⟨kvs, hk⟩
    ·obtain ⟨_, _, _, _, o, _, _, e, ex, _⟩ := I.hok p _ hk
     exact ⟨o, e, ex⟩
    ·obtain ⟨_, _, _, _, o, _, _, e, ex, _⟩ := I.hok p _ hk
     exact ⟨o, e, ex⟩
   obtain ⟨o, e, ex⟩ := z
   refine ⟨⟨o, e, ex.1⟩, fun a e2 => ?_⟩
   cases e2
   exact ⟨o, e, ex.2.1⟩
  ·obtain ⟨o, _, _, _, e, ex, _⟩ := I.hok p _ hk
   refine ⟨⟨o, e, ex.1⟩, fun a e2 => ?_⟩
   cases e2
   exact ⟨o, e, ex.2.1⟩
 | _ => exact False.elim ty
def tBM (K : PySem.W.Frag) (T : String) (r : V → List V → Hp → VK → Prop) (to : TE) (t : TA) : TE := fun σ H Q => to σ H fun x H1 => tyV K T x H1 ∧ t σ H1 fun xs H2 => r x xs H2 Q
variable {o e : Expr} {es : List Expr} {to : TE} {t : TA} {name : Str} {apos cpos : Pos} {T id : String} {r : V → List V → Hp → VK → Prop}
theorem pe_bm (pa : PlainAttrs T) (slot : Slot T name id) (hty : typeOf (.builtin id) = pure (.type "method_descriptor")) (hm : MtR X id r) (ho : PE X o to) (ha : PA X (e :: es) t)
  (hbase : attributeBase o name X.env (eval o X.env) = eval o X.env := by rfl)
  (hfew : ((backTo cpos (starEach (e :: es) X.env)).all (fun x => !x.1) && (backToKw cpos (keywordEach [] X.env)).all (fun x => x.1.isSome)
   && decide ((e :: es).length + ([] : List Keyword).length + (if ([] : List Keyword).isEmpty then 0 else 1) < 30)) = true := by rfl)
  (hline : (apos.endLine == cpos.line) = true := by rfl) (hs : starEach (e :: es) X.env = (false, eval e X.env) :: starEach es X.env := by rfl) (hplain : (backTo cpos (starEach es X.env)).any (·.1) = false := by rfl) :
  PE X (.Call (.Attribute o name apos) (e :: es) [] cpos) (tBM X.K T r to t) := by
 intro pins s σ H Q I h
 refine wpAny_Call_method_late hbase hfew hline rfl (thn (ho pins s σ H _ I h) fun v s1 ⟨x, H1, I1, r1, ty, q1⟩ => ?_)
 obtain ⟨h1, h2⟩ := tyV_is I1 r1 ty
 refine ⟨T, id, pa, slot, hty, h1, h2, ?_⟩
 have hA := ha cpos pins s1 σ H1 _ I1 q1
 rw [hs] at hA ⊢
 refine Calls.callWith_builtin (by show (false || (backTo cpos (starEach es X.env)).any (·.1)) = false; rw [hplain] <;> rfl) (Calls.evalArgs_plain ?_)
 exact thn hA fun us s2 ⟨vs, H2, I2, r2, q2⟩ => hm pins s2 σ H2 x vs v us Q I2 r1 r2 q2
end
end L2
namespace L2
open PySem PySem.Spec PyProof.Rows
def MtM (X : Cx) (id : String) (r : V → List V → Hp → VK → Prop) : Prop :=
 ∀ (pins : List (Addr × Obj)) (s : Shared) (σ : St) (H : Hp) (x : V) (xs : List V) (v : Value) (us : List Value) (Q : VK), Inv X pins σ H s → RelV x v → Vals xs us → r x xs H Q →
  wpAny (model X.prog X.w) X.A (call (.builtin id) (v :: us)) (EP X pins σ Q) X.xe s
theorem Vals.one : ∀ {x : V} {us : List Value}, Vals [x] us → ∃ u, us = [u] ∧ RelV x u
 | _, _, .cons r .nil => ⟨_, rfl, r⟩
theorem Vals.two : ∀ {x y : V} {us : List Value}, Vals [x, y] us → ∃ u v, us = [u, v] ∧ RelV x u ∧ RelV y v
 | _, _, _, .cons r (.cons q .nil) => ⟨_, _, rfl, r, q⟩
theorem Vals.eraseIdx : ∀ {xs : List V} {us : List Value} (i : Nat), Vals xs us → Vals (xs.eraseIdx i) (us.eraseIdx i)
 | _, _, _, .nil => .nil
 | _, _, 0, .cons _ t => t
 | _, _, i + 1, .cons r t => .cons r (Vals.eraseIdx i t)
theorem len_erase {α : Type} : ∀ (l : List α) (i : Nat), (l.eraseIdx i).length ≤ l.length
 | [], _ => Nat.le_refl _
 | _ :: _, 0 => Nat.le_succ _
 | _ :: r, i + 1 => Nat.succ_le_succ (len_erase r i)
section
variable {X : Cx} {pins : List (Addr × Obj)} {σ : St} {H : Hp} {s : Shared} {l b : Addr} {xs ys zs : List V}
theorem Inv.lset {its its' : List Value} {n : Nat} {f : Array Value → Array Value} {t' : Nat} (I : Inv X pins σ H s) (hH : H l = some (.lst xs))
  (e : s.heap.get? l = some { cls := .type "list", data := .seq its.toArray n }) (hf : f its.toArray = its'.toArray) (hv : Vals ys its') (hz : ys.length ≤ sizeLine) :
  Inv X pins σ (upd H l (.lst ys)) { s with heap := s.heap.update l (Obj.mapSeq f), toks := t' } := by
 have q := PySem.IsL.update e f
 rw [hf] at q
 refine I.write (x := l) (e := l) (by rw [hH]; exact trivial) (.inl rfl) (fun b' u hb hu => (Heap.get?_update_other s.heap (Obj.mapSeq f) (Ne.symm hb)).trans hu) ⟨_, q⟩ ?_
 exact ⟨hz, its', _, hv, q⟩
theorem Inv.lnew {its : List Value} {t' : Nat} (I : Inv X pins σ H s) (hv : Vals ys its) (hz : ys.length ≤ sizeLine) :
  Inv X pins σ (upd H s.heap.objs.size (.lst ys)) { s with heap := s.heap.push { cls := .type "list", data := .seq its.toArray }, toks := t' } :=
 I.laid (fun _ _ q => Heap.get?_push_of_some _ q) (Nat.le_refl _) ⟨hz, its, 0, hv, Heap.get?_push_size _ rfl⟩
theorem Inv.fresh (I : Inv X pins σ H s) : H s.heap.objs.size = none := I.hok.fresh (Nat.le_refl _)
theorem Inv.lstM (I : Inv X pins σ H s) (hH : H l = some (.lst xs)) : xs.length ≤ sizeLine ∧ ∃ (its : List Value) (n : Nat), Vals xs its ∧ xs.length = its.length ∧ s.heap.get? l = some { cls := .type "list", data := .seq its.toArray n } := by
 obtain ⟨z, its, n, r, e⟩ := I.hok l _ hH
 exact ⟨z, its, n, r, r.length, e⟩
end
section
variable {X : Cx}
def rAppend : V → List V → Hp → VK → Prop := fun x vs H Q => ∃ l xs y, x = .ref l ∧ vs = [y] ∧ H l = some (.lst xs) ∧ xs.length < sizeLine ∧ Q .non (upd H l (.lst (xs ++ [y])))
theorem mt_append : MtM X "list.append" rAppend := by
 intro pins s σ H x vs v us Q I rx rv h
 obtain ⟨l, xs, y, rfl, rfl, hH, hz, q⟩ := h
 cases rx
 obtain ⟨u, rfl, ru⟩ := rv.one
 obtain ⟨z, its, n, r, hl, e⟩ := I.lstM hH
 refine call_meets F.slot_list_append ⟨_, e, rfl⟩ F.entry_list_append (F.args_list_append_2 _ _) (PySem.list_append l its.toArray n u (by rw [List.size_toArray]; omega)) ⟨e, ?_⟩
 refine ⟨.non, _, I.lset (its' := its ++ [u]) hH e (by simp) (r.append (.cons ru .nil)) ?_, rfl, q⟩
 rw [List.length_append, List.length_singleton]
 omega
def rPopAt : V → List V → Hp → VK → Prop := fun x vs H Q => ∃ l xs i k y, x = .ref l ∧ vs = [.int i] ∧ H l = some (.lst xs) ∧ -(2 ^ 63) ≤ i ∧ i < 2 ^ 63 ∧ seqIndex? i xs.length = some k ∧ xs[k]? = some y ∧ Q y (upd H l (.lst (xs.eraseIdx k)))
theorem mt_popAt : MtM X "list.pop" rPopAt := by
 intro pins s σ H x vs v us Q I rx rv h
 obtain ⟨l, xs, i, k, y, rfl, rfl, hH, h1, h2, hk, hy, q⟩ := h
 cases rx
 obtain ⟨u, rfl, ru⟩ := rv.one
 obtain ⟨t, rfl⟩ := ru
 obtain ⟨z, its, n, r, hl, e⟩ := I.lstM hH
 obtain ⟨w, hw, rw'⟩ := r.get hy
 refine call_meets F.slot_list_pop ⟨_, e, rfl⟩ F.entry_list_pop (F.args_list_pop_2 _ _)
  (MeetsSeq.list_pop_at l its.toArray n i t k w (fitsIndex_both h1 h2) (by rw [List.size_toArray, ← hl]; exact hk) (by rw [← Array.getElem?_toList]; exact hw) (by rw [List.size_toArray]; omega)) ⟨e, ?_⟩
 refine ⟨y, _, I.lset (its' := its.eraseIdx k) hH e ?_ (r.eraseIdx k) ?_, rw', q⟩
 ·show its.toArray.eraseIdxIfInBounds k = (its.eraseIdx k).toArray
  rw [List.eraseIdxIfInBounds_toArray]
 ·have := len_erase xs k
  omega
def rCat : R2 := fun x y H Q => ∃ l b xs zs, x = .ref l ∧ y = .ref b ∧ H l = some (.lst xs) ∧ H b = some (.lst zs) ∧ xs.length + zs.length ≤ sizeLine ∧ ∀ p, H p = none → Q (.ref p) (upd H p (.lst (xs ++ zs)))
theorem op_cat : OpR X (binaryOp .Add) rCat := by
 intro pins s σ H x y v u Q I rx ry h
 obtain ⟨l, b, xs, zs, rfl, rfl, hH, hB, hz, q⟩ := h
 cases rx
 cases ry
 obtain ⟨z, its, n, r, hl, e⟩ := I.lstM hH
 obtain ⟨z2, its2, n2, r2, hl2, e2⟩ := I.lstM hB
 refine PySem.P.add_list e e2 ?_ (by rw [List.size_toArray, List.size_toArray]; omega)
 have ea : its.toArray ++ its2.toArray = (its ++ its2).toArray := by simp
 rw [ea]
 exact ⟨.ref _, _, I.lnew (t' := s.toks) (r.append r2) (by rw [List.length_append]; omega), rfl, q _ I.fresh⟩
end
section
variable {prog : Program} {w : World} {A : Around} {E : Value → Shared → Prop} {s : Shared}
set_option maxRecDepth 100000 in
end
section
variable {X : Cx}
end
end L2
namespace L2
open PySem PySem.Spec PyProof.Rows
section
variable {κ : Type} [DecidableEq κ]
def valV (kvs : List (κ × V)) (k : κ) : Option V := (kvs.find? fun kv => decide (kv.1 = k)).map (·.2)
def putK (kvs : List (κ × V)) (k : κ) (v : V) : List (κ × V) :=
 if (kvs.any fun kv => decide (kv.1 = k)) = true then kvs.map (fun kv => if kv.1 = k then (kv.1, v) else kv) else kvs ++ [(k, v)]
theorem valV_pos {p : κ × V} {r : List (κ × V)} {k : κ} (e : p.1 = k) : valV (p :: r) k = some p.2 := by simp [valV, List.find?_cons, e]
theorem valV_neg {p : κ × V} {r : List (κ × V)} {k : κ} (e : ¬ p.1 = k) : valV (p :: r) k = valV r k := by simp [valV, List.find?_cons, e]
theorem valV_any (k : κ) : ∀ kvs : List (κ × V), (kvs.any fun kv => decide (kv.1 = k)) = (valV kvs k).isSome
 | [] => rfl
 | p :: r => by
  rw [List.any_cons]
  by_cases e : p.1 = k
  ·simp only [valV_pos e, decide_eq_true e, Bool.true_or, Option.isSome_some]
  ·rw [valV_neg e, decide_eq_false e, Bool.false_or]; exact valV_any k r
theorem valV_map (k j : κ) (y : V) : ∀ kvs : List (κ × V), valV (kvs.map fun kv => if kv.1 = k then (kv.1, y) else kv) j = (valV kvs j).map fun x => if j = k then y else x
 | [] => rfl
 | p :: r => by
  have ih := valV_map k j y r
  rw [List.map_cons]
  by_cases h : p.1 = k
  ·rw [if_pos h]
   by_cases e : p.1 = j
   ·rw [valV_pos (p := (p.1, y)) e, valV_pos e, Option.map_some, if_pos (e.symm.trans h)]
   ·rw [valV_neg (p := (p.1, y)) e, valV_neg e, ih]
  ·rw [if_neg h]
   by_cases e : p.1 = j
   ·rw [valV_pos (p := p) e, valV_pos e, Option.map_some, if_neg (fun z => h (e.trans z))]
   ·rw [valV_neg (p := p) e, valV_neg e, ih]
theorem valV_snoc (k j : κ) (y : V) : ∀ kvs : List (κ × V), valV kvs k = none → valV (kvs ++ [(k, y)]) j = if j = k then some y else valV kvs j
 | [], _ => by
  by_cases e : k = j
  ·rw [if_pos e.symm]; exact valV_pos (p := (k, y)) e
  ·rw [if_neg (fun z => e z.symm)]; exact valV_neg (p := (k, y)) e
 | p :: r, hn => by
  rw [List.cons_append]
  have hk : ¬ p.1 = k := fun z => by rw [valV_pos z] at hn; cases hn
  rw [valV_neg hk] at hn
  have ih := valV_snoc k j y r hn
  by_cases e : p.1 = j
  ·rw [valV_pos e, valV_pos e, if_neg (fun z => hk (e.trans z))]
  ·rw [valV_neg e, valV_neg e, ih]
theorem valV_put (kvs : List (κ × V)) (k j : κ) (y : V) : valV (putK kvs k y) j = if j = k then some y else valV kvs j := by
 unfold putK
 by_cases a : (kvs.any fun kv => decide (kv.1 = k)) = true
 ·rw [if_pos a, valV_map]
  rw [valV_any] at a
  by_cases e : j = k
  ·obtain ⟨x, hx⟩ := Option.isSome_iff_exists.mp a
   rw [if_pos e, e, hx, Option.map_some, if_pos rfl]
  ·rw [if_neg e]
   cases valV kvs j with
   | none => rfl
   | some x => rw [Option.map_some, if_neg e]
 ·rw [if_neg a]
  refine valV_snoc k j y kvs ?_
  rw [valV_any] at a
  cases q : valV kvs k with
  | none => rfl
  | some x => rw [q] at a; exact (a rfl).elim
theorem length_putK (kvs : List (κ × V)) (k : κ) (v : V) : (putK kvs k v).length ≤ kvs.length + 1 := by
 unfold putK
 split
 ·rw [List.length_map]; omega
 ·rw [List.length_append, List.length_cons, List.length_nil]; omega
theorem putK_new {kvs : List (κ × V)} {k : κ} (v : V) (h : valV kvs k = none) : putK kvs k v = kvs ++ [(k, v)] := by
 unfold putK
 rw [valV_any, h]
 exact if_neg (by decide)
theorem RelO.isSome_eq {o : Option V} {u : Option Value} (r : RelO o u) : o.isSome = u.isSome := by
 cases o with
 | none => cases u with
  | none => rfl
  | some _ => exact (show False from r).elim
 | some _ => cases u with
  | none => exact (show False from r).elim
  | some _ => rfl
theorem KV.val {kvs : List (κ × V)} {vs : List (κ × Value)} (r : KV kvs vs) (k : κ) : RelO (valV kvs k) (valueAt vs k) := by
 unfold KV at r
 induction r with
 | nil => exact True.intro
 | @cons p q ps qs h t ih =>
  obtain ⟨h1, h2⟩ := h
  by_cases e : p.1 = k
  ·have e' : q.1 = k := h1.symm.trans e
   have b : valueAt (q :: qs) k = some q.2 := by simp [valueAt, List.find?_cons, e']
   rw [valV_pos e, b]; exact h2
  ·have e' : ¬ q.1 = k := fun z => e (h1.trans z)
   have b : valueAt (q :: qs) k = valueAt qs k := by simp [valueAt, List.find?_cons, e']
   rw [valV_neg e, b]; exact ih
theorem KV.any {kvs : List (κ × V)} {vs : List (κ × Value)} (r : KV kvs vs) (k : κ) : (kvs.any fun kv => decide (kv.1 = k)) = vs.any fun kv => decide (kv.1 = k) := by
 unfold KV at r
 induction r with
 | nil => rfl
 | cons h t ih => rw [List.any_cons, List.any_cons, ih, h.1]
theorem KV.repl {kvs : List (κ × V)} {vs : List (κ × Value)} (r : KV kvs vs) (k : κ) {y : V} {u : Value} (ry : RelV y u) :
  KV (kvs.map fun kv => if kv.1 = k then (kv.1, y) else kv) (vs.map fun kv => if kv.1 = k then (kv.1, u) else kv) := by
 unfold KV at r ⊢
 induction r with
 | nil => exact .nil
 | @cons p q ps qs h t ih =>
  rw [List.map_cons, List.map_cons]
  refine .cons ?_ ih
  obtain ⟨h1, h2⟩ := h
  by_cases e : p.1 = k
  ·rw [if_pos e, if_pos (h1.symm.trans e)]; exact ⟨h1, ry⟩
  ·rw [if_neg e, if_neg (fun z => e (h1.trans z))]; exact ⟨h1, h2⟩
theorem KV.put {kvs : List (κ × V)} {vs : List (κ × Value)} (r : KV kvs vs) (k : κ) {y : V} {u : Value} (ry : RelV y u) : KV (putK kvs k y) (stored vs k u) := by
 unfold putK stored
 rw [r.any k]
 by_cases e : (vs.any fun kv => decide (kv.1 = k)) = true
 ·rw [if_pos e, if_pos e]; exact r.repl k ry
 ·rw [if_neg e, if_neg e]; exact Paired.snoc r ⟨rfl, ry⟩
theorem KV.length {kvs : List (κ × V)} {vs : List (κ × Value)} (r : KV kvs vs) : kvs.length = vs.length := Paired.length r
end
theorem kV_is {P : Program} {w : World} {k : Key} {u : Value} (r : RelV (kV k) u) : (mixKind P w).is k u = true := by
 cases k with
 | inl i => obtain ⟨t, e⟩ := (show ∃ t, u = Value.int i t from r); subst e; exact mixKind_int P w i t
 | inr x => obtain ⟨t, e⟩ := (show ∃ t, u = Value.str x t from r); subst e; exact mixKind_str P w x t
theorem items_are {P : Program} {w : World} : ∀ {ks : List Key} {us : List Value}, Vals (ks.map kV) us → ItemsAre (mixKind P w) ks us
 | [], _, r => by rw [List.map_nil] at r; cases r; exact .nil
 | k :: ks, _, r => by
  rw [List.map_cons] at r
  cases r with
  | cons h t => exact .cons (kV_is h) (items_are t)
abbrev KT (H : Hp) : List (List Key × V) → List (List Key × Addr × Value) → Prop := Paired fun p q => p.1 = q.1 ∧ H q.2.1 = some (.tup (p.1.map kV)) ∧ RelV p.2 q.2.2
theorem KT.val {H : Hp} {kvs : List (List Key × V)} {xs : List (List Key × Addr × Value)} (r : KT H kvs xs) (k : List Key) : RelO (valV kvs k) ((atKey xs k).map (·.2)) := by
 induction r with
 | nil => exact True.intro
 | @cons p q ps qs h t ih =>
  obtain ⟨h1, _, h2⟩ := h
  by_cases e : p.1 = k
  ·have e' : q.1 = k := h1.symm.trans e
   have b : atKey (q :: qs) k = some q.2 := by simp [atKey, List.find?_cons, e']
   rw [valV_pos e, b]; exact h2
  ·have e' : ¬ q.1 = k := fun z => e (h1.trans z)
   have b : atKey (q :: qs) k = atKey qs k := by simp [atKey, List.find?_cons, e']
   rw [valV_neg e, b]; exact ih
theorem KT.repl {H : Hp} {kvs : List (List Key × V)} {xs : List (List Key × Addr × Value)} (r : KT H kvs xs) (k : List Key) {y : V} {u : Value} (ry : RelV y u) :
  KT H (kvs.map fun kv => if kv.1 = k then (kv.1, y) else kv) (xs.map (putAt k u)) := by
 induction r with
 | nil => exact .nil
 | @cons p q ps qs h t ih =>
  rw [List.map_cons, List.map_cons]
  refine .cons ?_ ih
  obtain ⟨h1, h2, h3⟩ := h
  unfold putAt
  by_cases e : p.1 = k
  ·rw [if_pos e, if_pos (h1.symm.trans e)]; exact ⟨h1, h2, ry⟩
  ·rw [if_neg e, if_neg (fun z => e (h1.trans z))]; exact ⟨h1, h2, h3⟩
theorem KT.put {H : Hp} {kvs : List (List Key × V)} {xs : List (List Key × Addr × Value)} (r : KT H kvs xs) (k : List Key) {b : Addr} {y : V} {u : Value} (hb : H b = some (.tup (k.map kV))) (ry : RelV y u) :
  KT H (putK kvs k y) (storedH xs k b u) := by
 have e : (kvs.any fun kv => decide (kv.1 = k)) = (atKey xs k).isSome := by
  rw [valV_any, (r.val k).isSome_eq, Option.isSome_map]
 unfold putK storedH
 rw [e]
 by_cases q : (atKey xs k).isSome = true
 ·rw [if_pos q, if_pos q]; exact r.repl k ry
 ·rw [if_neg q, if_neg q]; exact Paired.snoc r ⟨rfl, hb, ry⟩
theorem KT.keeps {H H' : Hp} {kvs : List (List Key × V)} {xs : List (List Key × Addr × Value)} (r : KT H kvs xs) (ht : ∀ b ys, H b = some (.tup ys) → H' b = some (.tup ys)) : KT H' kvs xs :=
 Paired.mapP r fun _ _ z => ⟨z.1, ht _ _ z.2.1, z.2.2⟩
section
variable {P : Program} {w : World} {H : Hp} {h : Heap} {a : Addr}
theorem rd_of {u : HO} (ok : HOk P w H h) (e : Rd H a u) : ObjOk P w H h a u := e.ok ok
theorem dk_rd {kvs : List (Key × V)} (ok : HOk P w H h) (e : Rd H a (.dK kvs)) : kvs.length ≤ sizeLine ∧ (a == sysModules) = false ∧ ∃ vs, KV kvs vs ∧ h.DictOf (mixKind P w) a vs :=
 show ObjOk P w H h a (.dK kvs) from rd_of ok e
theorem dk_of {kvs : List (Key × V)} (ok : HOk P w H h) (e : H a = some (.dK kvs)) : kvs.length ≤ sizeLine ∧ (a == sysModules) = false ∧ ∃ vs, KV kvs vs ∧ h.DictOf (mixKind P w) a vs := dk_rd ok (.inl e)
theorem key_of {ks : List Key} (ok : HOk P w H h) (e : H a = some (.tup (ks.map kV))) : (tupleKind (mixKind P w)).is h ks a := by
 obtain ⟨_, its, r, o, h1, h2, n, h3⟩ := (show ObjOk P w H h a (.tup (ks.map kV)) from ok a _ e)
 exact ⟨o, its.toArray, n, h1, h2, h3, by simpa using items_are r⟩
theorem dt_rd {kvs : List (List Key × V)} (ok : HOk P w H h) (e : Rd H a (.dT kvs)) : kvs.length ≤ sizeLine ∧ (a == sysModules) = false ∧
  ∃ xs, KT H kvs xs ∧ h.DictOfH (tupleKind (mixKind P w)) a xs := by
 obtain ⟨z, y, xs, r, o, es, ep, h1, h2, h3, h4, h5⟩ := (show ObjOk P w H h a (.dT kvs) from rd_of ok e)
 refine ⟨z, y, xs, r, o, es, ep, h1, h2, h3, h4, fun x hx => ?_, h5⟩
 have all : ∀ {l : List (List Key × V)} {m : List (List Key × Addr × Value)}, KT H l m → ∀ x ∈ m, (tupleKind (mixKind P w)).is h x.1 x.2.1 := by
  intro l m q
  induction q with
  | nil => intro x hx; exact nomatch hx
  | @cons p q ps qs hq t ih =>
   intro x hx
   rcases List.mem_cons.mp hx with e | hx
   ·subst e
    exact key_of ok (by rw [← hq.1]; exact hq.2.1)
   ·exact ih x hx
 exact all r x hx
theorem dt_of {kvs : List (List Key × V)} (ok : HOk P w H h) (e : H a = some (.dT kvs)) : kvs.length ≤ sizeLine ∧ (a == sysModules) = false ∧
  ∃ xs, KT H kvs xs ∧ h.DictOfH (tupleKind (mixKind P w)) a xs := dt_rd ok (.inl e)
end
def DGet (H : Hp) (a : Addr) (y : V) (r : Option V) : Prop :=
 (∃ kvs k, Rd H a (.dK kvs) ∧ y = kV k ∧ r = valV kvs k) ∨ ∃ kvs k b, Rd H a (.dT kvs) ∧ y = .ref b ∧ H b = some (.tup (k.map kV)) ∧ r = valV kvs k
def DPut (H : Hp) (a : Addr) (y v : V) (H' : Hp) : Prop :=
 (∃ kvs k, H a = some (.dK kvs) ∧ y = kV k ∧ kvs.length < sizeLine ∧ H' = upd H a (.dK (putK kvs k v))) ∨
 ∃ kvs k b, H a = some (.dT kvs) ∧ y = .ref b ∧ H b = some (.tup (k.map kV)) ∧ kvs.length < sizeLine ∧ H' = upd H a (.dT (putK kvs k v))
theorem DGet.k {H : Hp} {a : Addr} {kvs : List (Key × V)} {k : Key} (e : H a = some (.dK kvs)) : DGet H a (kV k) (valV kvs k) := .inl ⟨kvs, k, .inl e, rfl, rfl⟩
theorem DGet.t {H : Hp} {a b : Addr} {kvs : List (List Key × V)} {k : List Key} (e : H a = some (.dT kvs)) (eb : H b = some (.tup (k.map kV))) : DGet H a (.ref b) (valV kvs k) := .inr ⟨kvs, k, b, .inl e, rfl, eb, rfl⟩
theorem DPut.k {H : Hp} {a : Addr} {kvs : List (Key × V)} {k : Key} {v : V} (e : H a = some (.dK kvs)) (hl : kvs.length < sizeLine) : DPut H a (kV k) v (upd H a (.dK (putK kvs k v))) := .inl ⟨kvs, k, e, rfl, hl, rfl⟩
theorem DPut.t {H : Hp} {a b : Addr} {kvs : List (List Key × V)} {k : List Key} {v : V} (e : H a = some (.dT kvs)) (eb : H b = some (.tup (k.map kV))) (hl : kvs.length < sizeLine) :
  DPut H a (.ref b) v (upd H a (.dT (putK kvs k v))) := .inr ⟨kvs, k, b, e, rfl, eb, hl, rfl⟩
section
variable {X : Cx} {pins : List (Addr × Obj)} {σ : St} {H : Hp} {s : Shared} {a : Addr} {y v : V} {u r : Value} {o : Option V} {A : Around} {E : Value → Shared → Prop}
theorem Inv.big (I : Inv X pins σ H s) : sysModules < s.heap.objs.size := by
 have h : mainGlobals < s.heap.objs.size := (I.mod.glob.keeps I.bk).lt
 exact Nat.lt_trans (by decide) h
theorem d_getItem {Q : Value → Shared → Prop} (hu : A.units + 1 < cLine) (I : Inv X pins σ H s) (g : DGet H a y (some v)) (ry : RelV y u) (h : ∀ w' s', Inv X pins σ H s' → RelV v w' → Q w' s') :
  wpAny (model X.prog X.w) A (getItem (.ref a) u) Q E s := by
 rcases g with ⟨kvs, k, e, ey, l⟩ | ⟨kvs, k, b, e, ey, eb, l⟩
 ·subst ey
  obtain ⟨z, hd, vs, rel, dd⟩ := dk_rd I.hok e
  obtain ⟨w', hw, rw'⟩ := RelO.some_of (v := v) (o := valueAt vs k) (by rw [l]; exact rel.val k)
  exact wpAny_getItem_of (kV_is ry) dd.mapOf hw (h w' _ (I.tok _) rw')
 ·subst ey
  cases (show u = Value.ref b from ry)
  obtain ⟨z, hd, xs, rel, dd⟩ := dt_rd I.hok e
  obtain ⟨w', hw, rw'⟩ := RelO.some_of (v := v) (o := (atKey xs k).map (·.2)) (by rw [l]; exact rel.val k)
  obtain ⟨p, hp, hp2⟩ := Option.map_eq_some_iff.mp hw
  refine wpAny_getItem_heap (tupleKind_room_in1 hu) (key_of I.hok eb) dd hp ?_
  rw [hp2]
  exact h w' _ (I.tok _) rw'
theorem d_in {Q : Value → Shared → Prop} (hu : A.units + 1 < cLine) (I : Inv X pins σ H s) (g : DGet H a y o) (ry : RelV y u) (h : ∀ s', Inv X pins σ H s' → Q (.bool o.isSome) s') :
  wpAny (model X.prog X.w) A (compareOp .In u (.ref a)) Q E s := by
 rcases g with ⟨kvs, k, e, ey, l⟩ | ⟨kvs, k, b, e, ey, eb, l⟩
 ·subst ey
  obtain ⟨z, hd, vs, rel, dd⟩ := dk_rd I.hok e
  refine wpAny_in_of (kV_is ry) hd dd.mapOf ?_
  rw [← (rel.val k).isSome_eq, ← l]
  exact h _ (I.tok _)
 ·subst ey
  cases (show u = Value.ref b from ry)
  obtain ⟨z, hd, xs, rel, dd⟩ := dt_rd I.hok e
  refine wpAny_in_heap (tupleKind_room_in1 hu) (key_of I.hok eb) hd dd ?_
  have q := (rel.val k).isSome_eq
  rw [Option.isSome_map] at q
  rw [← q, ← l]
  exact h _ (I.tok _)
theorem d_notIn {Q : Value → Shared → Prop} (hu : A.units + 1 < cLine) (I : Inv X pins σ H s) (g : DGet H a y o) (ry : RelV y u) (h : ∀ s', Inv X pins σ H s' → Q (.bool (!o.isSome)) s') :
  wpAny (model X.prog X.w) A (compareOp .NotIn u (.ref a)) Q E s := by
 rcases g with ⟨kvs, k, e, ey, l⟩ | ⟨kvs, k, b, e, ey, eb, l⟩
 ·subst ey
  obtain ⟨z, hd, vs, rel, dd⟩ := dk_rd I.hok e
  refine wpAny_notIn_of (kV_is ry) hd dd.mapOf ?_
  rw [← (rel.val k).isSome_eq, ← l]
  exact h _ (I.tok _)
 ·subst ey
  cases (show u = Value.ref b from ry)
  obtain ⟨z, hd, xs, rel, dd⟩ := dt_rd I.hok e
  refine wpAny_notIn_heap (tupleKind_room_in1 hu) (key_of I.hok eb) hd dd ?_
  have q := (rel.val k).isSome_eq
  rw [Option.isSome_map] at q
  rw [← q, ← l]
  exact h _ (I.tok _)
theorem d_write {h' : Heap} {t' : Nat} {ob : HO} (I : Inv X pins σ H s) (mu : Mut (H a)) (hs : Heap.SameBut a s.heap h') (he : ∃ q, h'.get? a = some q) (new : ObjOk X.prog X.w (upd H a ob) h' a ob) :
  Inv X pins σ (upd H a ob) { s with heap := h', toks := t' } :=
 I.write (x := a) (e := a) mu (.inl rfl) (fun b q hb z => (hs.2 b hb).trans z) he new
theorem dk_new {P : Program} {w : World} {H' : Hp} {h' : Heap} {kvs : List (Key × V)} {vs : List (Key × Value)} (z : kvs.length ≤ sizeLine) (hd : (a == sysModules) = false) (rel : KV kvs vs) (dd : h'.DictOf (mixKind P w) a vs) :
  ObjOk P w H' h' a (.dK kvs) := ⟨z, hd, vs, rel, dd⟩
theorem d_setItem {H' : Hp} {Q : Unit → Shared → Prop} (hu : A.units + 1 < cLine) (I : Inv X pins σ H s) (g : DPut H a y v H') (ry : RelV y u) (rv : RelV v r) (h : ∀ s', Inv X pins σ H' s' → Q () s') :
  wpAny (model X.prog X.w) A (setItem (.ref a) u r) Q E s := by
 rcases g with ⟨kvs, k, e, ey, l, eH⟩ | ⟨kvs, k, b, e, ey, eb, l, eH⟩
 ·subst ey eH
  obtain ⟨z, hd, vs, rel, dd⟩ := dk_of I.hok e
  have hz : vs.length ≤ sizeLine := by rw [← rel.length]; exact z
  have hl : (putK kvs k v).length ≤ sizeLine := by have := length_putK kvs k v; omega
  refine wpAny_setItem_pairs (hsz := hz) (kV_is ry) dd fun h' dd' hs => h _ ?_
  have he : ∃ q, h'.get? a = some q := let ⟨q, _, _, hq, _⟩ := dd'; ⟨q, hq⟩
  exact d_write I (by rw [e]; exact True.intro) hs he (dk_new hl hd (rel.put k rv) dd')
 ·subst ey eH
  cases (show u = Value.ref b from ry)
  obtain ⟨z, hd, xs, rel, dd⟩ := dt_of I.hok e
  have hz : xs.length ≤ sizeLine := by rw [← Paired.length rel]; exact z
  have hl : (putK kvs k v).length ≤ sizeLine := by have := length_putK kvs k v; omega
  refine wpAny_setItem_heap (hsz := hz) (tupleKind_room_in1 hu) (key_of I.hok eb) dd fun h' dd' hs => h _ ?_
  obtain ⟨q, es, ep, hq, h2, h3, h4, _, h5⟩ := dd'
  refine d_write I (by rw [e]; exact True.intro) hs ⟨q, hq⟩ ⟨hl, hd, _, (rel.put k eb rv).keeps fun c ys ec => ?_, q, es, ep, hq, h2, h3, h4, h5⟩
  rw [upd_ne (ne_of ec e (fun z => nomatch z))]
  exact ec
end
section
variable {X : Cx} {pins : List (Addr × Obj)} {σ : St} {H : Hp} {s : Shared} {a : Addr} {kvs : List (Key × V)} {k : Key} {u : Value} {A : Around} {E : Value → Shared → Prop}
theorem d_len {Q : Value → Shared → Prop} (I : Inv X pins σ H s) (e : Rd H a (.dK kvs)) (h : ∀ t s', Inv X pins σ H s' → Q (.int kvs.length t) s') : wpAny (model X.prog X.w) A (call (.builtin "len") [.ref a]) Q E s := by
 obtain ⟨z, hd, vs, rel, dd⟩ := dk_rd I.hok e
 refine call_len_dict hd dd (by rw [← rel.length]; rw [sizeLine_eq] at z; omega) ?_
 rw [← rel.length]
 exact h _ _ (I.tok _)
end
def NoSl (i : Expr) : Prop := ∀ ov iv, subscripted i false ov iv = operate [ov, iv] (getItem ov iv)
theorem subD_of {prog : Program} {w : World} {A : Around} {E : Value → Shared → Prop} {s : Shared} {env : Env} {value slice : Expr} {pos : Pos} {T id : String} {Q : Value → Shared → Prop}
  (hl : typeLookup (.type T) "__getitem__" = pure (some (.builtin id))) (hs : NoSl slice)
  (h : wpAny (model prog w) A (eval value env) (fun o s₁ => wpAny (model prog w) A (eval slice env) (fun i s₂ => s₂.TypeIs o T ∧ wpAny (model prog w) A (getItem o i) Q E s₂) E s₁) E s) :
  wpAny (model prog w) A (eval (.Subscript value slice pos) env) Q E s := by
 refine Subscript_ (wpAny_mono h (fun o s₁ h₁ => wpAny_mono h₁ (fun i s₂ h₂ => ?_) fun _ _ x => x) fun _ _ x => x)
 obtain ⟨hT, h₂⟩ := h₂
 unfold subscriptTail
 refine wpAny_bind ?_
 rw [getitemInPython_of_ne hT.not_modules]
 refine wpAny_bind (wpAny_specialOf hT hl ?_)
 have fin : wpAny (model prog w) A (subscripted slice false o i) (fun r s₃ => wpAny (model prog w) A (letTemporaryGo value o r >>= fun _ => pure r) Q E s₃) E s₂ := by
  rw [hs o i]
  exact wpAny_operating (wpAny_mono h₂ (fun r s₃ h₃ => wpAny_bind (wpAny_letTemporaryGo (wpAny_pure h₃))) fun _ _ x => x)
 first
  | exact wpAny_pure (wpAny_bind fin)
  | exact wpAny_bind (wpAny_pure (wpAny_bind fin))
  | exact wpAny_bind fin
theorem dict_typeIs {X : Cx} {pins : List (Addr × Obj)} {σ : St} {H : Hp} {s : Shared} {a : Addr} {y : V} {o : Option V} (I : Inv X pins σ H s) (g : DGet H a y o) : s.TypeIs (.ref a) "dict" := by
 rcases g with ⟨kvs, k, e, _, _⟩ | ⟨kvs, k, b, e, _, _, _⟩
 ·obtain ⟨_, _, vs, _, dd⟩ := dk_rd I.hok e
  exact dd.typeIs
 ·obtain ⟨_, _, xs, _, dd⟩ := dt_rd I.hok e
  exact dd.typeIs
def tDGet (td ty : TE) : TE := fun σ H Q => td σ H fun x H1 => ty σ H1 fun y H2 => ∃ a v, x = .ref a ∧ DGet H2 a y (some v) ∧ Q v H2
def tDIn (ty td : TE) : TE := fun σ H Q => ty σ H fun y H1 => td σ H1 fun x H2 => ∃ a o, x = .ref a ∧ DGet H2 a y o ∧ Q (.bl o.isSome) H2
def tDNotIn (ty td : TE) : TE := fun σ H Q => ty σ H fun y H1 => td σ H1 fun x H2 => ∃ a o, x = .ref a ∧ DGet H2 a y o ∧ Q (.bl (!o.isSome)) H2
def sDPut (td ty tv : TE) : TS := fun D σ H => tv σ H fun v H1 => td σ H1 fun x H2 => ty σ H2 fun y H3 => ∃ a H4, x = .ref a ∧ DPut H3 a y v H4 ∧ D.nx σ H4
section
variable {X : Cx} {o i e value : Expr} {pos pos' tpos : Pos} {td ty tv : TE}
theorem pe_dget (hu : X.A.units + 1 < cLine) (ho : PE X o td) (hi : PE X i ty) (hs : NoSl i) : PE X (.Subscript o i pos) (tDGet td ty) := by
 intro pins s σ H Q I h
 refine subD_of PySem.F.slot_dict_getitem.lookup hs (thn (ho pins s σ H _ I h) fun u s1 ⟨x, H1, I1, rx, q1⟩ => thn (hi pins s1 σ H1 _ I1 q1) fun iv s2 ⟨y, H2, I2, ry, a, v, ex, g, q2⟩ => ?_)
 subst ex
 obtain rfl : u = Value.ref a := rx
 exact ⟨dict_typeIs I2 g, d_getItem hu I2 g ry fun w' s3 I3 rw' => ⟨v, H2, I3, rw', q2⟩⟩
theorem pc_din (hu : X.A.units + 1 < cLine) (hi : PE X i ty) (ho : PE X o td) : PC X .In i o (tDIn ty td) := by
 intro pins s σ H Q I h
 refine thn (hi pins s σ H _ I h) fun iv s1 ⟨y, H1, I1, ry, q1⟩ => thn (ho pins s1 σ H1 _ I1 q1) fun u s2 ⟨x, H2, I2, rx, a, ov, ex, g, q2⟩ => ?_
 subst ex
 obtain rfl : u = Value.ref a := rx
 exact d_in hu I2 g ry fun s3 I3 => ⟨.bl ov.isSome, H2, I3, rfl, q2⟩
theorem pc_dnotin (hu : X.A.units + 1 < cLine) (hi : PE X i ty) (ho : PE X o td) : PC X .NotIn i o (tDNotIn ty td) := by
 intro pins s σ H Q I h
 refine thn (hi pins s σ H _ I h) fun iv s1 ⟨y, H1, I1, ry, q1⟩ => thn (ho pins s1 σ H1 _ I1 q1) fun u s2 ⟨x, H2, I2, rx, a, ov, ex, g, q2⟩ => ?_
 subst ex
 obtain rfl : u = Value.ref a := rx
 exact d_notIn hu I2 g ry fun s3 I3 => ⟨.bl (!ov.isSome), H2, I3, rfl, q2⟩
theorem ps_dput (hu : X.A.units + 1 < cLine) (ho : PE X o td) (hi : PE X i ty) (hv : PE X value tv) (hs : swapsWith value (some (.Subscript o i pos')) pos.line X.env = pure false) :
  PS X (.Assign [.Subscript o i pos'] value pos) (sDPut td ty tv) := by
 intro pins s σ H D I h
 refine wpAny_Assign_Subscript (thn (hv pins s σ H _ I h) fun r s1 ⟨v, H1, I1, rv, q1⟩ => thn (ho pins s1 σ H1 _ I1 q1) fun u s2 ⟨x, H2, I2, rx, q2⟩ => thn (hi pins s2 σ H2 _ I2 q2) fun iv s3 ⟨y, H3, I3, ry, a, H4, ex, g, q3⟩ => ?_) hs
 subst ex
 obtain rfl : u = Value.ref a := rx
 exact d_setItem hu I3 g ry rv fun s4 I4 => ⟨σ, H4, I4, q3⟩
end
theorem dk_empty {P : Program} {w : World} {H : Hp} (h : Heap) (hb : sysModules < h.objs.size) : ObjOk P w H (h.push { cls := .type "dict", data := .dict #[] }) h.objs.size (.dK []) :=
 ⟨Nat.zero_le _, beq_eq_false_iff_ne.mpr (Ne.symm (Nat.ne_of_lt hb)), [], .nil, Heap.DictOf.new h⟩
theorem dt_empty {P : Program} {w : World} {H : Hp} (h : Heap) (hb : sysModules < h.objs.size) : ObjOk P w H (h.push { cls := .type "dict", data := .dict #[] }) h.objs.size (.dT []) :=
 ⟨Nat.zero_le _, beq_eq_false_iff_ne.mpr (Ne.symm (Nat.ne_of_lt hb)), [], .nil, _, #[], 0, Heap.get?_push_size _ rfl, ⟨rfl, rfl, rfl⟩, rfl, rfl, List.nodup_nil⟩
def tDNewK : TE := fun _ H Q => ∀ p, H p = none → Q (.ref p) (upd H p (.dK []))
def tDNewT : TE := fun _ H Q => ∀ p, H p = none → Q (.ref p) (upd H p (.dT []))
section
variable {X : Cx} {pos : Pos}
theorem pe_dnewK : PE X (.Dict [] [] pos) tDNewK := fun pins s σ H Q I h =>
 wpAny_Dict_empty ⟨.ref s.heap.objs.size, _, I.laid (a := s.heap.objs.size) (o := .dK []) (t' := s.toks) (fun _ _ q => Heap.get?_push_of_some _ q) (Nat.le_refl _) (dk_empty s.heap I.big), rfl, h _ (I.hok.fresh (Nat.le_refl _))⟩
theorem pe_dnewT : PE X (.Dict [] [] pos) tDNewT := fun pins s σ H Q I h =>
 wpAny_Dict_empty ⟨.ref s.heap.objs.size, _, I.laid (a := s.heap.objs.size) (o := .dT []) (t' := s.toks) (fun _ _ q => Heap.get?_push_of_some _ q) (Nat.le_refl _) (dt_empty s.heap I.big), rfl, h _ (I.hok.fresh (Nat.le_refl _))⟩
end
structure M1 (X : Cx) (o : Expr) (m : Str) (apos : Pos) (e : Expr) (cpos : Pos) : Prop where
 base : attributeBase o m X.env (eval o X.env) = eval o X.env
 few : ((backTo cpos (starEach [e] X.env)).all (fun x => !x.1) && (backToKw cpos (keywordEach [] X.env)).all (fun x => x.1.isSome)
  && decide (([e] : List Expr).length + ([] : List Keyword).length + (if ([] : List Keyword).isEmpty then 0 else 1) < 30)) = true
 line : (apos.endLine == cpos.line) = true
 trees : backTo cpos (starEach [e] X.env) = [(false, eval e X.env)]
structure M2 (X : Cx) (o : Expr) (m : Str) (apos : Pos) (e f : Expr) (cpos : Pos) : Prop where
 base : attributeBase o m X.env (eval o X.env) = eval o X.env
 few : ((backTo cpos (starEach [e, f] X.env)).all (fun x => !x.1) && (backToKw cpos (keywordEach [] X.env)).all (fun x => x.1.isSome)
  && decide (([e, f] : List Expr).length + ([] : List Keyword).length + (if ([] : List Keyword).isEmpty then 0 else 1) < 30)) = true
 line : (apos.endLine == cpos.line) = true
 trees : backTo cpos (starEach [e, f] X.env) = [(false, eval e X.env), (false, eval f X.env)]
section
variable {X : Cx} {pins : List (Addr × Obj)} {σ : St} {H : Hp} {s : Shared} {a : Addr} {y d : V} {u r : Value} {o : Option V} {A : Around} {E : Value → Shared → Prop}
end
section
variable {X : Cx} {o e f : Expr} {apos cpos : Pos} {td ty tx : TE}
end
section
variable {X : Cx} {pins : List (Addr × Obj)} {σ : St} {H : Hp} {s : Shared} {a : Addr} {kvs : List (Key × V)} {A : Around} {E : Value → Shared → Prop}
end
section
variable {X : Cx} {pins : List (Addr × Obj)} {σ : St} {H : Hp} {s : Shared} {a : Addr} {y : V} {u : Value} {A : Around} {E : Value → Shared → Prop}
end
end L2
namespace Att
open PySem PySem.W PySem.Calls PyProof.Rows
theorem ints_of_wellAll {P : Params} {h : Heap} : ∀ (ns : List Int) (vs : List Value), WellAll P h vs (ns.map WData.int) → IntsAre vs ns := by
 intro ns
 induction ns with
 | nil =>
  intro vs w
  rw [List.map_nil] at w
  cases w
  exact .nil
 | cons n ns ih =>
  intro vs w
  rw [List.map_cons] at w
  cases w with
  | cons a b =>
   cases a
   exact .cons _ _ (ih _ b)
theorem script_of {l : OpenLaw} {n : Nat} (hn : l.most = some n) {P : Params} {h : Heap} {args : List WData} {vals : List Value}
  (hpre : l.row.toRowW.claim.pre args = true) (hwl : WellAll P h vals args) :
  ∃ a vs ns, vals = [Value.ref a] ∧ args = [WData.list (ns.map WData.int)] ∧ h.get? a = some { cls := .type "list", data := .seq vs.toArray } ∧ IntsAre vs ns ∧ ns.length ≤ n := by
 have hsh : WShape.hasAll [] args [.list .int] = true := (pre_splitW hpre).1
 have hc : l.pre.holds [] { args := args } = true := (pre_splitW hpre).2
 obtain ⟨d, r, rfl, h1, h2⟩ := hasAllW_cons hsh
 obtain rfl := hasAllW_nil h2
 obtain ⟨xs, rfl, h3⟩ := hasW_list h1
 obtain ⟨ns, rfl⟩ := items_int h3
 have hlen : ns.length ≤ n := by
  unfold OpenLaw.pre at hc
  have h4 : (WTm.not (.lt (.lit (.int (n : Int))) (.len (.arg 0)))).holds [] { args := [.list (ns.map .int)] } = true := by
   have h4 := (holds_andW hc).1
   rw [hn] at h4
   exact h4
  have h5 := condW_of h4 (w_not (w_lt w_lit (w_len_list (w_arg rfl))))
  rw [List.length_map] at h5
  refine Nat.le_of_not_lt fun q => ?_
  have q' : (n : Int) < ((ns.length : Nat) : Int) := by omega
  first
   | (rw [decide_eq_true q'] at h5; exact absurd h5 (by decide))
   | (simp at h5; omega)
 cases hwl with
 | cons w1 w2 =>
  cases w2
  cases w1 with
  | list ho hall => exact ⟨_, _, ns, rfl, rfl, ho, ints_of_wellAll ns _ hall, hlen⟩
theorem post_true (l : OpenLaw) (args : List WData) : l.row.toRowW.claim.post args (.bool true) args = true :=
 postW_of (r := l.row.toRowW) (X := (true == true))
  (show WShape.has [] (.bool true) .bool = true by first | rfl | decide | simp [WShape.has, WShape.arms, WShape.armsAll])
  (show (WTm.eq .res (.lit (.bool true))).value [] { args := args, res := some (.bool true), after := args } = some (.bool (true == true)) from w_eq_bool (w_res rfl) w_lit) rfl
theorem attach_call {l : OpenLaw} {n : Nat} {q : Program} {loose : List Str} {XP : (Str → Option Value) → Heap → Prop} {YP : World → Heap → Prop} {d : DefRec}
  (hn : l.most = some n) (hdf : d.params.defaults = [])
  (call : ∀ (w : World) (s₀ s₁ : Shared) (mg mb : Str → Option Value) (fa : Addr) (o : Obj) (pm cd doc : Value) (a : Addr) (vs : List Value) (ns : List Int),
   Ground q loose [] XP w s₀ mg mb s₁.heap → YP w s₁.heap →
   s₁.heap.get? fa = some o → o.data = .func (docDef d.name d.params d.body d.scope pm cd doc) → s₁.heap.CodeRec cd d.name → mg d.name = some (.ref fa) →
   s₁.heap.get? a = some { cls := .type "list", data := .seq vs.toArray } → IntsAre vs ns → ns.length ≤ n → s₁.gens = #[] →
   codeAny (model l.prog w) callerA (.call (.ref fa) ⟨[.ref a], []⟩) (fun r s' => r = .ok (.ret (.bool true)) ∧ OldK s₁.heap s'.heap ∧ s'.os = s₁.os ∧ AllBare s'.gens) s₁) :
  WalkO q loose XP YP l.row.toRowW d [] (fun f vs => PySem.call f vs) := by
 intro w s₀ s₁ mg mb G Y fa o pm cd doc dV kV ho hd hcd hD hmg hg args vals as hpre hlay hrd hwl hlo
 obtain rfl : dV = .none := Dflts.none hD hdf
 obtain rfl : kV = .none := Dflts.noKw hD
 obtain ⟨a, vs, ns, rfl, rfl, hobj, hints, hlen⟩ := script_of hn hpre hwl
 refine enter_call (codeAny_mono (call w s₀ s₁ mg mb fa o pm cd doc a vs ns G Y ho (fd_plain hd) hcd hmg hobj hints hlen hg) fun r s' hq => ?_)
 obtain ⟨rfl, h2, h3, h4⟩ := hq
 exact ⟨.inl ⟨.bool true, .bool true, [], rfl, fun _ => rfl, .bool true, post_true l _, fun _ => ⟨List.Pairwise.nil, fun _ hm => (nomatch hm)⟩⟩, h2, h3, h4⟩
section
variable {prog : Program} {w : World} {A : Around} {E : Value → Shared → Prop} {s : Shared} {K : Frag}
end
end Att
namespace L2
open PySem PySem.Spec PyProof.Rows
theorem vals_ints : ∀ {vs : List Value} {ns : List Int}, IntsAre vs ns → Vals (ns.map V.int) vs
 | _, _, .nil => .nil
 | _, _, .cons n t h => .cons ⟨t, rfl⟩ (vals_ints h)
def Only (H : Hp) : Prop := ∀ b, H b = none ∨ ∃ o xs, H b = some (.frz o (.lst xs))
theorem law_call {P : Program} {w : World} {K : PySem.W.Frag} {mg mb : Str → Option Value} {CX : CXT} {k : Nat} {fa a : Addr} {fd : FuncData} {x : Str} {sp : Sp} {s₁ : Shared} {vs : List Value} {ns : List Int}
  (KX : K.In s₁.heap) (hns : s₁.heap.Ns mainGlobals mg) (hb : s₁.heap.Ns builtinsNs mb) (hbb : ∀ x : Str, x ≠ "__name__" → mb x = bootBuiltins x) (hlim : s₁.heap.NoLimit) (hg : s₁.gens = #[])
  (ha : s₁.heap.get? a = some { cls := .type "list", data := .seq vs.toArray }) (hi : IntsAre vs ns) (hl : ns.length ≤ sizeLine) (hr : Room k callerA)
  (F : ∀ base : Heap, K.In base → base.Ns mainGlobals mg → FnOk P w K mg base CX k fa fd [x] sp) (hbind : ∀ (s : Shared) (u : Value), BindsTo s fd ⟨[u], []⟩ [(x, u)])
  (hsp : ∀ H : Hp, Only H → SqL K H a (ns.map V.int) → sp [.ref a] H (fun v _ => v = .bl true) fun _ _ _ => False)
  (hCX : ∀ H e s', CX [] H s₁ (fun _ _ _ => False) e s' → False) :
  codeAny (model P w) callerA (.call (.ref fa) ⟨[.ref a], []⟩) (fun r s' => r = .ok (.ret (.bool true)) ∧ OldK s₁.heap s'.heap ∧ s'.os = s₁.os ∧ AllBare s'.gens) s₁ := by
 have rv := vals_ints hi
 have lenV := hi.length
 have core : ∀ H : Hp, Only H → SqL K H a (ns.map V.int) → HOk P w H s₁.heap → (∀ b, H b ≠ none → b = a) → (H a ≠ none → K.lookup a = none) →
   codeAny (model P w) callerA (.call (.ref fa) ⟨[.ref a], []⟩) (fun r s' => r = .ok (.ret (.bool true)) ∧ OldK s₁.heap s'.heap ∧ s'.os = s₁.os ∧ AllBare s'.gens) s₁ := by
  intro H hO hS hok hA hK
  have base_of : ∀ {b : Addr} {o : Obj}, s₁.heap.get? b = some o → H b = none → (hidT s₁.heap H).get? b = some o := fun e n => hidT_get e n
  have noA : ∀ {b : Addr} {o : Obj} {es : Array DictEntry} {ep : Nat}, s₁.heap.get? b = some o → o.data = .dict es ep → H b = none := fun {b o es ep} e d => by
   cases q : H b with
   | none => rfl
   | some u =>
    have e' : b = a := hA b (by rw [q]; simp)
    subst e'
    rw [ha] at e; cases e
    have d' : Data.seq vs.toArray _ = Data.dict es ep := d
    cases d'
  have nsK : ∀ {b : Addr} {m : Str → Option Value}, s₁.heap.Ns b m → (hidT s₁.heap H).Ns b m := fun {b m} ⟨o, es, ep, e, d, r⟩ => ⟨o, es, ep, base_of e (noA e d), d, r⟩
  have hKb : K.In (hidT s₁.heap H) := fun b o e => base_of (KX b o e) (by
   cases q : H b with
   | none => rfl
   | some u =>
    have e' : b = a := hA b (by rw [q]; simp)
    subst e'
    rw [hK (by rw [q]; simp)] at e; cases e)
  have hM : Mod K mg (hidT s₁.heap H) := ⟨hKb, nsK hns, ⟨mb, nsK hb, hbb⟩, let ⟨mc, h1, h2⟩ := hlim; ⟨mc, nsK h1, h2⟩⟩
  have e0 : Env0 P w K mg (hidT s₁.heap H) callerA [] s₁ H := ⟨rfl, hM, fun b o e => of_hidT e, Nat.le_of_eq (hidT_size _ _), trivial, fun b hb => absurd (show b ∈ ([] : List Addr) from hb) (by simp), hok, .of_eq hg⟩
  refine codeAny_mono ((F _ hKb (nsK hns)).run callerA [] s₁ H ⟨[.ref a], []⟩ [.ref a] [.ref a] _ _ hr e0 (hbind s₁ (.ref a)) (.cons rfl .nil) (hsp H hO hS)) fun r s' h => ?_
  cases r with
  | error e => exact (hCX H e s' h).elim
  | ok fl =>
   cases fl with
   | next => exact False.elim h
   | brk => exact False.elim h
   | cont => exact False.elim h
   | ret u =>
    obtain ⟨v, H', os, bare, un, hok', r', q⟩ := h
    have q' : v = .bl true := q
    subst q'
    obtain rfl : u = Value.bool true := r'
    refine ⟨rfl, OldK.of_keep fun b o e => ?_, os, bare⟩
    cases q : H b with
    | none => exact un.keep b o e q (by intro z; exact absurd (show b ∈ ([] : List Addr) from z) (by simp)) (by simp)
    | some u =>
     rcases hO b with z | ⟨ob, xs, z⟩
     ·rw [q] at z; cases z
     ·have z2 := un.frzs b ob _ z
      obtain ⟨e1, _⟩ := hok b _ z
      obtain ⟨e2, _⟩ := hok' b _ z2
      rw [e] at e1; cases e1
      exact e2
 cases hk : K.lookup a with
 | some o =>
  have e := KX a o hk
  rw [ha] at e
  cases e
  refine core (fun _ => none) (fun _ => .inl rfl) (.inr ⟨_, vs.toArray, _, hk, rfl, rfl, rfl, by rw [List.size_toArray, lenV]; exact hl, by simpa using rv⟩) (fun b u z => by have z' : (none : Option HO) = some u := z; cases z') (fun b z => absurd rfl z) fun z => absurd rfl z
 | none =>
  refine core (fun b => if b = a then some (.frz { cls := .type "list", data := .seq vs.toArray } (.lst (ns.map V.int))) else none) (fun b => ?_) (.inl (.inr ⟨{ cls := .type "list", data := .seq vs.toArray }, if_pos rfl⟩)) (fun b u z => ?_) (fun b z => ?_) fun _ => hk
  ·by_cases hb : b = a
   ·exact .inr ⟨_, _, if_pos hb⟩
   ·exact .inl (if_neg hb)
  ·by_cases hb : b = a
   ·have z' := (if_pos hb).symm.trans z
    cases z'
    subst hb
    exact ⟨ha, by rw [List.length_map]; exact hl, vs, _, rv, ha⟩
   ·have z' := (if_neg hb).symm.trans z
    cases z'
  ·by_cases hb : b = a
   ·exact hb
   ·exact absurd (if_neg hb) z
end L2
namespace L2
open PySem PySem.Spec PyProof.Rows
theorem walk_of {l : PySem.W.OpenLaw} {n k : Nat} {q : Program} {loose : List Str} {XP : (Str → Option Value) → Heap → Prop} {YP : World → Heap → Prop} {d : DefRec} {K : Params → PySem.W.Frag} {CX : World → CXT} {sp : World → Sp} {x : Str}
  (hn : l.most = some n) (hn2 : n ≤ sizeLine) (hdf : d.params.defaults = []) (hr : Room k callerA)
  (hY : ∀ (w : World) (h : Heap), YP w h → (K w.params).In h)
  (F : ∀ (w : World) (mg : Str → Option Value) (fa : Addr) (h : Heap), (K w.params).In h → h.Ns mainGlobals mg → mg d.name = some (.ref fa) →
   ∃ fd : FuncData, (∀ (s : Shared) (u : Value), BindsTo s fd ⟨[u], []⟩ [(x, u)]) ∧
    ∀ base : Heap, (K w.params).In base → base.Ns mainGlobals mg → FnOk l.prog w (K w.params) mg base (CX w) k fa fd [x] (sp w))
  (hsp : ∀ (w : World) (H : Hp) (a : Addr) (ns : List Int), ns.length ≤ n → Only H → SqL (K w.params) H a (ns.map V.int) → sp w [.ref a] H (fun v _ => v = .bl true) fun _ _ _ => False)
  (hCX : ∀ (w : World) (H : Hp) (s : Shared) (e : Value) (s' : Shared), CX w [] H s (fun _ _ _ => False) e s' → False) :
  PySem.W.WalkO q loose XP YP l.row.toRowW d [] (fun f vs => PySem.call f vs) := by
 refine Att.attach_call hn hdf fun w s₀ s₁ mg mb fa o pm cd doc a vs ns G Y ho hd hcd hmg hobj hints hlen hg => ?_
 have KX := hY w _ Y
 obtain ⟨fd, hb, hF⟩ := F w mg fa _ KX G.T.g hmg
 exact law_call KX G.T.g G.T.b G.T.builtins G.T.nolimit hg hobj hints (Nat.le_trans hlen hn2) hr hF hb (fun H hO hS => hsp w H a ns hlen hO hS) fun H e s' => hCX w H s₁ e s'
end L2
namespace L2
open PySem PySem.Spec PyProof.Rows
def inClass (s : Stmt) (j : Nat) : Stmt := match s with
 | .ClassDef _ _ _ body _ _ _ _ _ _ _ => body.getD j (.Pass ⟨0, 0, 0, 0⟩)
 | _ => .Pass ⟨0, 0, 0, 0⟩
def defArgs (s : Stmt) : Arguments := match s with
 | .FunctionDef _ a _ _ _ _ _ _ _ _ => a
 | _ => { posonlyargs := [], args := [], vararg := none, kwonlyargs := [], kw_defaults := [], kwarg := none, defaults := [] }
def defBody (s : Stmt) : List Stmt := match s with
 | .FunctionDef _ _ b _ _ _ _ _ _ _ => b
 | _ => []
def defScope (s : Stmt) : Scope := match s with
 | .FunctionDef _ _ _ _ _ _ sc _ _ _ => sc
 | _ => { kind := .function, names := [], isGenerator := false, isCoroutine := false }
abbrev CX0 : CXT := fun _ _ _ _ _ _ => False
abbrev E0 : XK := fun _ _ _ => False
theorem pass0 {X : Cx} : Passes CX0 X E0 := fun _ _ _ _ _ _ _ h => h.elim
structure Fun (K : PySem.W.Frag) (x qual : Str) (st : Stmt) (f : Addr) (fd : FuncData) : Prop where
 ex : ∃ (oc : Value) (od : Option Addr) (kV doc pm : Value) (an : Option Addr) (cdv ct : Value) (osl : Array (Option Value)),
  fd = PySem.W.fnOf x qual (defArgs st) (defBody st) (defScope st) .none kV doc pm an cdv ct ∧ K.lookup f = some ⟨oc, od, .func fd, osl⟩ ∧ PySem.W.codeIn K cdv qual = true
 kp : PySem.W.keepIn K (.ref f) = true
section
variable {P : Program} {w : World} {K : PySem.W.Frag} {mg : Str → Option Value} {base : Heap}
theorem Fun.ok {x qual : Str} {st : Stmt} {f : Addr} {fd : FuncData} {N ps : List Str} {k : Nat} {sp : Sp} (F : Fun K x qual st f fd) (S : FnScope N ps (defScope st)) (len : ∀ vs H Q E, sp vs H Q E → vs.length = ps.length)
  (hbody : ∀ (cdv : Value) (A : Around) (outer : List Env) (s : Shared) (H : Hp) (vs : List V) (Q : VK) (E : XK), Room k (A.deeper (envOfC qual (defScope st) s.heap.objs.size f cdv)) → sp vs H Q E →
   ∃ t, PSs (cxOf CX0 P w K mg base N qual (defScope st) f cdv A outer s H E).nox (defBody st) t ∧ t { nx := fun _ H' => Q .non H', rt := Q } (start N vs) H) : FnOk P w K mg base CX0 (k + 1) f fd ps sp := by
 obtain ⟨oc, od, kV, doc, pm, an, cdv, ct, osl, rfl, lk, hcd⟩ := F.ex
 refine fn_of lk hcd S len fun A outer s H vs Q E hr hsp => ?_
 obtain ⟨t, h, q⟩ := hbody cdv A outer s H vs Q E hr hsp
 exact ⟨t, h.nox, q⟩
theorem Fun.binds {x qual : Str} {st : Stmt} {f : Addr} {fd : FuncData} {ps : List Str} (F : Fun K x qual st f fd)
  (h : ∀ (kV doc pm : Value) (an : Option Addr) (cdv ct : Value) (us : List Value), us.length = ps.length → bindArgs (PySem.W.fnOf x qual (defArgs st) (defBody st) (defScope st) .none kV doc pm an cdv ct) ⟨us, []⟩ = pure (ps.zip us)) : Binds K fd ps [] := by
 obtain ⟨oc, od, kV, doc, pm, an, cdv, ct, osl, rfl, lk, hcd⟩ := F.ex
 exact .all (h kV doc pm an cdv ct)
theorem fun_mk {x qual : Str} {st : Stmt} {f : Addr} {oc : Value} {od an : Option Addr} {osl : Array (Option Value)} {kV doc pm cdv ct : Value} (l : K.lookup f = some ⟨oc, od, .func (PySem.W.fnOf x qual (defArgs st) (defBody st) (defScope st) .none kV doc pm an cdv ct), osl⟩)
  (c : PySem.W.codeIn K cdv qual = true) (k : PySem.W.keepIn K (.ref f) = true) : Fun K x qual st f (PySem.W.fnOf x qual (defArgs st) (defBody st) (defScope st) .none kV doc pm an cdv ct) := ⟨⟨oc, od, kV, doc, pm, an, cdv, ct, osl, rfl, l, c⟩, k⟩
end
theorem hu_of {A : Around} {k : Nat} (hr : Room k A) : A.units + 1 < cLine := Nat.lt_of_le_of_lt (Nat.add_le_add_left (by decide : 1 ≤ 64) _) hr.units
theorem small1000 {n : Nat} (h : n ≤ 1000) : n < sizeLine := Nat.lt_of_le_of_lt h (by decide)
section
variable {X : Cx}
theorem pv (i : Nat) {x : Str} {pos : Pos} (hN : X.N[i]? = some x := by rfl) (hv : Vis X.env.scope x := by first | exact Or.inl rfl | exact Or.inr (Or.inl rfl) | exact Or.inr (Or.inr rfl)) (hd : (x == ("__debug__" : Str)) = false := by decide)
  (hcd : (x == ("__classdict__" : Str)) = false := by decide) : PE X (.Name x pos) (tVar i) := pe_var hN hv hd hcd
theorem call_lenD : CallR X (.builtin "len") (fun xs H Q => ∃ a kvs, xs = [V.ref a] ∧ H a = some (.dK kvs) ∧ Q (.int kvs.length) H) := by
 intro pins s σ H xs us Q I r h
 obtain ⟨a, kvs, rfl, ha, q⟩ := h
 obtain ⟨u, rfl, ru⟩ := vals1 r
 cases ru
 exact d_len I (.inl ha) fun t s' I' => ⟨.int kvs.length, H, I', ⟨t, rfl⟩, q⟩
end
theorem iteF {A B : Prop} (h : B) : if false = true then A else B := by
 rw [if_neg Bool.false_ne_true]
 exact h
theorem iteT {A B : Prop} (h : A) : if true = true then A else B := by
 rw [if_pos rfl]
 exact h
theorem ite2 {c A B : Prop} [Decidable c] (h1 : c → A) (h2 : ¬ c → B) : if c then A else B := by
 by_cases h : c
 ·rw [if_pos h]
  exact h1 h
 ·rw [if_neg h]
  exact h2 h
def Same (H H' : Hp) : Prop := ∀ b o, H b = some o → H' b = some o
theorem Same.trans {H H1 H2 : Hp} (a : Same H H1) (b : Same H1 H2) : Same H H2 := fun c o h => b c o (a c o h)
theorem Same.seq {K : PySem.W.Frag} {H H' : Hp} {a : Addr} {xs : List V} (e : Same H H') (h : SqL K H a xs) : SqL K H' a xs := by
 rcases h with (h | ⟨o, h⟩) | h
 ·exact .inl (.inl (e _ _ h))
 ·exact .inl (.inr ⟨o, e _ _ h⟩)
 ·exact .inr h
section
variable {κ : Type} [DecidableEq κ]
end
end L2
set_option maxHeartbeats 4000000
namespace L2
open PySem PySem.Spec PyProof.Rows
def closL (cells : List (Str × Addr)) : List (Str × NameKind) → List (Str × Addr) → List (Str × Addr)
 | [], cs => cs
 | (n, k) :: r, cs => if (k == NameKind.free) = true then closL cells r ((n, (cells.lookup n).getD 0) :: cs) else closL cells r cs
theorem closL_mem {cells : List (Str × Addr)} : ∀ {names : List (Str × NameKind)} {cs : List (Str × Addr)}, (∀ x ∈ names, x.2 = .free → ∃ c, cells.lookup x.1 = some c) → (∀ p ∈ cs, cells.lookup p.1 = some p.2) →
  ∀ p ∈ closL cells names cs, cells.lookup p.1 = some p.2
 | [], _, _, h, p, hp => h p hp
 | (n, k) :: r, cs, hn, h, p, hp => by
  unfold closL at hp
  have hr : ∀ x ∈ r, x.2 = .free → ∃ c, cells.lookup x.1 = some c := fun x hx => hn x (List.mem_cons_of_mem _ hx)
  by_cases hk : (k == NameKind.free) = true
  ·rw [if_pos hk] at hp
   refine closL_mem hr (fun q hq => ?_) p hp
   rcases List.mem_cons.mp hq with e | hq
   ·obtain ⟨c, hc⟩ := hn (n, k) List.mem_cons_self (by simpa using hk)
    have hc' : cells.lookup n = some c := hc
    subst e
    show cells.lookup n = some ((cells.lookup n).getD 0)
    rw [hc']; rfl
   ·exact h q hq
  ·rw [if_neg hk] at hp
   exact closL_mem hr h p hp
theorem closL_keeps {cells : List (Str × Addr)} {p : Str × Addr} : ∀ {names : List (Str × NameKind)} {cs : List (Str × Addr)}, p ∈ cs → p ∈ closL cells names cs
 | [], _, h => h
 | (n, k) :: r, cs, h => by
  unfold closL
  split
  ·exact closL_keeps (List.mem_cons_of_mem _ h)
  ·exact closL_keeps h
theorem closL_has {cells : List (Str × Addr)} {x : Str} : ∀ {names : List (Str × NameKind)} {cs : List (Str × Addr)}, (x, NameKind.free) ∈ names → ∃ c, (x, c) ∈ closL cells names cs
 | [], _, h => nomatch h
 | (n, k) :: r, cs, h => by
  unfold closL
  rcases List.mem_cons.mp h with e | h
  ·cases e
   rw [if_pos (show (NameKind.free == NameKind.free) = true from rfl)]
   exact ⟨_, closL_keeps List.mem_cons_self⟩
  ·split
   ·exact closL_has h
   ·exact closL_has h
theorem lookup_of_mem {α β : Type} [BEq α] [LawfulBEq α] {x : α} {c : β} : ∀ {l : List (α × β)}, (x, c) ∈ l → ∃ d, l.lookup x = some d
 | [], h => nomatch h
 | (y, d) :: r, h => by
  rw [List.lookup_cons]
  cases e : x == y with
  | true => exact ⟨d, rfl⟩
  | false =>
   rcases List.mem_cons.mp h with z | h
   ·cases z; rw [beq_self_eq_true] at e; cases e
   ·exact lookup_of_mem h
theorem closureFor_closL {scope : Scope} {env : Env} (h : ∀ x ∈ scope.names, x.2 = .free → ∃ c, env.cells.lookup x.1 = some c) : closureFor scope env = pure (closL env.cells scope.names []) := by
 have key : ∀ (names : List (Str × NameKind)) (cs : List (Str × Addr)), (∀ x ∈ names, x.2 = .free → ∃ c, env.cells.lookup x.1 = some c) →
   (forIn names cs fun x r => if (x.2 == NameKind.free) = true then (do let c ← cellOf env x.1; pure (ForInStep.yield ((x.1, c) :: r))) else pure (ForInStep.yield r) : Sem (List (Str × Addr))) = pure (closL env.cells names cs) := by
  intro names
  induction names with
  | nil => intro cs _; rfl
  | cons x r ih =>
   intro cs hn
   obtain ⟨n, k⟩ := x
   rw [List.forIn_cons]
   unfold closL
   have hr : ∀ x ∈ r, x.2 = .free → ∃ c, env.cells.lookup x.1 = some c := fun x hx => hn x (List.mem_cons_of_mem _ hx)
   by_cases hk : (k == NameKind.free) = true
   ·obtain ⟨c, hc⟩ := hn (n, k) List.mem_cons_self (by simpa using hk)
    have hc' : env.cells.lookup n = some c := hc
    have e : cellOf env n = pure c := by unfold cellOf; rw [hc']
    dsimp only
    rw [if_pos hk, if_pos hk, e, pure_bind, pure_bind, hc']
    exact ih _ hr
   ·dsimp only
    rw [if_neg hk, if_neg hk, pure_bind]
    exact ih _ hr
 have e := key scope.names [] h
 simp only [closureFor, bind_pure]
 exact e
theorem lookup_relabel {env : Env} {x : Str} : ∀ (names : List (Str × NameKind)),
  (names.map fun (n, k) => if (k == NameKind.free && env.scope.kind == .function && env.kindOf n == some .cell) then (n, NameKind.cell) else (n, k)).lookup x =
   (names.lookup x).map fun k => if (k == NameKind.free && env.scope.kind == .function && env.kindOf x == some .cell) then NameKind.cell else k
 | [] => rfl
 | (n, k) :: r => by
  have ih := lookup_relabel (env := env) (x := x) r
  show List.lookup x ((if (k == NameKind.free && env.scope.kind == .function && env.kindOf n == some .cell) = true then (n, NameKind.cell) else (n, k)) :: _) = _
  cases hx : x == n with
  | true =>
   have e : x = n := eq_of_beq hx
   subst e
   by_cases hc : (k == NameKind.free && env.scope.kind == .function && env.kindOf x == some .cell) = true
   ·rw [if_pos hc]; simp only [List.lookup_cons, hx, Option.map_some, hc, if_true]
   ·rw [if_neg hc]; simp only [List.lookup_cons, hx, Option.map_some, hc]; rfl
  | false =>
   by_cases hc : (k == NameKind.free && env.scope.kind == .function && env.kindOf n == some .cell) = true
   ·rw [if_pos hc]; simp only [List.lookup_cons, hx]; exact ih
   ·rw [if_neg hc]; simp only [List.lookup_cons, hx]; exact ih
def hid (xs : List Str) (y : Str) : Str := if xs.contains y then y ++ ("#" : Str) else y
def blkN (xs N : List Str) : List Str := xs ++ N.map (hid xs)
structure BlkScope (X : Cx) (xs : List Str) (sc : Scope) : Prop where
 kind : sc.kind = .function
 nocell : ∀ y ∈ sc.names, y.2 ≠ .cell
 locs : ∀ y ∈ sc.names, y.2 = .local → sc.names.lookup y.1 = some .local
 own : ∀ y ∈ sc.names, y.2 = .local → y.1 ∈ xs ∨ y.1 = (".0" : Str)
 free : ∀ y ∈ sc.names, y.2 = .free → X.env.kindOf y.1 = some .cell ∨ X.env.kindOf y.1 = some .free
 nohid : ∀ y ∈ X.N, sc.names.lookup (y ++ ("#" : Str)) = none
 nodot : (".0" : Str) ∉ X.N
def blk (X : Cx) (pins : List (Addr × Obj)) (xs : List Str) (sc : Scope) (C : Addr) (fp : List Addr) (s3 : Shared) (H3 : Hp) : Cx where
 prog := X.prog
 w := X.w
 K := X.K
 mg := X.mg
 base := X.base
 A := X.A
 N := blkN xs X.N
 s₀ := s3
 H₀ := H3
 env := compEnvC sc (closL X.env.cells sc.names []) C X.env
 outer := X.stack
 stack := X.stack
 ex := fp
 fn := fun _ => false
 calm := true
 pn := X.pn ++ pins
 xe := fun _ _ => False
def blkσ (xs : List Str) (σ : St) : St := List.replicate xs.length none ++ σ
theorem mem_of_lookup' {α β : Type} [BEq α] [LawfulBEq α] {x : α} {c : β} : ∀ {l : List (α × β)}, l.lookup x = some c → (x, c) ∈ l
 | [], h => nomatch h
 | (y, d) :: r, h => by
  rw [List.lookup_cons] at h
  cases e : x == y with
  | true => rw [e] at h; cases h; rw [eq_of_beq e]; exact List.mem_cons_self
  | false => rw [e] at h; exact List.mem_cons_of_mem _ (mem_of_lookup' h)
section
variable {X : Cx} {pins : List (Addr × Obj)} {xs : List Str} {sc : Scope} {σ : St} {H : Hp} {s : Shared}
theorem BlkScope.cells (B : BlkScope X xs sc) (ok : X.Ok) : ∀ y ∈ sc.names, y.2 = .free → ∃ c, X.env.cells.lookup y.1 = some c := fun y hy e => ok.has y.1 (B.free y hy e)
theorem BlkScope.sub (B : BlkScope X xs sc) (ok : X.Ok) {y : Str} {c : Addr} (h : (closL X.env.cells sc.names []).lookup y = some c) : X.env.cells.lookup y = some c :=
 closL_mem (cells := X.env.cells) (names := sc.names) (cs := []) (B.cells ok) (fun p hp => nomatch hp) (y, c) (mem_of_lookup' h)
theorem BlkScope.kindF (B : BlkScope X xs sc) {y : Str} (h : Vis (relabel sc X.env) y) : sc.names.lookup y = some .local ∨ sc.names.lookup y = some .free := by
 have e : (relabel sc X.env).names.lookup y = (sc.names.lookup y).map _ := lookup_relabel (env := X.env) (x := y) sc.names
 cases q : sc.names.lookup y with
 | none =>
  rw [q] at e
  rcases h with h | h | h <;> rw [e] at h <;> cases h
 | some k =>
  cases k with
  | «local» => exact .inl rfl
  | free => exact .inr rfl
  | cell => exact absurd rfl (B.nocell _ (mem_of_lookup' q))
  | globalImplicit => rw [q] at e; rcases h with h | h | h <;> rw [e] at h <;> cases h
  | globalExplicit => rw [q] at e; rcases h with h | h | h <;> rw [e] at h <;> cases h
theorem BlkScope.kindC (B : BlkScope X xs sc) {y : Str} (h : sc.names.lookup y = some .free) : (relabel sc X.env).names.lookup y = some .cell ∨ (relabel sc X.env).names.lookup y = some .free := by
 have e : (relabel sc X.env).names.lookup y = (sc.names.lookup y).map _ := lookup_relabel (env := X.env) (x := y) sc.names
 rw [h] at e
 by_cases hc : ((NameKind.free == NameKind.free) && X.env.scope.kind == .function && X.env.kindOf y == some .cell) = true
 ·left; rw [e]; show some (if _ then _ else _) = _; rw [if_pos hc]
 ·right; rw [e]; show some (if _ then _ else _) = _; rw [if_neg hc]
theorem BlkScope.ofC (B : BlkScope X xs sc) {y : Str} (h : (relabel sc X.env).names.lookup y = some .cell ∨ (relabel sc X.env).names.lookup y = some .free) : sc.names.lookup y = some .free := by
 have v : Vis (relabel sc X.env) y := .inr h
 rcases B.kindF v with q | q
 ·have e : (relabel sc X.env).names.lookup y = (sc.names.lookup y).map _ := lookup_relabel (env := X.env) (x := y) sc.names
  rw [q] at e
  rcases h with h | h <;> rw [e] at h <;> cases h
 ·exact q
theorem blk_start {fp : List Addr} {h1 : Heap} {tk : Nat} {m : Str → Option Value} (hcalm : X.calm = true) (B : BlkScope X xs sc) (I : Inv X pins σ H s) (hf : ∀ b ∈ fp, FpOk X pins H b) (hfl : ∀ b ∈ fp, b < s.heap.objs.size)
  (hn : h1.Ns (s.heap.objs.size + 1) m) (hk : ∀ b o, (s.heap.push { cls := .type "list", data := .seq ([] : List Value).toArray }).get? b = some o → h1.get? b = some o) :
  Inv (blk X pins xs sc (s.heap.objs.size + 1) fp { s with heap := s.heap.push { cls := .type "list", data := .seq ([] : List Value).toArray } } (upd H s.heap.objs.size (.lst []))) [] (blkσ xs σ)
   (upd H s.heap.objs.size (.lst [])) { s with heap := h1, toks := tk } := by
 have hsz : (s.heap.push { cls := .type "list", data := .seq ([] : List Value).toArray }).objs.size = s.heap.objs.size + 1 := Heap.size_push ..
 have lt : ∀ b o, s.heap.get? b = some o → b < s.heap.objs.size := fun b o e => Heap.lt_size e
 have updF : ∀ b, b < s.heap.objs.size → upd H s.heap.objs.size (.lst []) b = H b := fun b hb => upd_ne (Nat.ne_of_lt hb)
 have cl : ∀ x c, X.env.cells.lookup x = some c → c < s.heap.objs.size := fun x c e => by obtain ⟨v, q⟩ := I.cell x c e; exact q.lt
 have frlt : ∀ b ∈ frs X.stack, b < s.heap.objs.size := fun b hb => by
  rcases List.mem_cons.mp (I.stkSub b hb) with e | z
  ·rw [e]; exact I.lt
  ·exact Nat.lt_of_not_le fun z' => I.nofs z' z
 have pushK : ∀ b o, s.heap.get? b = some o → (s.heap.push { cls := .type "list", data := .seq ([] : List Value).toArray }).get? b = some o := fun b o e => Heap.get?_push_of_some _ e
 have hk0 : ∀ b o, s.heap.get? b = some o → h1.get? b = some o := fun b o e => hk b o (pushK b o e)
 have fresh : ∀ b, s.heap.objs.size ≤ b → H b = none := fun b hb => I.hok.fresh hb
 refine ⟨⟨I.ok.mod, B.kind, I.ok.glob, I.ok.blt, ?_, fun x y c h1 h2 => ?_, fun x hx => ?_, fun x c hx => ?_, fun _ => I.ok.hd hcalm, I.ok.frames, .inl rfl, fun b hb => ⟨?_, fun x c e => ?_⟩, fun b o e => ⟨?_, ?_⟩, ?_, fun b o e hb => ?_, fun b hb hfr => ?_, ?_, fun b hb => ?_⟩,
  rfl, I.bare, Un.kept hk, ⟨m, hn, fun i x v e1 e2 e3 => ?_⟩, fun x c e => ?_, ?_, fun x c e => ?_, fun p hp => ?_, ?_, ?_⟩
 ·show (s.heap.push { cls := .type "list", data := .seq ([] : List Value).toArray }).objs.size ≤ s.heap.objs.size + 1
  rw [hsz]; exact Nat.le_refl _
 ·exact I.ok.inj x y c (B.sub I.ok h1) (B.sub I.ok h2)
 ·have q := B.ofC (y := x) hx
  obtain ⟨c, hc⟩ := closL_has (cells := X.env.cells) (cs := []) (mem_of_lookup' q)
  exact lookup_of_mem hc
 ·exact absurd hx (by show ¬ (false = true); decide)
 ·exact Nat.ne_of_lt (Nat.lt_succ_of_lt (hfl b hb))
 ·exact (hf b hb).2.2.2.2.1 x c (B.sub I.ok e)
 ·exact pushK b o (I.bk b o e)
 ·show upd H s.heap.objs.size (.lst []) b = none
  rw [updF b (lt b o (I.bk b o e))]; exact (I.bs b o e).2
 ·show X.base.objs.size ≤ (s.heap.push { cls := .type "list", data := .seq ([] : List Value).toArray }).objs.size
  rw [hsz]; exact Nat.le_succ_of_le (Nat.le_trans I.ok.bsz I.sz)
 ·rcases (hf b hb).2.2.2.1 with z | z
  ·exact I.ok.noex b o e z
  ·have := Heap.lt_size e
   exact absurd (Nat.lt_of_lt_of_le this (Nat.le_trans I.ok.bsz z)) (Nat.lt_irrefl _)
 ·rcases List.mem_cons.mp (I.stkSub b hfr) with e | z
  ·exact (hf b hb).2.1 e
  ·exact (hf b hb).2.2.1 z
 ·exact Heap.FunFrames.of_keeps (fun b o e _ => ⟨o, pushK b o e, rfl⟩) I.stack
 ·show upd H s.heap.objs.size (.lst []) b = none
  rw [updF b (frlt b hb)]; exact I.stkFree b hb
 ·have hi : xs.length ≤ i := by
   rcases Nat.lt_or_ge i xs.length with z | z
   ·unfold blkσ at e2
    rw [List.getElem?_append_left (by simpa using z), List.getElem?_replicate, if_pos z] at e2
    cases e2
   ·exact z
  have e2' : σ[i - xs.length]? = some (some v) := by
   unfold blkσ at e2
   rw [List.getElem?_append_right (by simpa using hi), List.length_replicate] at e2
   exact e2
  have e1' : (X.N.map (hid xs))[i - xs.length]? = some x := by
   have q : (blkN xs X.N)[i]? = some x := e1
   unfold blkN at q
   rw [List.getElem?_append_right hi] at q
   exact q
  rw [List.getElem?_map] at e1'
  cases eN : X.N[i - xs.length]? with
  | none => rw [eN] at e1'; cases e1'
  | some y =>
   rw [eN] at e1'
   have ey : hid xs y = x := Option.some.inj e1'
   have hy : y ∈ X.N := List.mem_of_getElem? eN
   have kf := B.kindF (y := x) e3
   unfold hid at ey
   by_cases hc : xs.contains y = true
   ·rw [if_pos hc] at ey
    rw [← ey, B.nohid y hy] at kf
    rcases kf with z | z <;> cases z
   ·rw [if_neg hc] at ey
    subst ey
    rcases kf with z | z
    ·rcases B.own (y, .local) (mem_of_lookup' z) rfl with q | q
     ·exact absurd (List.contains_iff_mem.mpr q) hc
     ·exact absurd (show (".0" : Str) ∈ X.N from q ▸ hy) B.nodot
    ·have kk := B.free (y, .free) (mem_of_lookup' z) rfl
     obtain ⟨m0, hn0, hl0⟩ := I.loc
     obtain ⟨u, ru, lk⟩ := hl0 _ y v eN e2' (.inr kk)
     refine ⟨u, ru, ?_⟩
     rcases lk with ⟨kl, _⟩ | ⟨_, c, ec, zc⟩
     ·rcases kk with kk | kk
      ·rw [show X.env.kindOf y = some .local from kl] at kk; cases kk
      ·rw [show X.env.kindOf y = some .local from kl] at kk; cases kk
     ·obtain ⟨c1, hc1⟩ := closL_has (cells := X.env.cells) (cs := []) (mem_of_lookup' z)
      obtain ⟨c2, hc2⟩ := lookup_of_mem hc1
      have hc3 := B.sub I.ok hc2
      rw [ec] at hc3
      cases hc3
      obtain ⟨oc, hoc, hdc⟩ := zc
      exact .inr ⟨B.kindC z, c, hc2, oc, hk0 c oc hoc, hdc⟩
 ·obtain ⟨v, oc, hoc, hdc⟩ := I.cell x c (B.sub I.ok e)
  exact ⟨v, oc, hk0 c oc hoc, hdc⟩
 ·show upd H s.heap.objs.size (.lst []) (s.heap.objs.size + 1) = none
  rw [upd_ne (Nat.succ_ne_self _)]; exact fresh _ (Nat.le_succ _)
 ·have e' := B.sub I.ok e
  rw [updF c (cl x c e')]; exact I.freeC x c e'
 ·have hp' : p ∈ X.pn ++ pins := by
   rcases List.mem_append.mp hp with z | z
   ·exact z
   ·exact nomatch z
  obtain ⟨q1, q2, q3, q4, q5⟩ := I.pin p hp'
  refine ⟨hk0 _ _ q1, by rw [updF _ (lt _ _ q1)]; exact q2, ?_, fun z => ?_, q5⟩
  ·exact Nat.ne_of_lt (Nat.lt_succ_of_lt (lt _ _ q1))
  ·rcases List.mem_cons.mp (I.stkSub _ z) with e | z
   ·exact q3 e
   ·exact q4 z
 ·refine I.hok.laid hk0 (Nat.le_refl _) ?_
  exact ⟨Nat.zero_le _, [], 0, .nil, hk _ _ (Heap.get?_push_size _ rfl)⟩
 ·show (blkσ xs σ).length = (blkN xs X.N).length
  unfold blkσ blkN
  rw [List.length_append, List.length_append, List.length_replicate, List.length_map, I.len]
theorem blk_end {fp : List Addr} {s' : Shared} {σ' : St} {H' : Hp} (I : Inv X pins σ H s) (hf : ∀ b ∈ fp, FpOk X pins H b)
  (J : Inv (blk X pins xs sc (s.heap.objs.size + 1) fp { s with heap := s.heap.push { cls := .type "list", data := .seq ([] : List Value).toArray } } (upd H s.heap.objs.size (.lst []))) [] σ' H' s') :
  Inv X pins σ H' s' := by
 have u1 : Un (frs X.stack) fp H (upd H s.heap.objs.size (.lst [])) s.heap (s.heap.push { cls := .type "list", data := .seq ([] : List Value).toArray }) :=
  Un.laid (fun b o e => Heap.get?_push_of_some _ e) (Nat.le_refl _) (I.hok.fresh (Nat.le_refl _))
 have u2 : Un (frs X.stack) fp (upd H s.heap.objs.size (.lst [])) H' (s.heap.push { cls := .type "list", data := .seq ([] : List Value).toArray }) s'.heap := J.base
 exact I.call' (s' := s') (ch := fp) J.os (u1.trans u2) J.hok J.bare fun b hb => ⟨(hf b hb).2.2.2.1, (hf b hb).2.1, (hf b hb).2.2.2.2.1, (hf b hb).2.2.2.2.2⟩
theorem blk_gone {fp : List Addr} {s' s'' : Shared} {σ' σ2 : St} {H' H2 : Hp} {h' : Heap} (I : Inv X pins σ H s)
  (hC : H2 (s.heap.objs.size + 1) = none) (I2 : Inv X pins σ2 H2 s'') (hs : Heap.SameBut (s.heap.objs.size + 1) s''.heap h') : Inv X pins σ2 H2 { s'' with heap := h' } := by
 have hL : s.heap.objs.size + 1 ≠ X.env.locals := Nat.ne_of_gt (Nat.lt_succ_of_lt I.lt)
 refine I2.turned (t' := s''.toks) (it := s.heap.objs.size + 1) (fun b o hb e => (hs.2 b hb).trans e) hC hL (.inr (Nat.le_succ_of_le I.sz)) (fun x c e => ?_) fun p hp => ?_
 ·obtain ⟨v, q⟩ := I.cell x c e
  exact Nat.ne_of_lt (Nat.lt_succ_of_lt q.lt)
 ·exact Nat.ne_of_lt (Nat.lt_succ_of_lt (Heap.lt_size (I.pin p hp).1))
end
def PIf (X : Cx) (ifs : List Expr) (t : TT) : Prop :=
 ∀ (pins : List (Addr × Obj)) (s : Shared) (σ : St) (H : Hp) (Q : Bool → Hp → Prop), Inv X pins σ H s → t σ H Q →
  wpAny (model X.prog X.w) X.A (forIn ifs true fun c r => if r = true then do let ok ← isTrue c X.env (eval c X.env); pure (ForInStep.yield ok) else pure (ForInStep.yield r)) (TP X pins σ Q) X.xe s
def tTrue : TT := fun _ H Q => Q true H
theorem pif_nil {X : Cx} : PIf X [] tTrue := fun _ _ _ H _ I h => wpAny_tests_nil ⟨H, I, h⟩
theorem pif_one {X : Cx} {c : Expr} {t : TT} (h : PT X c t) : PIf X [c] t := fun pins s σ H Q I q => wpAny_tests_one (h pins s σ H Q I q)
def tTurns (J : It) (g : TG) (tc : TT) (te : TE) (D : Addr) (Q : Hp → Prop) (σ : St) (H : Hp) : Prop :=
 ∃ W : Nat → Nat → St → Hp → Prop, (∃ m, W 0 m σ H) ∧ ∀ i m σ H, W i m σ H →
  (J.stop i H ∧ Q H) ∨ (J.go i H ∧ ∃ N : St → Hp → Prop, (∀ σ' H', N σ' H' → ∃ m', m' < m ∧ W (i + 1) m' σ' H') ∧ ∀ x H', J.yld i H x H' → g x σ H' fun σ2 H2 => tc σ2 H2 fun b H3 =>
   if b = true then te σ2 H3 fun v H4 => ∃ ys, H4 D = some (.lst ys) ∧ ys.length < sizeLine ∧ N σ2 (upd H4 D (.lst (ys ++ [v]))) else N σ2 H3)
theorem comp_loop {P : Program} {w : World} {K : PySem.W.Frag} {Y : Cx} (hP : Y.prog = P) (hw : Y.w = w) (hK : Y.K = K) {tg iter elt : Expr} {ifs : List Expr} {scope : Scope} {pos : Pos} {J : It} {fp : List Addr} {it D : Addr} {tn : Nat → Heap → Prop} {g : TG} {tc : TT} {te : TE}
  {Q : Hp → Prop} {R : Result → Shared → Prop} {s : Shared} {σ : St} {H : Hp}
  (hcalm : Y.calm = true) (hx : Y.xe = fun _ _ => False) (T : Turn P w K tg J fp it tn) (hg : PG Y tg g) (hc : PIf Y ifs tc) (he : PE Y elt te) (I : Inv Y [] σ H s) (st : tn 0 s.heap) (hf : ∀ b ∈ fp, FpOk Y [] H b) (h : tTurns J g tc te D Q σ H)
  (hR : ∀ σ' H' s', Inv Y [] σ' H' s' → Q H' → R (.ok .next) s') :
  codeAny (model P w) Y.A (.compLoop (.ListComp elt [⟨tg, iter, ifs, 0⟩] scope pos) 0 (.ref it) (.ref D) Y.env) R s := by
 subst hP hw hK
 obtain ⟨W, ⟨m0, w0⟩, turn⟩ := h
 have stat : ∀ {H' : Hp}, (∀ b ∈ fp, H' b = none) → ∀ b ∈ fp, FpOk Y [] H' b := fun hn b hb => ⟨hn b hb, (hf b hb).2⟩
 have no : ∀ {α : Type} {t : Sem α} {Qa : α → Shared → Prop} {E : Value → Shared → Prop} {s : Shared}, wpAny (model Y.prog Y.w) Y.A t Qa Y.xe s → wpAny (model Y.prog Y.w) Y.A t Qa E s := fun z => wpAny_mono z (fun _ _ q => q) fun _ _ q => by rw [hx] at q; exact q.elim
 refine codeAny_loop rfl (fun n s' => ∃ i σ' H', Inv Y [] σ' H' s' ∧ tn i s'.heap ∧ (∀ b ∈ fp, H' b = none) ∧ W i n σ' H') ?_ m0 ⟨0, σ, H, I, st, fun b hb => (hf b hb).1, w0⟩
 rintro n s3 ⟨i, σ3, H3, I3, st3, fr3, w3⟩
 show wpAny _ Y.A ((compTurn (.ListComp elt [⟨tg, iter, ifs, 0⟩] scope pos) 0 (.ref it) (.ref D) Y.env).onRaise (fun x => do noteFrame x Y.env; theTreesLotGoes x)) _ _ s3
 refine wpAny_noted ?_
 rw [compTurn_list]
 refine wpAny_bind (wpAny_standAt (wpAny_bind ?_))
 rcases turn i n σ3 H3 w3 with ⟨stop, qn⟩ | ⟨go, N, hN, step⟩
 ·refine wpAny_mono (T.done Y rfl rfl rfl hcalm i [] s3 σ3 H3 _ I3 (stat fr3) st3 stop) (fun r s4 ⟨hr, I4⟩ => ?_) fun _ _ q => q
  subst hr
  exact wpAny_pure (hR σ3 H3 s4 I4 qn)
 ·refine wpAny_mono (T.item Y rfl rfl rfl hcalm i [] s3 σ3 H3 _ I3 (stat fr3) st3 go) (fun r s4 ⟨u, hr, h4⟩ => ?_) fun _ _ q => q
  subst hr
  refine wpAny_bind (wpAny_mono h4 (fun _ s5 ⟨x, H5, I5, r5, y5, st5, fr5⟩ => ?_) fun _ _ q => q)
  have I5' := I5.pinned (stat fr5) (T.obj _ _ st5)
  have again : ∀ {s7 : Shared} {σ7 : St} {H7 : Hp}, Inv Y ([] ++ pinsAt fp s5.heap) σ7 H7 s7 → N σ7 H7 → ∃ m, m < n ∧ ∃ i σ' H', Inv Y [] σ' H' s7 ∧ tn i s7.heap ∧ (∀ b ∈ fp, H' b = none) ∧ W i m σ' H' := fun {s7 σ7 H7} I7 n7 => by
   obtain ⟨m', hm, w7⟩ := hN σ7 H7 n7
   refine ⟨m', hm, i + 1, σ7, H7, I7.unpinned, T.keep _ _ _ st5 fun b hb o e => (I7.pin (b, o) (List.mem_append_right _ (List.mem_append_right _ (mem_pinsAt hb e)))).1, fun b hb => ?_, w7⟩
   obtain ⟨o, e, d⟩ := T.obj _ _ st5 b hb
   exact (I7.pin (b, o) (List.mem_append_right _ (List.mem_append_right _ (mem_pinsAt hb e)))).2.1
  refine wpAny_bind (no (thn (hg _ s5 σ3 H5 x u _ I5' r5 (step x H5 y5)) fun _ s6 ⟨σ6, H6, I6, q6⟩ => ?_))
  refine wpAny_bind (no (thn (hc _ s6 σ6 H6 _ I6 q6) fun ok s7 ⟨H7, I7, q7⟩ => ?_))
  cases ok with
  | false => exact wpAny_pure ⟨rfl, again I7 q7⟩
  | true =>
   refine wpAny_bind (wpAny_bind (no (thn (he _ s7 σ6 H7 _ I7 q7) fun v s8 ⟨y, H8, I8, r8, ys, eD, hz, n8⟩ => ?_)))
   refine wpAny_bind (no (thn (mt_append _ s8 σ6 H8 (.ref D) [y] (.ref D) [v] (fun _ H9 => N σ6 H9) I8 rfl (.cons r8 .nil) ⟨D, ys, y, rfl, rfl, eD, hz, n8⟩) fun _ s9 ⟨_, H9, I9, _, n9⟩ => ?_))
   exact wpAny_pure (wpAny_pure ⟨rfl, again I9 n9⟩)
section
variable {X : Cx}
def tComp (xs : List Str) (wi : TI) (g : TG) (tc : TT) (te : TE) : TE := fun σ H Q => wi σ H fun J H1 => ∀ D, H1 D = none → tTurns J g tc te D (fun H' => Q (.ref D) H') (blkσ xs σ) (upd H1 D (.lst []))
theorem comp_core {tg iter elt : Expr} {ifs : List Expr} {sc : Scope} {pos pos' : Pos} {xs : List Str} {wi : TI} {g : TG} {tc : TT} {te : TE} {use : Option (Value → Sem Unit)} (hcalm : X.calm = true) (B : BlkScope X xs sc) (hi : PI X tg iter wi)
  (hb : ∀ pins C fp s3 H3, PG (blk X pins xs sc C fp s3 H3) tg g ∧ PIf (blk X pins xs sc C fp s3 H3) ifs tc ∧ PE (blk X pins xs sc C fp s3 H3) elt te)
  {pins : List (Addr × Obj)} {s : Shared} {σ : St} {H : Hp} {Q : Value → Shared → Prop} {QA : Addr → Hp → Prop} (I : Inv X pins σ H s) (h : wi σ H fun J H1 => ∀ D, H1 D = none → tTurns J g tc te D (QA D) (blkσ xs σ) (upd H1 D (.lst [])))
  (fin : ∀ C D H' s' m, s'.heap.Ns C m → H' C = none → Inv X pins σ H' s' → QA D H' → (∀ σ2 H2 s2 h2, Inv X pins σ2 H2 s2 → H2 C = none → Heap.SameBut C s2.heap h2 → Inv X pins σ2 H2 { s2 with heap := h2 }) → C ≠ X.env.locals → (∀ x c, X.env.cells.lookup x = some c → c ≠ C) →
   match use with
   | none => ∀ h', Heap.SameBut C s'.heap h' → Q (.ref D) { s' with heap := h' }
   | some u => wpAny (model X.prog X.w) X.A (u (.ref D)) (fun _ s'' => ∃ m, s''.heap.Ns C m ∧ ∀ h', Heap.SameBut C s''.heap h' → Q .none { s'' with heap := h' }) X.xe s')
  (hs : ∀ x, foldedSetIterable iter X.env x = pure x := by intro _; rfl) :
  wpAny (model X.prog X.w) X.A (comprehension (.ListComp elt [⟨tg, iter, ifs, 0⟩] sc pos) sc X.env pos' (newList []) false (eval iter X.env) use) Q X.xe s := by
 refine wpAny_comprehension_free (cl := closL X.env.cells sc.names []) (use := use) rfl hs (closureFor_closL (B.cells I.ok)) B.kind B.locs
  (thn (hi pins s σ H _ I h) fun v s1 h1 => thn h1 fun itv s2 h2 => ?_)
 obtain ⟨it, fp, tn, J, H2, e, I2, T, st2, f2, tr⟩ := h2
 subst e
 have hfl : ∀ b ∈ fp, b < s2.heap.objs.size := fun b hb => by obtain ⟨o, e, _⟩ := T.obj _ _ st2 b hb; exact Heap.lt_size e
 have hD : H2 s2.heap.objs.size = none := I2.hok.fresh (Nat.le_refl _)
 refine wpAny_newObj_type (wpAny_newFunctionEnv B.nocell (by intro y hy; simp at hy) (fun h1 hns hsb => ?_) B.kind)
 have hsz : (s2.heap.push { cls := .type "list", data := .seq ([] : List Value).toArray }).objs.size = s2.heap.objs.size + 1 := Heap.size_push ..
 dsimp only at hns hsb ⊢
 rw [hsz] at hns hsb ⊢
 have hk : ∀ b o, (s2.heap.push { cls := .type "list", data := .seq ([] : List Value).toArray }).get? b = some o → h1.get? b = some o := fun b o e =>
  (hsb.2 b (Nat.ne_of_lt (by have := Heap.lt_size e; rw [hsz] at this; exact this))).trans (Heap.get?_push_of_some _ e)
 have J0 := blk_start (tk := s2.toks + ([] : List (Str × Value)).length) hcalm B I2 f2 hfl hns hk
 have st3 : tn 0 h1 := T.keep _ _ _ st2 fun b _ o e => hk b o (Heap.get?_push_of_some _ e)
 have fY : ∀ b ∈ fp, FpOk (blk X pins xs sc (s2.heap.objs.size + 1) fp { s2 with heap := s2.heap.push { cls := .type "list", data := .seq ([] : List Value).toArray } } (upd H2 s2.heap.objs.size (.lst []))) [] (upd H2 s2.heap.objs.size (.lst [])) b := fun b hb => by
  obtain ⟨q1, q2, q3, q4, q5, q6⟩ := f2 b hb
  refine ⟨by rw [upd_ne (Nat.ne_of_lt (hfl b hb))]; exact q1, Nat.ne_of_lt (Nat.lt_succ_of_lt (hfl b hb)), fun z => ?_, .inl hb, fun x c e => q5 x c (B.sub I2.ok e), fun p hp => ?_⟩
  ·rcases List.mem_cons.mp (I2.stkSub _ z) with e | z
   ·exact q2 e
   ·exact q3 z
  ·rcases List.mem_append.mp hp with z | z
   ·exact q6 p z
   ·exact nomatch z
 have loop : ∀ (RR : Result → Shared → Prop), (∀ σ' H' s', Inv (blk X pins xs sc (s2.heap.objs.size + 1) fp { s2 with heap := s2.heap.push { cls := .type "list", data := .seq ([] : List Value).toArray } } (upd H2 s2.heap.objs.size (.lst []))) [] σ' H' s' → QA s2.heap.objs.size H' → RR (.ok .next) s') →
   codeAny (model X.prog X.w) X.A (.compLoop (.ListComp elt [⟨tg, iter, ifs, 0⟩] sc pos) 0 (.ref it) (.ref s2.heap.objs.size) (compEnvC sc (closL X.env.cells sc.names []) (s2.heap.objs.size + 1) X.env)) RR
    { s2 with heap := h1, toks := s2.toks + ([] : List (Str × Value)).length } := fun RR hR =>
  comp_loop (Y := blk X pins xs sc (s2.heap.objs.size + 1) fp { s2 with heap := s2.heap.push { cls := .type "list", data := .seq ([] : List Value).toArray } } (upd H2 s2.heap.objs.size (.lst []))) rfl rfl rfl rfl rfl T (hb _ _ _ _ _).1 (hb _ _ _ _ _).2.1 (hb _ _ _ _ _).2.2 J0 st3 fY (tr _ hD) hR
 refine codeAny_compStart_list (loop _ ?_) (T.self _ 0 _ _ _ st3 (loop _ ?_))
 all_goals
  intro σ' H' s' J' q'
  have I' := blk_end (sc := sc) I2 f2 J'
  obtain ⟨m, hm, _⟩ := J'.loc
  have hC : H' (s2.heap.objs.size + 1) = none := J'.free
  have z := fin (s2.heap.objs.size + 1) s2.heap.objs.size H' s' m hm hC I' q' (fun σ3 H3 s3 h3 I3 c3 sb => blk_gone (fp := fp) (s' := s') (σ' := σ') (H' := H') I2 c3 I3 sb) (Nat.ne_of_gt (Nat.lt_succ_of_lt I2.lt))
   (fun x c e => by obtain ⟨v, q⟩ := I2.cell x c e; exact Nat.ne_of_lt (Nat.lt_succ_of_lt q.lt))
  cases use with
  | none => exact ⟨m, hm, fun h' sb => z h' sb⟩
  | some u => exact z
theorem pe_comp {tg iter elt : Expr} {ifs : List Expr} {sc : Scope} {pos : Pos} (xs : List Str) {wi : TI} {g : TG} {tc : TT} {te : TE} (hcalm : X.calm = true) (B : BlkScope X xs sc) (hi : PI X tg iter wi)
  (hb : ∀ pins C fp s3 H3, PG (blk X pins xs sc C fp s3 H3) tg g ∧ PIf (blk X pins xs sc C fp s3 H3) ifs tc ∧ PE (blk X pins xs sc C fp s3 H3) elt te) (hs : ∀ x, foldedSetIterable iter X.env x = pure x := by intro _; rfl) :
  PE X (.ListComp elt [⟨tg, iter, ifs, 0⟩] sc pos) (tComp xs wi g tc te) := by
 intro pins s σ H Q I h
 rw [eval_ListComp]
 exact comp_core (use := none) (Q := EP X pins σ Q) (QA := fun D H' => Q (.ref D) H') hcalm B hi hb I h (fun C D H' s' m _ hC I' q back _ _ h' sb => ⟨.ref D, H', back σ H' s' h' I' hC sb, rfl, q⟩) hs
theorem ps_comp {tg iter elt : Expr} {ifs : List Expr} {sc : Scope} {pos spos py : Pos} (xs : List Str) {j : Nat} {y : Str} {wi : TI} {g : TG} {tc : TT} {te : TE} (hcalm : X.calm = true) (B : BlkScope X xs sc) (hi : PI X tg iter wi)
  (hb : ∀ pins C fp s3 H3, PG (blk X pins xs sc C fp s3 H3) tg g ∧ PIf (blk X pins xs sc C fp s3 H3) ifs tc ∧ PE (blk X pins xs sc C fp s3 H3) elt te)
  (hN : X.N.Nodup) (hj : X.N[j]? = some y) (hy : Loc X.env.scope y) (hsw : swapsWith (.ListComp elt [⟨tg, iter, ifs, 0⟩] sc pos) (some (.Name y py)) spos.line X.env = pure true)
  (hfn : X.fn y = true ∨ X.env.scope.names.lookup y = some .local := by first | exact .inl rfl | exact .inr rfl | assumption) (hs : ∀ x, foldedSetIterable iter X.env x = pure x := by intro _; rfl) :
  PS X (.Assign [.Name y py] (.ListComp elt [⟨tg, iter, ifs, 0⟩] sc pos) spos) (tAsg (tComp xs wi g tc te) (gName j)) := by
 intro pins s σ H D I h
 rw [exec_Assign_Name_used _ _ _ _ hsw]
 refine wpAny_bind (wpAny_standAt (wpAny_bind ?_))
 show wpAny _ X.A (do let _ ← comprehension (.ListComp elt [⟨tg, iter, ifs, 0⟩] sc pos) sc X.env _ (newList []) false (eval iter X.env) (some (assign (.Name y py) X.env))) _ _ s
 refine wpAny_bind (wpAny_mono (comp_core (use := some (assign (.Name y py) X.env)) (Q := fun _ s' => SP X pins D .next s') (QA := fun Da H' => D.nx (σ.set j (some (.ref Da))) H') hcalm B hi hb I h (fun C Da H' s' m hm hC I' q back hCL hCc => ?_) hs) (fun _ s' hq => wpAny_pure (wpAny_pure hq)) fun _ _ e => e)
 refine wpAny_assign_Name (store_ok2 I' hN hj hy (v := .ref Da) rfl (fun s2 I2 ⟨a, sb, ha⟩ => ?_) hfn)
 have hne : C ≠ a := by
  rcases ha with z | z
  ·rw [z]; exact hCL
  ·exact fun e => hCc _ _ z e.symm
 exact ⟨m, hm.sameBut sb hne, fun h' sb' => ⟨_, H', back _ H' s2 h' I2 hC sb', q⟩⟩
end
end L2
namespace L2
open PySem PySem.Spec PyProof.Rows PySem.SeqAt
inductive EqV (K : PySem.W.Frag) (H : Hp) : Nat → V → V → Bool → Prop where
 | int {n : Nat} (i j : Int) : EqV K H n (.int i) (.int j) (i == j)
 | bl {n : Nat} (i j : Bool) : EqV K H n (.bl i) (.bl j) (i == j)
 | str {n : Nat} (i j : Str) : EqV K H n (.str i) (.str j) (i == j)
 | same {n : Nat} (a : Addr) : EqV K H n (.ref a) (.ref a) true
 | non {n : Nat} : EqV K H n .non .non true
 | lst {n : Nat} {a b : Addr} {xs ys : List V} {e : Nat → Bool} (ne : a ≠ b) (h1 : SqL K H a xs) (h2 : SqL K H b ys) (hl : xs.length = ys.length)
   (he : ∀ (j : Nat) (x y : V), xs[j]? = some x → ys[j]? = some y → EqV K H n x y (e j)) : EqV K H (n + 1) (.ref a) (.ref b) ((List.range xs.length).all e)
 | lstN {n : Nat} {a b : Addr} {xs ys : List V} (ne : a ≠ b) (h1 : SqL K H a xs) (h2 : SqL K H b ys) (hl : xs.length ≠ ys.length) : EqV K H (n + 1) (.ref a) (.ref b) false
 | tup {n : Nat} {a b : Addr} {xs ys : List V} {e : Nat → Bool} (ne : a ≠ b) (h1 : SqT K H a xs) (h2 : SqT K H b ys) (hl : xs.length = ys.length)
   (he : ∀ (j : Nat) (x y : V), xs[j]? = some x → ys[j]? = some y → EqV K H n x y (e j)) : EqV K H (n + 1) (.ref a) (.ref b) ((List.range xs.length).all e)
section
variable {X : Cx} {pins : List (Addr × Obj)} {σ : St} {H : Hp} {s : Shared}
theorem vals_at {xs : List V} {us : List Value} (r : Vals xs us) {j : Nat} (h : j < us.toArray.size) : ∃ x, xs[j]? = some x ∧ RelV x us.toArray[j] := by
 have hl := r.length
 have hj : j < xs.length := by rw [hl]; simpa using h
 obtain ⟨u, hu, ru⟩ := r.get (List.getElem?_eq_getElem hj)
 have e : us.toArray[j] = u := by
  have : us[j]? = some us.toArray[j] := by simp
  rw [this] at hu; exact Option.some.inj hu
 exact ⟨xs[j], List.getElem?_eq_getElem hj, by rw [e]; exact ru⟩
theorem EqV.at (I : Inv X pins σ H s) : ∀ {n : Nat} {x y : V} {b : Bool}, EqV X.K H n x y b → ∀ {A : Around} {u v : Value}, A.units + n < cLine → RelV x u → RelV y v → EqAt A s u v b := by
 intro n x y b h
 induction h with
 | int i j => intro A u v _ ru rv; obtain ⟨t, rfl⟩ := ru; obtain ⟨t', rfl⟩ := rv; exact EqAt.int_int _ _ _ _
 | bl i j => intro A u v _ ru rv; cases ru; cases rv; exact EqAt.bool_bool _ _
 | str i j => intro A u v _ ru rv; obtain ⟨t, rfl⟩ := ru; obtain ⟨t', rfl⟩ := rv; exact EqAt.str_str _ _ _ _
 | same a => intro A u v _ ru rv; cases ru; cases rv; exact EqAt.same _
 | non => intro A u v _ ru rv; cases ru; cases rv; exact EqAt.same _
 | @lst n a b xs ys e ne h1 h2 hl he ih =>
  intro A u v hu ru rv
  cases ru; cases rv
  obtain ⟨i1, r1, p1, _⟩ := I.list h1
  obtain ⟨i2, r2, p2, _⟩ := I.list h2
  have e1 : xs.length = i1.toArray.size := by rw [r1.length]; simp
  have e2 : ys.length = i2.toArray.size := by rw [r2.length]; simp
  rw [e1]
  refine EqAt.of_refs ne (RcAt.lists p1.isList p2.isList (by omega) (by omega) fun j k1 k2 => ?_)
  obtain ⟨x, hx, rx⟩ := vals_at r1 k1
  obtain ⟨y, hy, ry⟩ := vals_at r2 k2
  exact ih j x y hx hy (by show A.units + 1 + n < cLine; omega) rx ry
 | @lstN n a b xs ys ne h1 h2 hl =>
  intro A u v hu ru rv
  cases ru; cases rv
  obtain ⟨i1, r1, p1, _⟩ := I.list h1
  obtain ⟨i2, r2, p2, _⟩ := I.list h2
  refine EqAt.of_refs ne (RcAt.lists_lengths p1.isList p2.isList ?_ (by omega))
  have e1 : xs.length = i1.toArray.size := by rw [r1.length]; simp
  have e2 : ys.length = i2.toArray.size := by rw [r2.length]; simp
  exact bne_iff_ne.mpr (by omega)
 | @tup n a b xs ys e ne h1 h2 hl he ih =>
  intro A u v hu ru rv
  cases ru; cases rv
  obtain ⟨i1, r1, p1, _⟩ := I.tuple h1
  obtain ⟨i2, r2, p2, _⟩ := I.tuple h2
  have e1 : xs.length = i1.toArray.size := by rw [r1.length]; simp
  have e2 : ys.length = i2.toArray.size := by rw [r2.length]; simp
  have q := RcAt.tuples (A := A) (e := e) p1 p2 (by omega) fun j k1 k2 => by
   obtain ⟨x, hx, rx⟩ := vals_at r1 k1
   obtain ⟨y, hy, ry⟩ := vals_at r2 k2
   exact ih j x y hx hy (by show A.units + 1 + n < cLine; omega) rx ry
  have ez : i1.toArray.size = i2.toArray.size := by omega
  rw [ez, Nat.min_self, beq_self_eq_true, Bool.and_true, ← ez, ← e1] at q
  exact EqAt.of_refs ne q
inductive RcV (K : PySem.W.Frag) (H : Hp) : V → V → Bool → Prop where
 | lst {a b : Addr} {xs ys : List V} {e : Nat → Bool} (h1 : SqL K H a xs) (h2 : SqL K H b ys) (hl : xs.length = ys.length)
   (he : ∀ (j : Nat) (x y : V), xs[j]? = some x → ys[j]? = some y → EqV K H 4 x y (e j)) : RcV K H (.ref a) (.ref b) ((List.range xs.length).all e)
 | lstN {a b : Addr} {xs ys : List V} (h1 : SqL K H a xs) (h2 : SqL K H b ys) (hl : xs.length ≠ ys.length) : RcV K H (.ref a) (.ref b) false
 | tup {a b : Addr} {xs ys : List V} {e : Nat → Bool} (h1 : SqT K H a xs) (h2 : SqT K H b ys) (hl : xs.length = ys.length)
   (he : ∀ (j : Nat) (x y : V), xs[j]? = some x → ys[j]? = some y → EqV K H 4 x y (e j)) : RcV K H (.ref a) (.ref b) ((List.range xs.length).all e)
theorem RcV.at (I : Inv X pins σ H s) {x y : V} {b : Bool} (h : RcV X.K H x y b) {A : Around} {u v : Value} (hu : A.units + 8 < cLine) (ru : RelV x u) (rv : RelV y v) : RcAt A s u v b ∧ RcNeAt A s u v (!b) := by
 cases h with
 | @lst a b xs ys e h1 h2 hl he =>
  cases ru; cases rv
  obtain ⟨i1, r1, p1, _⟩ := I.list h1
  obtain ⟨i2, r2, p2, _⟩ := I.list h2
  have e1 : xs.length = i1.toArray.size := by rw [r1.length]; simp
  have e2 : ys.length = i2.toArray.size := by rw [r2.length]; simp
  have el : ∀ j (k1 : j < i1.toArray.size) (k2 : j < i2.toArray.size), EqAt A.in1 s i1.toArray[j] i2.toArray[j] (e j) := fun j k1 k2 => by
   obtain ⟨x, hx, rx⟩ := vals_at r1 k1
   obtain ⟨y, hy, ry⟩ := vals_at r2 k2
   exact (he j x y hx hy).at I (by show A.units + 1 + 4 < cLine; omega) rx ry
  rw [e1]
  exact ⟨RcAt.lists p1.isList p2.isList (by omega) (by omega) el, RcNeAt.lists p1.isList p2.isList (by omega) (by omega) el⟩
 | @lstN a b xs ys h1 h2 hl =>
  cases ru; cases rv
  obtain ⟨i1, r1, p1, _⟩ := I.list h1
  obtain ⟨i2, r2, p2, _⟩ := I.list h2
  have e1 : xs.length = i1.toArray.size := by rw [r1.length]; simp
  have e2 : ys.length = i2.toArray.size := by rw [r2.length]; simp
  have q : (i1.toArray.size != i2.toArray.size) = true := bne_iff_ne.mpr (by omega)
  exact ⟨RcAt.lists_lengths p1.isList p2.isList q (by omega), RcNeAt.lists_lengths p1.isList p2.isList q (by omega)⟩
 | @tup a b xs ys e h1 h2 hl he =>
  cases ru; cases rv
  obtain ⟨i1, r1, p1, _⟩ := I.tuple h1
  obtain ⟨i2, r2, p2, _⟩ := I.tuple h2
  have e1 : xs.length = i1.toArray.size := by rw [r1.length]; simp
  have e2 : ys.length = i2.toArray.size := by rw [r2.length]; simp
  have el : ∀ j (k1 : j < i1.toArray.size) (k2 : j < i2.toArray.size), EqAt A.in1 s i1.toArray[j] i2.toArray[j] (e j) := fun j k1 k2 => by
   obtain ⟨x, hx, rx⟩ := vals_at r1 k1
   obtain ⟨y, hy, ry⟩ := vals_at r2 k2
   exact (he j x y hx hy).at I (by show A.units + 1 + 4 < cLine; omega) rx ry
  have ez : i1.toArray.size = i2.toArray.size := by omega
  have q1 := RcAt.tuples (A := A) (e := e) p1 p2 (by omega) el
  have q2 := RcNeAt.tuples (A := A) (e := e) p1 p2 (by omega) el
  rw [ez, Nat.min_self, beq_self_eq_true, Bool.and_true, ← ez, ← e1] at q1 q2
  exact ⟨q1, q2⟩
def rEqD (K : PySem.W.Frag) : R2 := fun x y H Q => ∃ b, RcV K H x y b ∧ Q (.bl b) H
def rNeD (K : PySem.W.Frag) : R2 := fun x y H Q => ∃ b, RcV K H x y b ∧ Q (.bl (!b)) H
theorem op_eqD (hu : X.A.units + 64 < cLine) : OpR X (compareOp .Eq) (rEqD X.K) := by
 intro pins s σ H x y v u Q I rx ry ⟨b, h, q⟩
 exact (h.at I (by omega) rx ry).1 _ _ _ _ ⟨.bl b, H, I, rfl, q⟩
theorem op_neD (hu : X.A.units + 64 < cLine) : OpR X (compareOp .NotEq) (rNeD X.K) := by
 intro pins s σ H x y v u Q I rx ry ⟨b, h, q⟩
 exact (h.at I (by omega) rx ry).2 _ _ _ _ ⟨.bl (!b), H, I, rfl, q⟩
end
theorem range_all_eq {α : Type} [BEq α] [LawfulBEq α] : ∀ {xs ys : List α}, xs.length = ys.length → (List.range xs.length).all (fun j => xs[j]? == ys[j]?) = (xs == ys) := by
 intro xs ys hl
 rw [Bool.eq_iff_iff, List.all_eq_true, beq_iff_eq]
 constructor
 ·intro h
  refine List.ext_getElem? fun j => ?_
  by_cases hj : j < xs.length
  ·exact eq_of_beq (h j (List.mem_range.mpr hj))
  ·rw [List.getElem?_eq_none (by omega), List.getElem?_eq_none (by omega)]
 ·intro h j _
  rw [h]; exact beq_self_eq_true _
section
variable {K : PySem.W.Frag} {H : Hp}
theorem eqv_ints_item {n : Nat} {xs ys : List Int} : ∀ (j : Nat) (x y : V), (xs.map V.int)[j]? = some x → (ys.map V.int)[j]? = some y → EqV K H n x y (xs[j]? == ys[j]?) := by
 intro j x y hx hy
 rw [List.getElem?_map] at hx hy
 cases ex : xs[j]? with
 | none => rw [ex] at hx; cases hx
 | some i =>
  cases ey : ys[j]? with
  | none => rw [ey] at hy; cases hy
  | some k =>
   rw [ex] at hx; rw [ey] at hy; cases hx; cases hy
   have e : (some i == some k) = (i == k) := by rfl
   rw [e]
   exact EqV.int i k
theorem eqv_ints {n : Nat} {a b : Addr} {xs ys : List Int} (ne : a ≠ b) (h1 : SqL K H a (xs.map V.int)) (h2 : SqL K H b (ys.map V.int)) : EqV K H (n + 1) (.ref a) (.ref b) (xs == ys) := by
 by_cases hl : xs.length = ys.length
 ·have q := EqV.lst (n := n) (e := fun j => xs[j]? == ys[j]?) ne h1 h2 (by simpa using hl) eqv_ints_item
  rw [List.length_map, range_all_eq hl] at q
  exact q
 ·have e : (xs == ys) = false := by rw [beq_eq_false_iff_ne]; intro e; exact hl (by rw [e])
  rw [e]
  exact EqV.lstN ne h1 h2 (by simpa using hl)
theorem rcv_ints {a b : Addr} {xs ys : List Int} (h1 : SqL K H a (xs.map V.int)) (h2 : SqL K H b (ys.map V.int)) : RcV K H (.ref a) (.ref b) (xs == ys) := by
 by_cases hl : xs.length = ys.length
 ·have q := RcV.lst (e := fun j => xs[j]? == ys[j]?) h1 h2 (by simpa using hl) eqv_ints_item
  rw [List.length_map, range_all_eq hl] at q
  exact q
 ·have e : (xs == ys) = false := by rw [beq_eq_false_iff_ne]; intro e; exact hl (by rw [e])
  rw [e]
  exact RcV.lstN h1 h2 (by simpa using hl)
theorem rcv_nil {a b : Addr} {xs : List V} (h1 : SqL K H a xs) (h2 : SqL K H b []) : RcV K H (.ref a) (.ref b) xs.isEmpty := by
 cases xs with
 | nil => exact RcV.lst (e := fun _ => true) h1 h2 rfl (fun j x y hx => nomatch hx)
 | cons x r => exact RcV.lstN h1 h2 (by simp)
end
section
variable {X : Cx}
def rIsi (K : PySem.W.Frag) (T : String) : List V → Hp → VK → Prop := fun vs H Q => ∃ x t b, vs = [x, .ty T] ∧ TyOf K H x t ∧ PySem.W.kitOne K t (.type T) = some b ∧ Q (.bl b) H
theorem call_isi (T : String) : CallR X (.builtin "isinstance") (rIsi X.K T) := by
 intro pins s σ H xs us Q I r h
 obtain ⟨x, t, b, rfl, ty, e, q⟩ := h
 obtain ⟨u, v, rfl, ru, rv⟩ := r.two
 cases rv
 exact isinst_ok I ru ty e fun tk => ⟨.bl b, H, I.tok tk, rfl, q⟩
theorem rng_list {pins : List (Addr × Obj)} {σ : St} {H : Hp} {s : Shared} {Q : VK} {E : Value → Shared → Prop} {lo hi : Int} {t u v : Tok} {tk : Nat} (hcalm : X.calm = true) (I : Inv X pins σ H s) (h1 : -(2 ^ 20) ≤ lo) (h2 : lo < 2 ^ 20) (h3 : -(2 ^ 20) ≤ hi) (h4 : hi < 2 ^ 20)
  (q : ∀ p, H p = none → Q (.ref p) (upd H p (.lst ((List.range (hi - lo).toNat).map fun i : Nat => V.int (lo + i))))) :
  wpAny (model X.prog X.w) X.A (call (.type "list") [.ref s.heap.objs.size]) (EP X pins σ Q) E { s with heap := s.heap.push { cls := .type "range", data := .fields #[.int lo t, .int hi u, .int 1 v] }, toks := tk } := by
 have I1 : Inv X pins σ H { s with heap := s.heap.push { cls := .type "range", data := .fields #[.int lo t, .int hi u, .int 1 v] }, toks := tk } := I.kept fun b o e => Heap.get?_push_of_some _ e
 refine call_list_range (n := (hi - lo).toNat) (I.ok.hd hcalm) (IsRange.new ..) (small_one (by omega) (by omega) (by omega) (by omega)) (by rw [rangeSize_one]; split <;> omega) (by omega) fun h' tk' acc' c' hk hS hacc => ?_
 refine ⟨.ref _, _, I1.laid (t' := tk') hk (Nat.le_refl _) (show ObjOk X.prog X.w _ h' _ (.lst ((List.range (hi - lo).toNat).map fun i : Nat => V.int (lo + i))) from ⟨?_, acc'.toList, c', ?_, by simpa using hS⟩), rfl, q _ (I1.hok.fresh (Nat.le_refl _))⟩
 ·rw [List.length_map, List.length_range]
  exact Nat.le_trans (show (hi - lo).toNat ≤ 2 ^ 22 by omega) (by decide)
 ·have key : ∀ (n : Nat) (us : List Value) (f : Nat → Int), us.length = n → (∀ (j : Nat) (u : Value), us[j]? = some u → ∃ t, u = Value.int (f j) t) → Vals ((List.range n).map fun i : Nat => V.int (f i)) us := by
   intro n
   induction n with
   | zero => intro us f hl _; have : us = [] := List.eq_nil_of_length_eq_zero hl; subst this; exact .nil
   | succ n ih =>
    intro us f hl hu
    cases us with
    | nil => cases hl
    | cons u0 r =>
     rw [List.range_succ_eq_map, List.map_cons, List.map_map]
     refine .cons (hu 0 u0 rfl) ?_
     exact ih r (fun i => f (i + 1)) (by simpa using hl) fun j w hw => hu (j + 1) w (by simpa using hw)
  refine key _ _ (fun i => lo + i) (by rw [Array.length_toList]; exact hacc.1) fun j w hw => ?_
  obtain ⟨t, e⟩ := hacc.2 j w (by rw [← Array.getElem?_toList]; exact hw)
  exact ⟨t, by rw [e, Int.mul_one]⟩
def tLRng (ta : TA) (lo : List V → Option (Int × Int)) : TE := fun σ H Q => ta σ H fun vs H1 => ∃ i j, lo vs = some (i, j) ∧ (-(2 ^ 20) ≤ i ∧ i < 2 ^ 20 ∧ -(2 ^ 20) ≤ j ∧ j < 2 ^ 20) ∧ ∀ p, H1 p = none → Q (.ref p) (upd H1 p (.lst ((List.range (j - i).toNat).map fun k : Nat => V.int (i + k))))
def rg1 : List V → Option (Int × Int)
 | [.int j] => some (0, j)
 | _ => none
def rg2 : List V → Option (Int × Int)
 | [.int i, .int j] => some (i, j)
 | _ => none
theorem pe_list_range1 {a : Expr} {ta : TA} {p pos p' pos' : Pos} (hcalm : X.calm = true) (hg : Gl X "range") (hm : X.mg "range" = none) (hg' : Gl X "list") (hm' : X.mg "list" = none) (ha : PA X [a] ta) (hs : starEach [a] X.env = [(false, eval a X.env)] := by rfl)
  (hs' : starEach [.Call (.Name "range" p) [a] [] pos] X.env = [(false, eval (.Call (.Name "range" p) [a] [] pos) X.env)] := by rfl) :
  PE X (.Call (.Name "list" p') [.Call (.Name "range" p) [a] [] pos] [] pos') (tLRng ta rg1) := by
 intro pins s σ H Q I h
 refine Call_ (ld_blt I hg' hm' boot_list (PyProof.Rows.callWith_type1 ?_ hs' rfl))
 rw [hs']
 show wpAny _ _ (spliced ((false, eval (.Call (.Name "range" p) [a] [] pos) X.env) :: [])) _ _ s
 refine Calls.spliced_cons (Call_ (ld_blt I hg hm boot_range (PyProof.Rows.callWith_type1 (thn (ha pos pins s σ H _ I h) fun us s1 ⟨vs, H1, I1, r1, q1⟩ => ?_) hs rfl)))
 obtain ⟨i, j, e, ⟨q1, q2, q3, q4⟩, q⟩ := q1
 cases r1 with
 | nil => cases e
 | @cons x u xs us r rr =>
  cases rr with
  | cons _ _ => cases x <;> cases e
  | nil =>
   cases x with
   | int k =>
    cases e
    obtain ⟨t, rfl⟩ := r
    exact call_range_1 (Calls.spliced_nil (rng_list hcalm I1 q1 q2 q3 q4 q))
   | _ => cases e
theorem pe_list_range2 {a b : Expr} {ta : TA} {p pos p' pos' : Pos} (hcalm : X.calm = true) (hg : Gl X "range") (hm : X.mg "range" = none) (hg' : Gl X "list") (hm' : X.mg "list" = none) (ha : PA X [a, b] ta)
  (hs : starEach [a, b] X.env = [(false, eval a X.env), (false, eval b X.env)] := by rfl) (hs2 : starEach [b] X.env = [(false, eval b X.env)] := by rfl)
  (hs' : starEach [.Call (.Name "range" p) [a, b] [] pos] X.env = [(false, eval (.Call (.Name "range" p) [a, b] [] pos) X.env)] := by rfl) :
  PE X (.Call (.Name "list" p') [.Call (.Name "range" p) [a, b] [] pos] [] pos') (tLRng ta rg2) := by
 intro pins s σ H Q I h
 refine Call_ (ld_blt I hg' hm' boot_list (PyProof.Rows.callWith_type1 ?_ hs' rfl))
 rw [hs']
 show wpAny _ _ (spliced ((false, eval (.Call (.Name "range" p) [a, b] [] pos) X.env) :: [])) _ _ s
 refine Calls.spliced_cons (Call_ (ld_blt I hg hm boot_range (PyProof.Rows.callWith_type1 (thn (ha pos pins s σ H _ I h) fun us s1 ⟨vs, H1, I1, r1, q1⟩ => ?_) (by rw [hs, hs2]) (by rw [hs2]; rfl))))
 obtain ⟨i, j, e, ⟨q1, q2, q3, q4⟩, q⟩ := q1
 cases r1 with
 | nil => cases e
 | @cons x u xs us r rr =>
  cases rr with
  | nil => cases x <;> cases e
  | @cons y u' ys us' r' rr' =>
   cases rr' with
   | cons _ _ => cases x <;> cases y <;> cases e
   | nil =>
    cases x with
    | int k =>
     cases y with
     | int k' =>
      cases e
      obtain ⟨t, rfl⟩ := r
      obtain ⟨t', rfl⟩ := r'
      exact call_range_2 (Calls.spliced_nil (rng_list hcalm I1 q1 q2 q3 q4 q))
     | _ => cases e
    | _ => cases e
theorem vals_intsAre : ∀ {ns : List Int} {us : List Value}, Vals (ns.map V.int) us → IntsAre us ns
 | [], _, .nil => .nil
 | n :: r, _, .cons h t => by obtain ⟨k, rfl⟩ := h; exact .cons n k (vals_intsAre t)
theorem intsAre_vals : ∀ {us : List Value} {ns : List Int}, IntsAre us ns → Vals (ns.map V.int) us
 | _, _, .nil => .nil
 | _, _, .cons n t h => .cons ⟨t, rfl⟩ (intsAre_vals h)
def rSorted (K : PySem.W.Frag) : List V → Hp → VK → Prop := fun vs H Q => ∃ (p : Addr) (ns : List Int), vs = [.ref p] ∧ SqL K H p (ns.map V.int) ∧ ns.length < 64 ∧ ∀ (l : Addr) (ns' : List Int), H l = none → ns'.Perm ns → ns'.Pairwise (· ≤ ·) → Q (.ref l) (upd H l (.lst (ns'.map V.int)))
theorem call_sorted : CallR X (.builtin "sorted") (rSorted X.K) := by
 intro pins s σ H xs us Q I r h
 obtain ⟨p, ns, rfl, hq, h64, q⟩ := h
 obtain ⟨u, rfl, ru⟩ := r.one
 cases ru
 obtain ⟨its, rv, pl, hz⟩ := I.list hq
 have hl := rv.length
 rw [List.length_map] at hl
 refine sorted_ints (vs := its) pl.isList (vals_intsAre rv) (by omega) fun out ns' a1 a2 a3 => ?_
 obtain ⟨e, he⟩ := sortedAll_at s.heap its out
 have hlen : ns'.length = ns.length := a2.length_eq
 refine ⟨.ref _, _, I.laid (t' := s.toks) (fun _ _ => sortedAll_old) (Nat.le_succ _) (show ObjOk X.prog X.w _ _ _ (.lst (ns'.map V.int)) from ⟨?_, out.toList, e, intsAre_vals a1, by simpa using he⟩), rfl, q _ ns' (I.hok.fresh (Nat.le_succ _)) a2 a3⟩
 rw [List.length_map, hlen]
 exact Nat.le_trans (Nat.le_of_lt h64) (by decide)
end
section
variable {X : Cx} {pins : List (Addr × Obj)} {σ : St} {H : Hp} {s : Shared} {d : Addr} {kvs : List (Key × V)}
end
theorem keyIs_rel {k : Key} {u : Value} (h : keyIs k u = true) : RelV (kV k) u := by
 rcases keyIs_shape h with ⟨i, t, rfl, rfl⟩ | ⟨x, t, rfl, rfl⟩
 ·exact ⟨t, rfl⟩
 ·exact ⟨t, rfl⟩
theorem KV.len {κ : Type} {kvs : List (κ × V)} {vs : List (κ × Value)} (r : KV kvs vs) : kvs.length = vs.length := Paired.length r
section
variable {X : Cx} {tg : Expr}
theorem call_sorted_dict (hcalm : X.calm = true) : CallR X (.builtin "sorted") (fun vs H Q => ∃ (d : Addr) (kvs : List (Key × V)) (ns : List Int), vs = [.ref d] ∧ H d = some (.dK kvs) ∧ kvs.map (·.1) = ns.map Sum.inl ∧ ns.length < 64 ∧ ∀ (l : Addr) (ns' : List Int), H l = none → ns'.Perm ns → ns'.Pairwise (· ≤ ·) → Q (.ref l) (upd H l (.lst (ns'.map V.int)))) := by
 intro pins s σ H xs us Q I r h
 obtain ⟨d, kvs, ns, rfl, hq, hk, h64, q⟩ := h
 obtain ⟨u, rfl, ru⟩ := r.one
 cases ru
 obtain ⟨z, y, vs, rr, ob, es, ep, e, c1, c2, c3⟩ := I.hok d _ hq
 have hlen : kvs.length = ns.length := by have := congrArg List.length hk; simpa using this
 have hn : vs.length ≤ sizeLine := by rw [← rr.len]; exact z
 refine Calls.call_function_entry kind_sorted plain_sorted entry_sorted (args_sorted1 _) ?_
 unfold Builtin.«sorted»
 refine wpAny_bind (m := checkCount "sorted" 1 1 _) (wpAny_pure ?_)
 refine wpAny_bind (PySem.W.kdu_collect (PySem.W.kdl_dict (prog := X.prog) (w := X.w) (knd := mixKind X.prog X.w) (d := d) (kvs := vs) (ep := ep) y) (I.ok.hd hcalm) ⟨ob, es, e, c1, c2, c3⟩ hn fun h' tk acc hkp hacc => ?_)
 have I1 : Inv X pins σ H { s with heap := h', toks := tk } := I.kept hkp
 have hl : acc.toList.length = vs.length := by rw [Array.length_toList]; exact hacc.1
 have hv : Vals (ns.map V.int) acc.toList := by
  have key : ∀ (ns : List Int) (kvs : List (Key × V)) (vs : List (Key × Value)) (us : List Value), KV kvs vs → kvs.map (·.1) = ns.map Sum.inl → us.length = vs.length → (∀ (j : Nat) (u : Value), us[j]? = some u → ∃ k x, vs[j]? = some (k, x) ∧ keyIs k u = true) → Vals (ns.map V.int) us := by
   intro ns
   induction ns with
   | nil =>
    intro kvs vs us r e hl _
    have : kvs = [] := by simpa using e
    subst this
    cases r
    have : us = [] := List.eq_nil_of_length_eq_zero hl
    subst this
    exact .nil
   | cons n ns ih =>
    intro kvs vs us r e hl hu
    cases r with
    | nil => cases e
    | @cons a b l1 l2 r0 rr =>
     rw [List.map_cons, List.map_cons] at e
     injection e with e1 e2
     cases us with
     | nil => cases hl
     | cons u ur =>
      obtain ⟨k, x, hx, hki⟩ := hu 0 u rfl
      have hb : b = (k, x) := by simpa using hx
      have ek : k = Sum.inl n := by
       have : a.1 = k := by rw [r0.1, hb]
       rw [← this]; exact e1
      rw [ek] at hki
      refine .cons (keyIs_rel (k := Sum.inl n) hki) (ih l1 l2 ur rr e2 (by simpa using hl) fun j w hw => ?_)
      obtain ⟨k', x', h1, h2⟩ := hu (j + 1) w (by simpa using hw)
      exact ⟨k', x', by simpa using h1, h2⟩
  exact key ns kvs vs acc.toList rr hk hl fun j u hu => hacc.2 j u (by rw [← Array.getElem?_toList]; exact hu)
 refine wpAny_bind (wpAny_newList ?_ (by rw [hl]; exact hn))
 have hoL : (h'.push (seqObj "list" acc.toList.toArray 0)).get? h'.objs.size = some (seqObj "list" acc.toList.toArray 0) := Heap.get?_push_size _ rfl
 have hal : acc.toList.length < 64 := by rw [hl, ← rr.len, hlen]; exact h64
 refine wpAny_bind (wpAny_holding (wpAny_call_entry slot_list_sort ⟨_, hoL, rfl⟩ entry_list_sort (list_sort_tree hoL (vals_intsAre hv) hal fun out ns' a1 a2 a3 => ⟨_, rfl, ?_⟩) (args_list_sort _)))
 obtain ⟨ee, he⟩ := sortedHeap_at (out := out) hoL
 have hsz : (h'.push (seqObj "list" acc.toList.toArray 0)).objs.size = h'.objs.size + 1 := Heap.size_push ..
 refine wpAny_pure ⟨_, rfl, .ref h'.objs.size, _, I1.laid (t' := tk) (fun b o eb => ?_) (Nat.le_refl _) (show ObjOk X.prog X.w _ _ _ (.lst (ns'.map V.int)) from ⟨?_, out.toList, ee, intsAre_vals a1, by simpa using he⟩), rfl, q _ ns' (I1.hok.fresh (Nat.le_refl _)) a2 a3⟩
 ·have hb : b < h'.objs.size := Heap.lt_size eb
  exact (sortedHeap_old (Nat.ne_of_lt hb) (by rw [hsz]; exact Nat.lt_succ_of_lt hb)).trans (Heap.get?_push_of_some _ eb)
 ·rw [List.length_map, a2.length_eq]
  exact Nat.le_trans (Nat.le_of_lt h64) (by decide)
theorem call_allB (hcalm : X.calm = true) : CallR X (.builtin "all") (fun vs H Q => ∃ (p : Addr) (bs : List Bool), vs = [.ref p] ∧ SqL X.K H p (bs.map V.bl) ∧ Q (.bl (bs.all id)) H) := by
 intro pins s σ H xs us Q I r h
 obtain ⟨p, bs, rfl, hq, q⟩ := h
 obtain ⟨u, rfl, ru⟩ := r.one
 cases ru
 obtain ⟨its, rv, pl, hz⟩ := I.list hq
 have hlt : p < s.heap.objs.size := by obtain ⟨o, e, _⟩ := pl.isList; exact Heap.lt_size e
 refine call_all_walk (wpAny_pyIter_list pl.isList ?_)
 have hl := rv.length
 rw [List.length_map] at hl
 refine ⟨s.heap.objs.size, _, _, its.toArray.size, _, _, fun i => bs.getD i false, rfl, Walks.list (A := X.A.in1) (I.ok.hd hcalm) s.heap.objs.size p (Nat.ne_of_lt hlt) its.toArray, ⟨⟨_, Heap.get?_push_size _ rfl, rfl, rfl⟩, pl.isList.at fun o e => Heap.get?_push_of_some _ e⟩, ?_, fun h' tk hk => ?_⟩
 ·intro i v s' Q' E' hP hQ
  have hv : its[i]? = some v := by simpa using hP
  have hi : i < bs.length := by rw [hl]; exact (List.getElem?_eq_some_iff.mp hv).1
  obtain ⟨u, hu, ru⟩ := rv.get (i := i) (x := V.bl bs[i]) (by rw [List.getElem?_map, List.getElem?_eq_getElem hi]; rfl)
  rw [hv] at hu
  cases hu
  have eb : v = Value.bool bs[i] := ru
  subst eb
  have eg : bs.getD i false = bs[i] := by simp [List.getD, hi]
  refine wpAny_truthy_bool ?_
  rw [← eg]; exact hQ
 ·have I1 : Inv X pins σ H { s with heap := h', toks := tk } := I.kept fun b o e => hk b o (by simp; exact Nat.ne_of_lt (Heap.lt_size e)) (Heap.get?_push_of_some _ e)
  have e : (List.range its.toArray.size).all (fun i => bs.getD i false) = bs.all id := by
   have e1 : its.toArray.size = bs.length := by simpa using hl.symm
   rw [e1, Bool.eq_iff_iff, List.all_eq_true, List.all_eq_true]
   constructor
   ·intro h x hx
    obtain ⟨i, hi, rfl⟩ := List.mem_iff_getElem.mp hx
    have := h i (List.mem_range.mpr hi)
    simpa [List.getD, hi] using this
   ·intro h i hi
    have hi' := List.mem_range.mp hi
    have := h bs[i] (List.getElem_mem hi')
    simpa [List.getD, hi'] using this
  rw [e]
  exact ⟨.bl _, H, I1, rfl, q⟩
end
end L2
namespace L2
open PySem PySem.Spec PyProof.Rows
def blkOk (osc : Scope) (N xs : List Str) (sc : Scope) : Bool :=
 (sc.kind == .function) && sc.names.all (fun y => y.2 != .cell) && sc.names.all (fun y => y.2 != .local || (sc.names.lookup y.1 == some .local)) && sc.names.all (fun y => y.2 != .local || (xs.contains y.1 || y.1 == (".0" : Str))) &&
  sc.names.all (fun y => y.2 != .free || (osc.names.lookup y.1 == some .cell || osc.names.lookup y.1 == some .free)) && N.all (fun y => (sc.names.lookup (y ++ ("#" : Str))).isNone) && !N.contains (".0" : Str)
theorem blk_ok {X : Cx} {xs : List Str} {sc : Scope} (osc : Scope) (N : List Str) (hs : X.env.scope = osc) (hN : X.N = N) (h : blkOk osc N xs sc = true) : BlkScope X xs sc := by
 unfold blkOk at h
 simp only [Bool.and_eq_true, List.all_eq_true, Bool.or_eq_true, Bool.not_eq_true', bne_iff_ne, beq_iff_eq, List.contains_iff_mem] at h
 obtain ⟨⟨⟨⟨⟨⟨h1, h2⟩, h3⟩, h4⟩, h5⟩, h6⟩, h7⟩ := h
 refine ⟨h1, h2, fun y hy e => ?_, fun y hy e => ?_, fun y hy e => ?_, fun y hy => ?_, ?_⟩
 ·exact (h3 y hy).resolve_left fun z => z e
 ·exact (h4 y hy).resolve_left fun z => z e
 ·have z := (h5 y hy).resolve_left fun z => z e
  rw [← hs] at z
  exact z
 ·rw [hN] at hy
  exact Option.isNone_iff_eq_none.mp (h6 y hy)
 ·rw [hN]
  intro z
  rw [List.contains_iff_mem.mpr z] at h7
  cases h7
def Gives (t : TE) (σ : St) (H : Hp) (v : V) : Prop := ∀ P : VK, (∀ H2, Same H H2 → P v H2) → t σ H P
def Tells (t : TT) (σ : St) (H : Hp) (b : Bool) : Prop := ∀ P : Bool → Hp → Prop, (∀ H2, Same H H2 → P b H2) → t σ H P
theorem Same.rfl' {H : Hp} : Same H H := fun _ _ h => h
theorem Same.new {H : Hp} {p : Addr} (h : H p = none) (o : HO) : Same H (upd H p o) := fun b u q => by rw [upd_ne (ne_of_none q h)]; exact q
theorem tells_true {σ : St} {H : Hp} : Tells tTrue σ H true := fun _ h => h H Same.rfl'
theorem turns_gen {J : It} {n : Nat} {tc : TT} {te : TE} {D : Addr} {Q : Hp → Prop} {σ : St} {H1 : Hp} (item : Nat → V) (c : Nat → Bool) (v : Nat → V) (hD : H1 D = none) (hn : n ≤ 1000)
  (hgo : ∀ i H', Same H1 H' → i < n → J.go i H') (hyl : ∀ i H' x H2, Same H1 H' → i < n → J.yld i H' x H2 → H2 = H' ∧ x = item i) (hst : ∀ H', Same H1 H' → J.stop n H')
  (ht : ∀ i H', i < n → Same H1 H' → Tells tc (some (item i) :: σ) H' (c i)) (he : ∀ i H', i < n → c i = true → Same H1 H' → Gives te (some (item i) :: σ) H' (v i))
  (hq : ∀ H', Same H1 H' → H' D = some (.lst (((List.range n).filter c).map v)) → Q H') : tTurns J (gName 0) tc te D Q (none :: σ) (upd H1 D (.lst [])) := by
 refine ⟨fun i m σ' H' => ∃ x, σ' = x :: σ ∧ m = n - i ∧ i ≤ n ∧ Same H1 H' ∧ H' D = some (.lst (((List.range i).filter c).map v)), ⟨n, none, rfl, rfl, Nat.zero_le _, Same.new hD _, upd_same⟩, ?_⟩
 rintro i m σ' H' ⟨x, rfl, rfl, hi, g, hl⟩
 by_cases hlt : i < n
 ·refine .inr ⟨hgo i H' g hlt, fun σ2 H2 => ∃ x, σ2 = x :: σ ∧ Same H1 H2 ∧ H2 D = some (.lst (((List.range (i + 1)).filter c).map v)), ?_, fun x' H2 y => ?_⟩
  ·rintro σ2 H2 ⟨x, rfl, g2, l2⟩
   exact ⟨n - (i + 1), by omega, x, rfl, rfl, hlt, g2, l2⟩
  ·obtain ⟨rfl, rfl⟩ := hyl i H' x' H2 g hlt y
   show tc (some (item i) :: σ) H2 _
   refine ht i H2 hlt g _ fun H3 g3 => ?_
   have hr : (List.range (i + 1)).filter c = (List.range i).filter c ++ (if c i = true then [i] else []) := by
    rw [List.range_succ, List.filter_append, List.filter_cons, List.filter_nil]
   refine ite2 (fun hc => ?_) (fun hc => ?_)
   ·refine he i H3 hlt hc (g.trans g3) _ fun H4 g4 => ?_
    have l4 := g4 _ _ (g3 _ _ hl)
    refine ⟨_, l4, ?_, some (item i), rfl, fun b o hb => ?_, ?_⟩
    ·rw [List.length_map]
     have := List.length_filter_le c (List.range i)
     rw [List.length_range] at this
     exact small1000 (by omega)
    ·have hne : b ≠ D := fun e => by rw [e, hD] at hb; cases hb
     rw [upd_ne hne]
     exact g4 _ _ (g3 _ _ (g _ _ hb))
    ·rw [upd_same, hr, if_pos hc, List.map_append]
     rfl
   ·refine ⟨some (item i), rfl, g.trans g3, ?_⟩
    rw [hr, if_neg hc, List.append_nil]
    exact g3 _ _ hl
 ·have e : i = n := by omega
  subst e
  exact .inl ⟨hst H' g, hq H' g hl⟩
theorem turns_range {lo : Int} {n : Nat} {tc : TT} {te : TE} {D : Addr} {Q : Hp → Prop} {σ : St} {H1 : Hp} (c : Nat → Bool) (v : Nat → V) (hD : H1 D = none) (hn : n ≤ 1000)
  (ht : ∀ i H', i < n → Same H1 H' → Tells tc (some (.int (lo + i)) :: σ) H' (c i)) (he : ∀ i H', i < n → c i = true → Same H1 H' → Gives te (some (.int (lo + i)) :: σ) H' (v i))
  (hq : ∀ H', Same H1 H' → H' D = some (.lst (((List.range n).filter c).map v)) → Q H') : tTurns (Itr lo n) (gName 0) tc te D Q (none :: σ) (upd H1 D (.lst [])) :=
 turns_gen (fun i => .int (lo + i)) c v hD hn (fun i _ _ h => h) (fun i H' x H2 _ _ y => y) (fun _ _ => Nat.le_refl _) ht he hq
theorem range_getD_filter {α : Type} (c : α → Bool) (d : α) : ∀ (xs : List α), ((List.range xs.length).filter fun i => c (xs.getD i d)).map (fun i => xs.getD i d) = xs.filter c
 | [] => rfl
 | x :: xs => by
  have ih := range_getD_filter c d xs
  rw [List.length_cons, List.range_succ_eq_map, List.filter_cons]
  have e1 : (x :: xs).getD 0 d = x := rfl
  rw [e1]
  have e2 : (List.map Nat.succ (List.range xs.length)).filter (fun i => c ((x :: xs).getD i d)) = (((List.range xs.length).filter fun i => c (xs.getD i d)).map Nat.succ) := by
   rw [List.filter_map]
   rfl
  by_cases hc : c x = true
  ·rw [if_pos hc, List.filter_cons, if_pos hc, List.map_cons, e2, List.map_map, ← ih]
   rfl
  ·rw [if_neg hc, List.filter_cons, if_neg hc, e2, List.map_map, ← ih]
   rfl
theorem turns_list {K : PySem.W.Frag} {a : Addr} {xs : List V} {tc : TT} {te : TE} {D : Addr} {Q : Hp → Prop} {σ : St} {H1 : Hp} (c : Nat → Bool) (v : Nat → V) (hS : SqL K H1 a xs) (hD : H1 D = none) (hn : xs.length ≤ 1000)
  (ht : ∀ i H', i < xs.length → Same H1 H' → Tells tc (some (xs.getD i .non) :: σ) H' (c i)) (he : ∀ i H', i < xs.length → c i = true → Same H1 H' → Gives te (some (xs.getD i .non) :: σ) H' (v i))
  (hq : ∀ H', Same H1 H' → H' D = some (.lst (((List.range xs.length).filter c).map v)) → Q H') : tTurns (Itl K a) (gName 0) tc te D Q (none :: σ) (upd H1 D (.lst [])) := by
 refine turns_gen (fun i => xs.getD i .non) c v hD hn (fun i H' g h => ⟨xs, xs[i], g.seq hS, List.getElem?_eq_getElem h⟩) (fun i H' x H2 g h y => ⟨y.1, ?_⟩) (fun H' g => ⟨xs, g.seq hS, Nat.le_refl _⟩) ht he hq
 have := y.2 xs (g.seq hS)
 rw [List.getElem?_eq_getElem h] at this
 rw [List.getD_eq_getElem?_getD, List.getElem?_eq_getElem h]
 exact (Option.some.inj this).symm
theorem while_by2 {c : TT} {tb : TS} {D : Ends} {σ : St} {H : Hp} (Pv : St → Hp → Prop) (μ : St → Hp → Nat) (h0 : Pv σ H)
  (hs : ∀ σ H, Pv σ H → c σ H fun b H1 => if b = true then ∃ N : St → Hp → Prop, (∀ σ' H', N σ' H' → ∃ m', m' < μ σ H ∧ m' = μ σ' H' ∧ Pv σ' H') ∧ tb { D with nx := N, ct := N, bk := D.nx } σ H1 else D.nx σ H1) : tWhile c tb D σ H := by
 refine ⟨fun m σ H => m = μ σ H ∧ Pv σ H, ⟨_, rfl, h0⟩, ?_⟩
 rintro m σ H ⟨rfl, p⟩
 exact hs σ H p
theorem next_by {tb : TS} {D : Ends} {σ : St} {H H1 : Hp} {Pv : St → Hp → Prop} {μ : St → Hp → Nat} (h : tb { D with nx := fun σ' H' => Pv σ' H' ∧ μ σ' H' < μ σ H, ct := fun σ' H' => Pv σ' H' ∧ μ σ' H' < μ σ H, bk := D.nx } σ H1) :
  ∃ N : St → Hp → Prop, (∀ σ' H', N σ' H' → ∃ m', m' < μ σ H ∧ m' = μ σ' H' ∧ Pv σ' H') ∧ tb { D with nx := N, ct := N, bk := D.nx } σ H1 := ⟨_, fun _ _ h => ⟨_, h.2, rfl, h.1⟩, h⟩
end L2
namespace L2
open PySem PySem.Spec PyProof.Rows
structure KDict (K : PySem.W.Frag) (w : World) (d : Addr) (kvs : List (Str × Tok × Value)) : Prop where
 lo : (d == sysModules) = false
 nd : (kvs.map (·.1)).Nodup
 at' : ∃ n, K.lookup d = some { cls := .type "dict", data := .dict (kvs.map fun e => ({ hash := PyData.keyHash w.params e.1, key := .str e.1 e.2.1, val := e.2.2 } : DictEntry)).toArray n }
section
variable {X : Cx} {d : Addr} {kvs : List (Str × Tok × Value)} {o i : Expr} {td ty : TE} {pos : Pos}
end
theorem getD_map_int (xs : List Int) {i : Nat} (h : i < xs.length) : (xs.map V.int).getD i .non = .int (xs.getD i 0) := by
 rw [List.getD_eq_getElem?_getD, List.getElem?_map, List.getElem?_eq_getElem h, List.getD_eq_getElem?_getD, List.getElem?_eq_getElem h]
 rfl
end L2
namespace L2
open PySem PySem.Spec PyProof.Rows
section
variable {X : Cx} (K : PySem.W.Frag)
theorem ix_listK (h : X.K = K := by rfl) : IxR X (rIxL K) := h ▸ ix_list
theorem ix_tupK (h : X.K = K := by rfl) : IxR X (rIxT K) := h ▸ ix_tup
theorem call_len_seqK (h : X.K = K := by rfl) : CallR X (.builtin "len") (fun xs H Q => ∃ p ys, xs = [.ref p] ∧ (SqL K H p ys ∨ SqT K H p ys) ∧ Q (.int ys.length) H) := h ▸ call_len_seq
end
end L2
namespace L2
open PySem PySem.Spec PyProof.Rows
section
variable {X : Cx}
theorem pe_bmK (K : PySem.W.Frag) {o e : Expr} {es : List Expr} {to : TE} {t : TA} {name : Str} {apos cpos : Pos} {T id : String} {r : V → List V → Hp → VK → Prop} (pa : PlainAttrs T) (slot : Slot T name id) (hty : typeOf (.builtin id) = pure (.type "method_descriptor")) (hm : MtR X id r) (ho : PE X o to) (ha : PA X (e :: es) t)
  (h : X.K = K := by rfl) (hbase : attributeBase o name X.env (eval o X.env) = eval o X.env := by rfl)
  (hfew : ((backTo cpos (starEach (e :: es) X.env)).all (fun x => !x.1) && (backToKw cpos (keywordEach [] X.env)).all (fun x => x.1.isSome)
   && decide ((e :: es).length + ([] : List Keyword).length + (if ([] : List Keyword).isEmpty then 0 else 1) < 30)) = true := by rfl)
  (hline : (apos.endLine == cpos.line) = true := by rfl) (hs : starEach (e :: es) X.env = (false, eval e X.env) :: starEach es X.env := by rfl) (hplain : (backTo cpos (starEach es X.env)).any (·.1) = false := by rfl) :
  PE X (.Call (.Attribute o name apos) (e :: es) [] cpos) (tBM K T r to t) := by
 subst h
 exact pe_bm pa slot hty hm ho ha hbase hfew hline hs hplain
end
def Ex (S : Addr → Prop) (H H' : Hp) : Prop := ∀ b o, ¬ S b → H b = some o → H' b = some o
theorem Ex.refl {S : Addr → Prop} {H : Hp} : Ex S H H := fun _ _ _ h => h
theorem Ex.trans {S : Addr → Prop} {H H1 H2 : Hp} (a : Ex S H H1) (b : Ex S H1 H2) : Ex S H H2 := fun c o n h => b c o n (a c o n h)
theorem Ex.same {S : Addr → Prop} {H H1 : Hp} (a : Same H H1) : Ex S H H1 := fun c o _ h => a c o h
theorem Ex.put {S : Addr → Prop} {H : Hp} {p : Addr} (o : HO) (hp : S p) : Ex S H (upd H p o) := fun c o' n h => by
 have : c ≠ p := fun e => n (e ▸ hp)
 rw [upd_ne this]; exact h
theorem Ex.new {S : Addr → Prop} {H : Hp} {p : Addr} (o : HO) (hp : H p = none) : Ex S H (upd H p o) := Ex.same (Same.new hp o)
theorem Ex.wide {S S' : Addr → Prop} {H H1 : Hp} (a : Ex S H H1) (h : ∀ b, S b → S' b) : Ex S' H H1 := fun c o n e => a c o (fun z => n (h c z)) e
theorem pick_int (xs : List Int) {r : Int} (h0 : 0 ≤ r) (h1 : r < (xs.length : Nat)) : ∃ v, atI (xs.map V.int) r = some (.int v) ∧ v ∈ xs := by
 have hj : r.toNat < xs.length := by omega
 have e : r = ((r.toNat : Nat) : Int) := by omega
 refine ⟨xs[r.toNat], ?_, List.getElem_mem hj⟩
 have q : atI (xs.map V.int) ((r.toNat : Nat) : Int) = some (.int xs[r.toNat]) := atI_nat (by rw [List.getElem?_map, List.getElem?_eq_getElem hj] <;> rfl)
 rw [← e] at q
 exact q
theorem putK_keys {kvs : List (Key × V)} {ks : List Int} {x : Int} {v : V} (h : kvs.map (·.1) = ks.map Sum.inl) : (putK kvs (Sum.inl x) v).map (·.1) = (if x ∈ ks then ks else ks ++ [x]).map Sum.inl := by
 unfold putK
 have key : (kvs.any fun kv => decide (kv.1 = Sum.inl x)) = decide (x ∈ ks) := by
  have e1 : (kvs.any fun kv => decide (kv.1 = Sum.inl x)) = (kvs.map (·.1)).any fun k => decide (k = Sum.inl x) := by rw [List.any_map]; rfl
  rw [e1, h, List.any_map, Bool.eq_iff_iff, List.any_eq_true, decide_eq_true_iff]
  constructor
  ·rintro ⟨y, hy, e⟩
   have e' : (Sum.inl y : Key) = Sum.inl x := of_decide_eq_true e
   cases e'
   exact hy
  ·intro hx
   exact ⟨x, hx, decide_eq_true rfl⟩
 rw [key]
 by_cases hx : x ∈ ks
 ·rw [decide_eq_true hx, if_pos rfl, if_pos hx, ← h, List.map_map]
  refine List.map_congr_left fun kv _ => ?_
  show (if kv.1 = Sum.inl x then (kv.1, v) else kv).1 = kv.1
  split <;> rfl
 ·rw [decide_eq_false hx, if_neg Bool.false_ne_true, if_neg hx, List.map_append, List.map_append, h]
  rfl
inductive CInts : List Expr → List Int → Prop where
 | nil : CInts [] []
 | cons {n : Int} {j : Nat} {p : Pos} {es : List Expr} {ns : List Int} : CInts es ns → CInts (.Constant (.int n) j p :: es) (n :: ns)
inductive CLists : List Expr → List (List Int) → Prop where
 | nil : CLists [] []
 | cons {fs es : List Expr} {ns : List Int} {nss : List (List Int)} {p : Pos} : CInts fs ns → CLists es nss → CLists (.List fs p :: es) (ns :: nss)
section
variable {X : Cx}
end
end L2
namespace L2
open PySem PySem.Spec PyProof.Rows
theorem inV_int (x : Int) : ∀ xs : List Int, inV (.int x) (xs.map V.int) = xs.contains x
 | [] => rfl
 | y :: r => by
  have ih := inV_int x r
  unfold inV at ih ⊢
  rw [List.map_cons, List.any_cons, ih, List.contains_cons]
  have e : eqV (.int y) (.int x) = (x == y) := by
   show (y == x) = (x == y)
   exact Bool.eq_iff_iff.mpr ⟨fun h => beq_iff_eq.mpr (beq_iff_eq.mp h).symm, fun h => beq_iff_eq.mpr (beq_iff_eq.mp h).symm⟩
  rw [e]
theorem flat_ints : ∀ xs : List Int, (xs.map V.int).all flatV = true
 | [] => rfl
 | _ :: r => by rw [List.map_cons, List.all_cons, flat_ints r]; rfl
section
variable {X : Cx} (K : PySem.W.Frag)
def rInI (K : PySem.W.Frag) (neg : Bool) : R2 := fun x y H Q => ∃ (p : Addr) (i : Int) (xs : List Int), x = .int i ∧ y = .ref p ∧ SqL K H p (xs.map V.int) ∧ Q (.bl (if neg then !xs.contains i else xs.contains i)) H
theorem op_inI (h : X.K = K := by rfl) : OpR X (compareOp .In) (rInI K false) := by
 intro pins s σ H x y v u Q I rx ry ⟨p, i, xs, e1, e2, hs, q⟩
 subst e1 e2
 refine op_in_seq pins s σ H _ _ v u Q I rx ry ⟨p, xs.map V.int, rfl, .inl (h ▸ hs), rfl, flat_ints xs, ?_⟩
 rw [inV_int]
 exact q
theorem op_notInI (h : X.K = K := by rfl) : OpR X (compareOp .NotIn) (rInI K true) := by
 intro pins s σ H x y v u Q I rx ry ⟨p, i, xs, e1, e2, hs, q⟩
 subst e1 e2
 refine op_notIn_seq pins s σ H _ _ v u Q I rx ry ⟨p, xs.map V.int, rfl, .inl (h ▸ hs), rfl, flat_ints xs, ?_⟩
 rw [inV_int]
 exact q
end
end L2
namespace L2
open PySem PySem.Spec PyProof.Rows
def Ite (a : Addr) : It :=
 ⟨fun i H => ∃ xs x, H a = some (.lst xs) ∧ xs[i]? = some x, fun i H x H' => ∃ T xs y, H T = none ∧ H a = some (.lst xs) ∧ xs[i]? = some y ∧ x = .ref T ∧ H' = upd H T (.tup [.int i, y]), fun i H => ∃ xs, H a = some (.lst xs) ∧ xs.length ≤ i⟩
theorem turns_any {J : It} {n : Nat} {g : TG} {tc : TT} {te : TE} {D : Addr} {Q : Hp → Prop} {σ0 : St} {H0 : Hp} (W : Nat → St → Hp → Prop) (h0 : W 0 σ0 H0)
  (step : ∀ i σ H, i < n → W i σ H → J.go i H ∧ ∀ x H', J.yld i H x H' → g x σ H' fun σ2 H2 => tc σ2 H2 fun b H3 =>
   if b = true then te σ2 H3 fun v H4 => ∃ zs, H4 D = some (.lst zs) ∧ zs.length < sizeLine ∧ W (i + 1) σ2 (upd H4 D (.lst (zs ++ [v]))) else W (i + 1) σ2 H3)
  (stop : ∀ σ H, W n σ H → J.stop n H ∧ Q H) : tTurns J g tc te D Q σ0 H0 := by
 refine ⟨fun i m σ H => m = n - i ∧ i ≤ n ∧ W i σ H, ⟨n, rfl, Nat.zero_le _, h0⟩, ?_⟩
 rintro i m σ H ⟨rfl, hi, w⟩
 by_cases hlt : i < n
 ·obtain ⟨hg, hy⟩ := step i σ H hlt w
  exact .inr ⟨hg, W (i + 1), fun σ' H' w' => ⟨n - (i + 1), by omega, rfl, hlt, w'⟩, hy⟩
 ·have e : i = n := by omega
  subst e
  exact .inl (stop σ H w)
theorem turns_enum {K : PySem.W.Frag} {a : Addr} {xs : List V} {tc : TT} {te : TE} {D : Addr} {Q : Hp → Prop} {σ : St} {H1 : Hp} (c : Nat → Bool) (v : Nat → V) (hS : H1 a = some (.lst xs)) (hD : H1 D = none) (hn : xs.length ≤ 1000)
  (ht : ∀ i H', i < xs.length → Same H1 H' → Tells tc (some (.int (i : Int)) :: some (xs.getD i .non) :: σ) H' (c i)) (he : ∀ i H', i < xs.length → c i = true → Same H1 H' → Gives te (some (.int (i : Int)) :: some (xs.getD i .non) :: σ) H' (v i))
  (hq : ∀ H', Same H1 H' → H' D = some (.lst (((List.range xs.length).filter c).map v)) → Q H') : tTurns (Ite a) (gTup K 2 (gCons (gName 0) (gCons (gName 1) gNil))) tc te D Q (none :: none :: σ) (upd H1 D (.lst [])) := by
 refine turns_any (n := xs.length) (fun i σ' H' => ∃ x y, σ' = x :: y :: σ ∧ Same H1 H' ∧ H' D = some (.lst (((List.range i).filter c).map v))) ⟨none, none, rfl, Same.new hD _, upd_same⟩ ?_ ?_
 ·rintro i σ' H' hi ⟨x, y, rfl, g, hl⟩
  refine ⟨⟨xs, xs[i], g _ _ hS, List.getElem?_eq_getElem hi⟩, fun z H2 hz => ?_⟩
  obtain ⟨T, ys, u, hT, hy, hu, rfl, rfl⟩ := hz
  rw [g _ _ hS] at hy
  cases hy
  have eu : xs.getD i .non = u := by rw [List.getD_eq_getElem?_getD, hu]; rfl
  have g2 : Same H1 (upd H' T (.tup [.int (i : Int), u])) := fun b o hb => by
   have h1 := g _ _ hb
   rw [upd_ne (ne_of_none h1 hT)]; exact h1
  have hl2 : (upd H' T (.tup [.int (i : Int), u])) D = some (.lst (((List.range i).filter c).map v)) := by rw [upd_ne (ne_of_none hl hT)]; exact hl
  refine ⟨T, _, rfl, SqT.of upd_same, rfl, _, _, rfl, _, _, rfl, rfl, ?_⟩
  show tc (some (.int (i : Int)) :: some u :: σ) _ _
  rw [← eu] at g2 hl2 ⊢
  generalize upd H' T (.tup [.int (i : Int), xs.getD i .non]) = H3 at g2 hl2 ⊢
  refine ht i H3 hi g2 _ fun H4 g4 => ?_
  have hr : (List.range (i + 1)).filter c = (List.range i).filter c ++ (if c i = true then [i] else []) := by
   rw [List.range_succ, List.filter_append, List.filter_cons, List.filter_nil]
  refine ite2 (fun hc => ?_) (fun hc => ?_)
  ·refine he i H4 hi hc (g2.trans g4) _ fun H5 g5 => ?_
   have l5 := g5 _ _ (g4 _ _ hl2)
   refine ⟨_, l5, ?_, _, _, rfl, fun b o hb => ?_, ?_⟩
   ·rw [List.length_map]
    have := List.length_filter_le c (List.range i)
    rw [List.length_range] at this
    exact small1000 (by omega)
   ·have hne : b ≠ D := fun e => by rw [e, hD] at hb; cases hb
    rw [upd_ne hne]
    exact g5 _ _ (g4 _ _ (g2 _ _ hb))
   ·rw [upd_same, hr, if_pos hc, List.map_append]
    rfl
  ·refine ⟨_, _, rfl, g2.trans g4, ?_⟩
   rw [hr, if_neg hc, List.append_nil]
   exact g4 _ _ hl2
 ·rintro σ' H' ⟨x, y, rfl, g, hl⟩
  exact ⟨⟨xs, g _ _ hS, Nat.le_refl _⟩, hq H' g hl⟩
theorem fltT {α : Type} (l : List α) : l.filter (fun _ => true) = l := List.filter_eq_self.mpr fun _ _ => rfl
def slotN (i : Nat) (σ : St) : Nat := match σ[i]? with
 | some (some (.int v)) => v.toNat
 | _ => 0
theorem small2000 {n : Nat} (h : n ≤ 2000) : n < sizeLine := by rw [sizeLine_eq]; omega
section
variable {X : Cx} {pins : List (Addr × Obj)} {σ : St} {H : Hp} {s : Shared}
theorem Inv.turnedL {h' : Heap} {t' : Nat} {fp : List Addr} (I : Inv X pins σ H s) (k : ∀ b o, b ∉ fp → s.heap.get? b = some o → h'.get? b = some o) (hf : ∀ b ∈ fp, FpOk X pins H b) : Inv X pins σ H { s with heap := h', toks := t' } := by
 have nit : ∀ b u, H b = some u → b ∉ fp := fun b u e z => by rw [(hf b z).1] at e; cases e
 refine I.step (g' := s.gens) (d' := s.drawn) (ch := fp) (fun b hb => ?_) (fun b o _ _ hc e _ => k b o hc e) (fun b o _ _ hc e _ => ⟨o.slots, k b o hc e⟩) (fun _ _ _ _ n => n)
  (fun b o hc e => ⟨o, k b o hc e⟩) (fun _ _ e => e) (fun _ _ _ e => e) (fun b ps e => ⟨#[], by rw [e]; simp⟩) (fun m hm => ?_) (fun b u e => ?_) I.bare
 ·obtain ⟨_, f1, _, f3, f4, f5⟩ := hf b hb
  exact ⟨f3, f1, f4, f5⟩
 ·obtain ⟨o, es, ep, ho, r⟩ := hm
  exact ⟨o, es, ep, k _ o (fun z => (hf _ z).2.1 rfl) ho, r⟩
 ·refine (I.hok b u e).stay (fun c v hc q => k c v ?_ q) (fun _ q => q) fun _ _ q => q
  rcases hc with z | z
  ·rw [z]; exact nit b u e
  ·exact nit c _ z
end
theorem turn_enum {P : Program} {w : World} {K : PySem.W.Frag} {es : List Expr} {k : Nat} {pos : Pos} (a e it : Addr) (hei : e ≠ it) :
  Turn P w K (.Tuple es k pos) (Ite a) [e, it] e (fun i h => (∃ old, IsEnum h e it ((i : Nat) : Int) old) ∧ h.IsListIter it a i) where
 mem := by simp
 obj := fun i h st b hb => by
  obtain ⟨⟨old, he⟩, o, e1, c, d⟩ := st
  rcases List.mem_cons.mp hb with z | z
  ·subst z
   exact ⟨_, he, fun v z => by cases z⟩
  ·have z : b = it := by simpa using z
   subst z
   exact ⟨o, e1, fun v z => by rw [d] at z; cases z⟩
 keep := fun i h h' st k => ⟨let ⟨old, he⟩ := st.1; ⟨old, k e (by simp) _ he⟩, st.2.at fun o e => k it (by simp) o e⟩
 item := by
  intro X hP hw hK hc i pins s σ H E I hf st hg
  subst hP hw hK
  obtain ⟨xs, x, hq, hx⟩ := hg
  obtain ⟨hz, its, n, r, hl, ea⟩ := I.lstM hq
  obtain ⟨u, hu, ru⟩ := r.get hx
  obtain ⟨⟨old, he⟩, hit⟩ := st
  have hL : s.heap.IsList a its.toArray := ⟨_, ea, rfl, n, rfl⟩
  have helt : e < s.heap.objs.size := Heap.lt_size he
  have hilt : it < s.heap.objs.size := by obtain ⟨_, x, _⟩ := id hit; exact Heap.lt_size x
  have hun : ∀ b ∈ [e, it], b < s.heap.objs.size := fun b hb => by
   rcases List.mem_cons.mp hb with z | z
   ·rw [z]; exact helt
   ·rw [show b = it by simpa using z]; exact hilt
  refine wpAny_pyNext_enum_item he hit hL (x := u) (by simpa using hu) hei fun h' ho hit' hT hsz hk => ?_
  refine ⟨_, rfl, wpAny_letOwnedTupleGo_enum ho fun h2 he2 hs2 => ?_⟩
  replace hs2 : Heap.SameBut e h' h2 := hs2
  have I1 : Inv X pins σ (upd H s.heap.objs.size (.tup [.int i, x])) { s with heap := s.heap.push { cls := .type "tuple", data := .seq #[.int i s.toks, u] }, toks := s.toks + 1 } :=
   I.laid (fun b o q => Heap.get?_push_of_some _ q) (Nat.le_refl _) ⟨by show 2 ≤ sizeLine; decide, [.int i s.toks, u], .cons ⟨_, rfl⟩ (.cons ru .nil), ⟨_, Heap.get?_push_size _ rfl, rfl, _, rfl⟩⟩
  have frs : ∀ b ∈ [e, it], upd H s.heap.objs.size (.tup [.int i, x]) b = none := fun b hb => by
   rw [upd_ne (Nat.ne_of_lt (hun b hb))]; exact (hf b hb).1
  have I2 : Inv X pins σ (upd H s.heap.objs.size (.tup [.int i, x])) { s with heap := h2, toks := s.toks + 1 } := by
   refine Inv.turnedL (s := { s with heap := s.heap.push { cls := .type "tuple", data := .seq #[.int i s.toks, u] }, toks := s.toks + 1 }) (h' := h2) (t' := s.toks + 1) (fp := [e, it]) I1 (fun b o hb q => ?_) (fun b hb => ⟨frs b hb, (hf b hb).2⟩)
   have n1 : b ≠ e := fun z => hb (by simp [z])
   have n2 : b ≠ it := fun z => hb (by simp [z])
   refine (hs2.2 b n1).trans ?_
   rcases Heap.get?_push_cases q with ⟨eb, eo⟩ | q
   ·rw [eb, eo]; exact hT
   ·exact hk b o n1 n2 q
  refine ⟨.ref s.heap.objs.size, _, I2, rfl, ⟨_, xs, x, I.fresh, hq, hx, rfl, rfl⟩, ⟨⟨u, ?_⟩, ?_⟩, frs⟩
  ·have e1 : (((i + 1 : Nat)) : Int) = (i : Int) + 1 := by simp
   rw [e1]; exact he2
  ·exact hit'.at fun o y => (hs2.2 it hei.symm).trans y
 done := by
  intro X hP hw hK hc i pins s σ H E I hf st hg
  subst hP hw hK
  obtain ⟨xs, hq, hx⟩ := hg
  obtain ⟨hz, its, n, r, hl, ea⟩ := I.lstM hq
  obtain ⟨⟨old, he⟩, hit⟩ := st
  have hL : s.heap.IsList a its.toArray := ⟨_, ea, rfl, n, rfl⟩
  exact wpAny_pyNext_enum_end (I.ok.hd hc) he hit hL (by simp; omega) fun h' eb => ⟨rfl, I.turnedL (t' := s.toks) (fp := [e, it]) (fun b o hb q => eb b o (fun z => hb (by simp [z])) q) hf⟩
 self := fun _ _ _ _ _ st h => let ⟨_, he⟩ := st.1; wpAny_pyIter_enum he h
section
variable {X : Cx}
def iEnum (ta : TA) : TI := fun σ H R => ta σ H fun vs H1 => ∃ a xs, vs = [.ref a] ∧ H1 a = some (.lst xs) ∧ R (Ite a) H1
theorem pg_tupK (K : PySem.W.Frag) {es : List Expr} {k : Nat} {t : TGs} {n : Nat} {pos : Pos} (hc : X.calm = true) (h : PGs X es t) (hK : X.K = K := by rfl)
  (hn : (assignEach es X.env).length = n := by rfl) (hst : (assignEach es X.env).findIdx? (·.1) = none := by rfl) : PG X (.Tuple es k pos) (gTup K n t) := hK ▸ pg_tup hc h hn hst
theorem boot_enumerate : bootBuiltins "enumerate" = some (.type "enumerate") := by decide +kernel
theorem pi_enum {es : List Expr} {k : Nat} {tp : Pos} {a : Expr} {ta : TA} {p pos : Pos} (hg : Gl X "enumerate") (hm : X.mg "enumerate" = none) (ha : PA X [a] ta) (hs : starEach [a] X.env = [(false, eval a X.env)] := by rfl) :
  PI X (.Tuple es k tp) (.Call (.Name "enumerate" p) [a] [] pos) (iEnum ta) := by
 intro pins s σ H R I h
 refine wpAny_Call_Name_kw (ld_blt I hg hm boot_enumerate ?_ (by decide) (by decide))
 refine PyProof.Rows.callWith_type1 (thn (ha pos pins s σ H _ I h) fun us s1 ⟨vs, H1, I1, r1, q1⟩ => ?_) hs rfl
 obtain ⟨a, xs, e, hq, q⟩ := q1
 subst e
 obtain ⟨u, rfl, ru⟩ := r1.one
 cases ru
 obtain ⟨hz, its, n, r, hl, ea⟩ := I1.lstM hq
 refine call_enumerate_1 ea fun h' he hit hsz hk => ?_
 refine wpAny_pyIter_enum he ?_
 have I2 : Inv X pins σ H1 { s1 with heap := h' } := I1.kept (t' := s1.toks) hk
 refine ⟨s1.heap.objs.size + 1, [s1.heap.objs.size + 1, s1.heap.objs.size], _, _, H1, rfl, I2, turn_enum a _ _ (Nat.succ_ne_self _), ⟨⟨_, he⟩, hit⟩, fun b hb => ?_, q⟩
 rcases List.mem_cons.mp hb with z | z
 ·subst z; exact I1.fpOk (Nat.le_succ _) (I1.hok.fresh (Nat.le_succ _))
 ·have z : b = s1.heap.objs.size := by simpa using z
  subst z; exact I1.fpOk (Nat.le_refl _) (I1.hok.fresh (Nat.le_refl _))
theorem pt_valI {e : Expr} {t : TE} (h : PE X e t) (he : ∀ whole, isTrue e X.env whole = (do let v ← whole; standAt e.pos; holding [v] (truthy v)) := by intro _; rfl) : PT X e (fun σ H Q => t σ H fun x H1 => ∃ i, x = .int i ∧ Q (i != 0) H1) := by
 intro pins s σ H Q I hw
 refine isTrue_plain (thn (h pins s σ H _ I hw) fun v s1 ⟨x, H1, I1, r1, i, ex, q⟩ => ?_) (he _)
 subst ex
 obtain ⟨tk, rfl⟩ := r1
 exact PySem.P.truthy_int ⟨H1, I1, q⟩
end
structure Base (K : PySem.W.Frag) (C : Addr) (mc : Value) (m : Str) (f : Addr) : Prop where
 ga : PySem.W.specialIn K (.ref C) "__getattribute__" = some (some (.builtin "type.__getattribute__"))
 rd : PySem.W.readsIn K C mc = true
 at_ : PySem.W.findCls K (.ref C) mc m = some (.val (.ref f))
 kp : PySem.W.keepIn K (.ref f) = true
section
variable {X : Cx} {CX : CXT} {k : Nat} {f C : Addr} {mc : Value} {fd : FuncData} {ps : List Str} {sp : Sp} {dvs : List V} {ds : List Value} {E : XK} {x m : Str} {p pos apos : Pos} {e : Expr} {es : List Expr} {t : TA}
theorem pe_base {pl : Sem Bool} (B : Base X.K C mc m f) (F : FnOk X.prog X.w X.K X.mg X.base CX k f fd ps sp) (hr : Room k X.A) (hg : Gl X x) (hm : X.mg x = some (.ref C)) (hb : Binds X.K fd ps ds) (hd : Vals dvs ds) (hx : Passes CX X E) (ha : PA X (e :: es) t)
  (hdb : (x == ("__debug__" : Str)) = false := by decide) (hst : starEach (e :: es) X.env = (false, eval e X.env) :: starEach es X.env := by rfl) (hpl : (backTo pos (starEach es X.env)).any (·.1) = false := by rfl)
  (ht : eval (.Call (.Attribute (.Name x p) m apos) (e :: es) [] pos) X.env = (do
   let ov ← eval (.Name x p) X.env
   standAt apos.atName
   let (f, first) ← holding [ov] (getMethod ov m pl)
   callWith pos f first (backTo pos (starEach (e :: es) X.env)) (backToKw pos (keywordEach [] X.env))) := by rfl) :
  PE X (.Call (.Attribute (.Name x p) m apos) (e :: es) [] pos) (tCall sp dvs E t) := by
 intro pins s σ H Q I h
 refine PySem.W.methodCall_KW (pl := pl) (thn (pe_glob (v := .ref C) (pos := p) hg hm rfl hdb pins s σ H (fun v H1 => v = .ref C ∧ H1 = H) I ⟨rfl, rfl⟩) fun u s1 ⟨x, H1, I1, rx, ex, eH⟩ => ?_) ht
 subst ex eH
 obtain rfl : u = Value.ref C := rx
 refine PySem.W.method_cls I1.kIn B.ga (PySem.W.cls_value I1.kIn B.rd B.at_ rfl ?_)
 have I2 : Inv X pins σ H1 { s1 with toks := s1.toks + 1 } := I1.tok _
 refine PySem.W.callWith_K (first := []) (h₀ := X.base) I2.ok.mod.kin B.kp (thn (ha pos pins _ σ H1 _ I2 h) fun us s2 ⟨vs, H2, I3, r, q2⟩ => ⟨I3.kIn, ?_⟩) hst hpl
 exact run_fn F hr hb hd hx I3 r q2
end
end L2
namespace L2
open PySem PySem.Spec PyProof.Rows
section
variable {X : Cx}
theorem call_sumL (hcalm : X.calm = true) : CallR X (.builtin "sum") (fun vs H Q => ∃ (p : Addr) (ns : List Int), vs = [.ref p] ∧ H p = some (.lst (ns.map V.int)) ∧ Q (.int ns.sum) H) := by
 intro pins s σ H xs us Q I r h
 obtain ⟨p, ns, rfl, hq, q⟩ := h
 obtain ⟨u, rfl, ru⟩ := r.one
 cases ru
 obtain ⟨its, rv, pl, hz⟩ := I.list (SqL.of hq)
 have hi := vals_intsAre rv
 obtain ⟨ws, e⟩ := hi.allInts.items
 have hns : ns = ws.toList.map (·.1) := by rw [← hi.numsOf, ← nums_intItems, ← e]
 refine sum_intListG (I.ok.hd hcalm) (l := p) (xs := ws) (e ▸ pl.isList) fun h' tk t' hk => ⟨.int _, H, I.kept hk, ⟨t', rfl⟩, ?_⟩
 have es : preSum (numAt ws) ws.size = ns.sum := by rw [hns, preSum_eq, List.take_of_length_le (by simp)]
 rw [es]
 exact q
end
def Itz (a b : Addr) : It :=
  ⟨fun i H => ∃ xs ys x y, H a = some (.lst xs) ∧ H b = some (.lst ys) ∧ xs[i]? = some x ∧ ys[i]? = some y,
   fun i H v H' => ∃ T xs ys x y, H T = none ∧ H a = some (.lst xs) ∧ H b = some (.lst ys) ∧ xs[i]? = some x ∧ ys[i]? = some y ∧ v = .ref T ∧ H' = upd H T (.tup [x, y]),
   fun i H => ∃ xs ys, H a = some (.lst xs) ∧ H b = some (.lst ys) ∧ (xs.length ≤ i ∨ ys.length ≤ i)⟩
theorem turn_zip {P : Program} {w : World} {K : PySem.W.Frag} {es : List Expr} {k : Nat} {pos : Pos} {a b z TI TO i1 i2 : Addr} (D : ZipApart z TI TO i1 i2 a b) :
  Turn P w K (.Tuple es k pos) (Itz a b) [z, TI, TO, i1, i2] z (fun i h => IsZip h z TI TO .none ∧ IsPair h TI (.ref i1) (.ref i2) ∧ (∃ u v, IsPair h TO u v) ∧ h.IsListIter i1 a i ∧ h.IsListIter i2 b i) where
 mem := by simp
 obj := fun i h st c hc => by
  obtain ⟨hz, hTI, ⟨u, v, hTO⟩, h1, h2⟩ := st
  simp only [List.mem_cons, List.not_mem_nil, or_false] at hc
  rcases hc with rfl | rfl | rfl | rfl | rfl
  ·exact ⟨_, hz, fun v z => by cases z⟩
  ·exact ⟨_, hTI, fun v z => by cases z⟩
  ·exact ⟨_, hTO, fun v z => by cases z⟩
  ·obtain ⟨o, e1, c, d⟩ := h1
   exact ⟨o, e1, fun v z => by rw [d] at z; cases z⟩
  ·obtain ⟨o, e1, c, d⟩ := h2
   exact ⟨o, e1, fun v z => by rw [d] at z; cases z⟩
 keep := fun i h h' st k => by
  obtain ⟨hz, hTI, ⟨u, v, hTO⟩, h1, h2⟩ := st
  exact ⟨k z (by simp) _ hz, k TI (by simp) _ hTI, ⟨u, v, k TO (by simp) _ hTO⟩, h1.at fun o e => k i1 (by simp) o e, h2.at fun o e => k i2 (by simp) o e⟩
 item := by
  intro X hP hw hK hc i pins s σ H E I hf st hg
  subst hP hw hK
  obtain ⟨xs, ys, x, y, hqa, hqb, hx, hy⟩ := hg
  obtain ⟨_, its1, n1, r1, hl1, ea⟩ := I.lstM hqa
  obtain ⟨_, its2, n2, r2, hl2, eb⟩ := I.lstM hqb
  obtain ⟨u1, hu1, ru1⟩ := r1.get hx
  obtain ⟨u2, hu2, ru2⟩ := r2.get hy
  obtain ⟨hz, hTI, ⟨p, q, hTO⟩, h1, h2⟩ := st
  have hA : s.heap.IsList a its1.toArray := ⟨_, ea, rfl, n1, rfl⟩
  have hB : s.heap.IsList b its2.toArray := ⟨_, eb, rfl, n2, rfl⟩
  have lt : ∀ c ∈ [z, TI, TO, i1, i2], c < s.heap.objs.size := fun c hc => by
   simp only [List.mem_cons, List.not_mem_nil, or_false] at hc
   rcases hc with rfl | rfl | rfl | rfl | rfl
   ·exact Heap.lt_size hz
   ·exact Heap.lt_size hTI
   ·exact Heap.lt_size hTO
   ·obtain ⟨_, e, _⟩ := h1; exact Heap.lt_size e
   ·obtain ⟨_, e, _⟩ := h2; exact Heap.lt_size e
  refine wpAny_pyNext_zip_item D hz hTI hTO h1 h2 hA hB (x := u1) (y := u2) (by simpa using hu1) (by simpa using hu2) fun h' a1 a2 a3 a4 a5 a6 hk => ?_
  refine ⟨_, rfl, wpAny_letOwnedTupleGo_zip a1 fun h2' hz2 hs2 => ?_⟩
  replace hs2 : Heap.SameBut z h' h2' := hs2
  have I1 : Inv X pins σ (upd H s.heap.objs.size (.tup [x, y])) { s with heap := s.heap.push { cls := .type "tuple", data := .seq #[u1, u2] }, toks := s.toks } :=
   I.laid (fun b o q => Heap.get?_push_of_some _ q) (Nat.le_refl _) ⟨by show 2 ≤ sizeLine; decide, [u1, u2], .cons ru1 (.cons ru2 .nil), ⟨_, Heap.get?_push_size _ rfl, rfl, _, rfl⟩⟩
  have frs : ∀ c ∈ [z, TI, TO, i1, i2], upd H s.heap.objs.size (.tup [x, y]) c = none := fun c hc => by
   rw [upd_ne (Nat.ne_of_lt (lt c hc))]; exact (hf c hc).1
  have I2 : Inv X pins σ (upd H s.heap.objs.size (.tup [x, y])) { s with heap := h2', toks := s.toks } := by
   refine Inv.turnedL (s := { s with heap := s.heap.push { cls := .type "tuple", data := .seq #[u1, u2] }, toks := s.toks }) (h' := h2') (t' := s.toks) (fp := [z, TI, TO, i1, i2]) I1 (fun c o hc q => ?_) (fun c hc => ⟨frs c hc, (hf c hc).2⟩)
   have n1 : c ≠ z := fun e => hc (by simp [e])
   refine (hs2.2 c n1).trans ?_
   rcases Heap.get?_push_cases q with ⟨ec, eo⟩ | q
   ·rw [ec, eo]; exact a5
   ·exact hk c o n1 (fun e => hc (by simp [e])) (fun e => hc (by simp [e])) (fun e => hc (by simp [e])) q
  refine ⟨.ref s.heap.objs.size, _, I2, rfl, ⟨_, xs, ys, x, y, I.fresh, hqa, hqb, hx, hy, rfl, rfl⟩, ⟨hz2, ?_, ⟨_, _, hs2.extBut _ _ D.TOz a2⟩, a3.extBut hs2.extBut D.i1z, a4.extBut hs2.extBut D.i2z⟩, frs⟩
  exact hs2.extBut _ _ D.TIz (hk _ _ D.TIz D.TITO D.TIi1 D.TIi2 hTI)
 done := by
  intro X hP hw hK hc i pins s σ H E I hf st hg
  subst hP hw hK
  obtain ⟨xs, ys, hqa, hqb, hend⟩ := hg
  obtain ⟨_, its1, n1, r1, hl1, ea⟩ := I.lstM hqa
  obtain ⟨_, its2, n2, r2, hl2, eb⟩ := I.lstM hqb
  obtain ⟨hz, hTI, ⟨p, q, hTO⟩, h1, h2⟩ := st
  have hA : s.heap.IsList a its1.toArray := ⟨_, ea, rfl, n1, rfl⟩
  have hB : s.heap.IsList b its2.toArray := ⟨_, eb, rfl, n2, rfl⟩
  have he : its1.toArray[i]? = none ∨ its2.toArray[i]? = none := by
   rcases hend with z | z
   ·exact .inl (by simp; omega)
   ·exact .inr (by simp; omega)
  exact wpAny_pyNext_zip_end (I.ok.hd hc) D hz hTI hTO h1 h2 hA hB he fun h' hk => ⟨rfl, I.turnedL (t' := s.toks) (fp := [z, TI, TO, i1, i2]) (fun c o hc q => hk c o (fun e => hc (by simp [e])) (fun e => hc (by simp [e])) (fun e => hc (by simp [e])) (fun e => hc (by simp [e])) q) hf⟩
 self := fun _ _ _ _ _ st h => wpAny_pyIter_zip st.1 h
section
variable {X : Cx}
def iZip (ta : TA) : TI := fun σ H R => ta σ H fun vs H1 => ∃ a b xs ys, vs = [.ref a, .ref b] ∧ H1 a = some (.lst xs) ∧ H1 b = some (.lst ys) ∧ R (Itz a b) H1
theorem pi_zip {es : List Expr} {k : Nat} {tp : Pos} {a b : Expr} {ta : TA} {p pos : Pos} (hg : Gl X "zip") (hm : X.mg "zip" = none) (ha : PA X [a, b] ta) (hs : starEach [a, b] X.env = (false, eval a X.env) :: starEach [b] X.env := by rfl) (hpl : (backTo pos (starEach [b] X.env)).any (·.1) = false := by rfl) :
  PI X (.Tuple es k tp) (.Call (.Name "zip" p) [a, b] [] pos) (iZip ta) := by
 intro pins s σ H R I h
 refine wpAny_Call_Name_kw (ld_blt I hg hm boot_zip ?_ (by decide) (by decide))
 refine PyProof.Rows.callWith_type1 (thn (ha pos pins s σ H _ I h) fun us s1 ⟨vs, H1, I1, r1, q1⟩ => ?_) hs hpl
 obtain ⟨a, b, xs, ys, e, hqa, hqb, q⟩ := q1
 subst e
 obtain ⟨u1, u2, rfl, ru1, ru2⟩ : ∃ u1 u2, us = [u1, u2] ∧ RelV (.ref a) u1 ∧ RelV (.ref b) u2 := by
  cases r1 with
  | cons x1 t1 =>
   cases t1 with
   | cons x2 t2 =>
    cases t2
    exact ⟨_, _, rfl, x1, x2⟩
 cases ru1
 cases ru2
 obtain ⟨_, its1, n1, rv1, hl1, ea⟩ := I1.lstM hqa
 obtain ⟨_, its2, n2, rv2, hl2, eb⟩ := I1.lstM hqb
 refine call_zip_2 (xs := its1.toArray) (ys := its2.toArray) ⟨_, ea, rfl, n1, rfl⟩ ⟨_, eb, rfl, n2, rfl⟩ fun h' hz hTI hTO hi1 hi2 hsz hk => ?_
 refine wpAny_pyIter_zip hz ?_
 have I2 : Inv X pins σ H1 { s1 with heap := h' } := I1.kept (t' := s1.toks) hk
 refine ⟨s1.heap.objs.size + 4, [s1.heap.objs.size + 4, s1.heap.objs.size + 2, s1.heap.objs.size + 3, s1.heap.objs.size, s1.heap.objs.size + 1], _, _, H1, rfl, I2, turn_zip (zipApart_new (Heap.lt_size ea) (Heap.lt_size eb)), ⟨hz, hTI, ⟨_, _, hTO⟩, hi1, hi2⟩, fun c hc => ?_, q⟩
 have hge : s1.heap.objs.size ≤ c := by
  simp only [List.mem_cons, List.not_mem_nil, or_false] at hc
  rcases hc with rfl | rfl | rfl | rfl | rfl <;> omega
 exact I1.fpOk hge (I1.hok.fresh hge)
end
theorem turns_zip {K : PySem.W.Frag} {a b : Addr} {xs ys : List V} {tc : TT} {te : TE} {D : Addr} {Q : Hp → Prop} {σ : St} {H1 : Hp} {n : Nat} (c : Nat → Bool) (v : Nat → V) (hA : H1 a = some (.lst xs)) (hB : H1 b = some (.lst ys)) (hmin : n = min xs.length ys.length) (hD : H1 D = none) (hn : n ≤ 1000)
  (ht : ∀ i H', i < n → Same H1 H' → Tells tc (some (xs.getD i .non) :: some (ys.getD i .non) :: σ) H' (c i)) (he : ∀ i H', i < n → c i = true → Same H1 H' → Gives te (some (xs.getD i .non) :: some (ys.getD i .non) :: σ) H' (v i))
  (hq : ∀ H', Same H1 H' → H' D = some (.lst (((List.range n).filter c).map v)) → Q H') : tTurns (Itz a b) (gTup K 2 (gCons (gName 0) (gCons (gName 1) gNil))) tc te D Q (none :: none :: σ) (upd H1 D (.lst [])) := by
 refine turns_any (n := n) (fun i σ' H' => ∃ x y, σ' = x :: y :: σ ∧ Same H1 H' ∧ H' D = some (.lst (((List.range i).filter c).map v))) ⟨none, none, rfl, Same.new hD _, upd_same⟩ ?_ ?_
 ·rintro i σ' H' hi ⟨x, y, rfl, g, hl⟩
  have hix : i < xs.length := by omega
  have hiy : i < ys.length := by omega
  refine ⟨⟨xs, ys, xs[i], ys[i], g _ _ hA, g _ _ hB, List.getElem?_eq_getElem hix, List.getElem?_eq_getElem hiy⟩, fun z H2 hz => ?_⟩
  obtain ⟨T, xs', ys', u, u', hT, hxs, hys, hu, hu', rfl, rfl⟩ := hz
  rw [g _ _ hA] at hxs
  rw [g _ _ hB] at hys
  cases hxs
  cases hys
  have eu : u = xs.getD i .non := by rw [List.getD_eq_getElem?_getD, hu]; rfl
  have eu' : u' = ys.getD i .non := by rw [List.getD_eq_getElem?_getD, hu']; rfl
  subst eu eu'
  have g2 : Same H1 (upd H' T (.tup [xs.getD i .non, ys.getD i .non])) := fun b o hb => by
   have h1 := g _ _ hb
   rw [upd_ne (ne_of_none h1 hT)]; exact h1
  have hl2 : (upd H' T (.tup [xs.getD i .non, ys.getD i .non])) D = some (.lst (((List.range i).filter c).map v)) := by rw [upd_ne (ne_of_none hl hT)]; exact hl
  refine ⟨T, _, rfl, SqT.of upd_same, rfl, _, _, rfl, _, _, rfl, rfl, ?_⟩
  show tc (some (xs.getD i .non) :: some (ys.getD i .non) :: σ) _ _
  generalize upd H' T (.tup [xs.getD i .non, ys.getD i .non]) = H3 at g2 hl2 ⊢
  refine ht i H3 hi g2 _ fun H4 g4 => ?_
  have hr : (List.range (i + 1)).filter c = (List.range i).filter c ++ (if c i = true then [i] else []) := by
   rw [List.range_succ, List.filter_append, List.filter_cons, List.filter_nil]
  refine ite2 (fun hc => ?_) (fun hc => ?_)
  ·refine he i H4 hi hc (g2.trans g4) _ fun H5 g5 => ?_
   have l5 := g5 _ _ (g4 _ _ hl2)
   refine ⟨_, l5, ?_, _, _, rfl, fun b o hb => ?_, ?_⟩
   ·rw [List.length_map]
    have := List.length_filter_le c (List.range i)
    rw [List.length_range] at this
    exact small1000 (by omega)
   ·have hne : b ≠ D := fun e => by rw [e, hD] at hb; cases hb
    rw [upd_ne hne]
    exact g5 _ _ (g4 _ _ (g2 _ _ hb))
   ·rw [upd_same, hr, if_pos hc, List.map_append]
    rfl
  ·refine ⟨_, _, rfl, g2.trans g4, ?_⟩
   rw [hr, if_neg hc, List.append_nil]
   exact g4 _ _ hl2
 ·rintro σ' H' ⟨x, y, rfl, g, hl⟩
  exact ⟨⟨xs, ys, g _ _ hA, g _ _ hB, by omega⟩, hq H' g hl⟩
end L2
namespace L2
open PySem PySem.Spec PyProof.Rows
section
variable {X : Cx}
end
end L2
namespace L2
open PySem PySem.Spec PyProof.Rows
mutual
inductive Dat (H : Hp) : V → PyData → Prop
 | non : Dat H .non .none
 | bl (b : Bool) : Dat H (.bl b) (.bool b)
 | int (i : Int) : Dat H (.int i) (.int i)
 | str (x : Str) : Dat H (.str x) (.str x)
 | lst {a : Addr} {xs : List V} {ds : List PyData} : H a = some (.lst xs) → DatAll H xs ds → Dat H (.ref a) (.list ds)
 | tup {a : Addr} {xs : List V} {ds : List PyData} : H a = some (.tup xs) → DatAll H xs ds → Dat H (.ref a) (.tuple ds)
 | dct {a : Addr} : H a = some (.dK []) → Dat H (.ref a) (.dict [])
inductive DatAll (H : Hp) : List V → List PyData → Prop
 | nil : DatAll H [] []
 | cons {x : V} {d : PyData} {xs : List V} {ds : List PyData} : Dat H x d → DatAll H xs ds → DatAll H (x :: xs) (d :: ds)
end
mutual
theorem Dat.same {H H' : Hp} (g : Same H H') : ∀ {x : V} {d : PyData}, Dat H x d → Dat H' x d
 | _, _, .non => .non
 | _, _, .bl b => .bl b
 | _, _, .int i => .int i
 | _, _, .str x => .str x
 | _, _, .lst e h => .lst (g _ _ e) (h.same g)
 | _, _, .tup e h => .tup (g _ _ e) (h.same g)
 | _, _, .dct e => .dct (g _ _ e)
theorem DatAll.same {H H' : Hp} (g : Same H H') : ∀ {xs : List V} {ds : List PyData}, DatAll H xs ds → DatAll H' xs ds
 | _, _, .nil => .nil
 | _, _, .cons h t => .cons (h.same g) (t.same g)
end
theorem DatAll.app {H : Hp} : ∀ {xs ys : List V} {ds es : List PyData}, DatAll H xs ds → DatAll H ys es → DatAll H (xs ++ ys) (ds ++ es)
 | _, _, _, _, .nil, h => h
 | _, _, _, _, .cons a t, h => .cons a (t.app h)
theorem DatAll.ints {H : Hp} : ∀ (ns : List Int), DatAll H (ns.map V.int) (ns.map PyData.int)
 | [] => .nil
 | n :: r => .cons (.int n) (DatAll.ints r)
section
variable {X : Cx} {pins : List (Addr × Obj)} {σ : St} {H : Hp} {s : Shared}
mutual
theorem Dat.reads (I : Inv X pins σ H s) : ∀ {x : V} {d : PyData} {u : Value}, Dat H x d → RelV x u → ∃ as, Reads s.heap u d as
 | _, _, _, .non, r => by cases r; exact ⟨_, .none⟩
 | _, _, _, .bl b, r => by cases r; exact ⟨_, .bool b⟩
 | _, _, _, .int i, r => by obtain ⟨t, rfl⟩ := r; exact ⟨_, .int i t⟩
 | _, _, _, .str x, r => by obtain ⟨t, rfl⟩ := r; exact ⟨_, .str x t⟩
 | _, _, _, .lst (a := a) e h, r => by
  cases r
  obtain ⟨_, its, n, rv, _, eo⟩ := I.lstM e
  obtain ⟨as, q⟩ := h.reads I rv
  exact ⟨_, .list eo rfl rfl (by simpa using q)⟩
 | _, _, _, .tup e h, r => by
  cases r
  obtain ⟨_, its, rv, o, h1, h2, n, h3⟩ := I.hok _ _ e
  obtain ⟨as, q⟩ := h.reads I rv
  exact ⟨_, .tuple h1 h2 h3 (by simpa using q)⟩
 | _, _, _, .dct e, r => by
  cases r
  obtain ⟨z, y, vs, rv, ob, es, ep, h1, h2, h3, _, h5, _⟩ := I.hok _ _ e
  cases rv
  have he : es.toList = [] := by
   cases hh : es.toList with
   | nil => rfl
   | cons x r => rw [hh] at h5; cases h5
  exact ⟨_, .dict (kvs := []) (as := []) (bs := []) h1 h2.1 h3 (by rw [he]; exact .nil) (by rw [he]; exact .nil)⟩
theorem DatAll.reads (I : Inv X pins σ H s) : ∀ {xs : List V} {ds : List PyData} {us : List Value}, DatAll H xs ds → Vals xs us → ∃ as, ReadsAll s.heap us ds as
 | _, _, _, .nil, r => by cases r; exact ⟨_, .nil⟩
 | _, _, _, .cons h t, r => by
  cases r with
  | cons r1 r2 =>
   obtain ⟨as, q1⟩ := h.reads I r1
   obtain ⟨bs, q2⟩ := t.reads I r2
   exact ⟨_, .cons q1 q2⟩
end
def AllFit (ds : List PyData) : Prop := ∀ t ∈ PyData.shownAll ds, t.length ≤ sizeLine
mutual
theorem Dat.rk (I : Inv X pins σ H s) : ∀ {x : V} {d : PyData} {u : Value}, Dat H x d → RelV x u → d.showable = true → d.shown.length ≤ sizeLine → ∃ bs, ReadAtMost s.heap d.depth bs ∧ ReprK X.prog X.w bs s.heap d.depth u d.shown
 | _, _, _, .non, r, _, _ => by
  cases r
  rw [PyData.shown_none]
  exact ⟨[], fun _ h => (nomatch h), ReprK.of_is ReprIs.none _ _ _⟩
 | _, _, _, .bl b, r, _, _ => by
  cases r
  rw [PyData.shown_bool]
  exact ⟨[], fun _ h => (nomatch h), ReprK.of_is (ReprIs.bool b) _ _ _⟩
 | _, _, _, .int i, r, hs, _ => by
  obtain ⟨t, rfl⟩ := r
  rw [PyData.shown_int]
  refine ⟨[], fun _ h => (nomatch h), ReprK.of_is (ReprIs.int t ?_) _ _ _⟩
  simpa [PyData.showable] using hs
 | _, _, _, .str x, r, _, hz => by
  obtain ⟨t, rfl⟩ := r
  rw [PyData.shown_str] at hz ⊢
  exact ⟨[], fun _ h => (nomatch h), ReprK.of_is (ReprIs.str x t hz) _ _ _⟩
 | _, _, _, .lst (a := a) (ds := ds) e h, r, hs, hz => by
  cases r
  obtain ⟨_, its, n, rv, _, eo⟩ := I.lstM e
  obtain ⟨as, q⟩ := h.reads I rv
  have rd : Reads s.heap (.ref a) (.list ds) (a :: as) := .list eo rfl rfl (by simpa using q)
  have hz2 : (listText (PyData.shownAll ds)).length ≤ sizeLine := by
   rw [PyData.shown] at hz
   exact hz
  obtain ⟨bs, hb, hk⟩ := h.rk I rv (by simpa [PyData.showable] using hs) fun t ht => Nat.le_trans (listText_mem_le ht) hz2
  have hlt : PyData.depthAll ds < (PyData.list ds).depth := by simp only [PyData.depth]; omega
  refine ⟨a :: bs, ReadAtMost.cons rd (Nat.le_of_lt hlt) hb, ?_⟩
  have hn := not_mem_of_deeper rd hlt hb
  rw [PyData.depth, PyData.shown]
  cases its with
  | nil =>
   cases q
   rw [PyData.shownAll, listText_nil]
   exact ReprK.listEmpty eo rfl rfl
  | cons y l =>
   refine ReprK.list eo rfl rfl hn ?_ fun i z ez => hk.item i z ?_
   ·have := hk.length_eq
    simpa using this
   ·simpa using ez
 | _, _, _, .tup (a := a) (ds := ds) e h, r, hs, hz => by
  cases r
  obtain ⟨_, its, rv, o, h1, h2, n, h3⟩ := I.hok _ _ e
  obtain ⟨as, q⟩ := h.reads I rv
  have rd : Reads s.heap (.ref a) (.tuple ds) as := .tuple h1 h2 h3 (by simpa using q)
  have hz2 : (tupleText (PyData.shownAll ds)).length ≤ sizeLine := by
   rw [PyData.shown] at hz
   exact hz
  obtain ⟨bs, hb, hk⟩ := h.rk I rv (by simpa [PyData.showable] using hs) fun t ht => Nat.le_trans (tupleText_mem_le ht) hz2
  have hlt : PyData.depthAll ds < (PyData.tuple ds).depth := by simp only [PyData.depth]; omega
  refine ⟨a :: bs, ReadAtMost.cons rd (Nat.le_of_lt hlt) hb, ?_⟩
  have hn := not_mem_of_deeper rd hlt hb
  rw [PyData.depth, PyData.shown]
  exact ReprK.tuple h1 h2 h3 hn (by simpa using hk)
 | _, _, _, .dct (a := a) e, r, hs, hz => by
  obtain ⟨as, rd⟩ := (Dat.dct e).reads I r
  cases r
  obtain ⟨z, y, vs, rv, ob, es, ep, h1, h2, h3, _, h5, _⟩ := I.hok _ _ e
  cases rv
  have he : es.toList = [] := by
   cases hh : es.toList with
   | nil => rfl
   | cons x r => rw [hh] at h5; cases h5
  have hlt : 0 < (PyData.dict []).depth := by simp only [PyData.depth]; omega
  refine ⟨[a], ReadAtMost.cons (n := 0) rd (Nat.zero_le _) (fun _ h => (nomatch h)), ?_⟩
  rw [PyData.depth, PyData.shown]
  have hd := ReprK.dict (prog := X.prog) (w := X.w) (as := []) (d := PyData.depthKv []) (ps := []) h1 h2.1 h3 y (fun h => (nomatch h)) (by rw [he]; exact .nil)
  simpa [PyData.shownKv] using hd
theorem DatAll.rk (I : Inv X pins σ H s) : ∀ {xs : List V} {ds : List PyData} {us : List Value}, DatAll H xs ds → Vals xs us → PyData.showableAll ds = true → AllFit ds → ∃ bs, ReadAtMost s.heap (PyData.depthAll ds) bs ∧ ReprAllK X.prog X.w bs s.heap (PyData.depthAll ds) us (PyData.shownAll ds)
 | _, _, _, .nil, r, _, _ => by
  cases r
  rw [PyData.shownAll]
  exact ⟨[], fun _ h => (nomatch h), .nil⟩
 | _, _, _, .cons (d := d) (ds := ds) h t, r, hs, hz => by
  cases r with
  | cons r1 r2 =>
   have hs' : d.showable = true ∧ PyData.showableAll ds = true := by simpa [PyData.showableAll] using hs
   have hz' : ∀ t ∈ d.shown :: PyData.shownAll ds, t.length ≤ sizeLine := by
    have := hz
    unfold AllFit at this
    rw [PyData.shownAll] at this
    exact this
   obtain ⟨b1, m1, k1⟩ := h.rk I r1 hs'.1 (hz' _ List.mem_cons_self)
   obtain ⟨b2, m2, k2⟩ := t.rk I r2 hs'.2 fun t ht => hz' t (List.mem_cons_of_mem _ ht)
   have l1 : d.depth ≤ PyData.depthAll (d :: ds) := by simp only [PyData.depthAll]; omega
   have l2 : PyData.depthAll ds ≤ PyData.depthAll (d :: ds) := by simp only [PyData.depthAll]; omega
   refine ⟨b1 ++ b2, (m1.mono l1).append (m2.mono l2), ?_⟩
   rw [PyData.shownAll]
   exact .cons ((k1.more fun b hb => List.mem_append_left b2 hb).level_le l1) (k2.more_le (fun b hb => List.mem_append_right b1 hb) l2)
end
theorem call_repr (hu : X.A.units + 64 < cLine) (hg : X.A.guards = some []) : CallR X (.builtin "repr") (fun vs H Q => ∃ x d, vs = [x] ∧ Dat H x d ∧ d.showable = true ∧ d.depth ≤ 8 ∧ d.shown.length ≤ sizeLine ∧ Q (.str d.shown) H) := by
 intro pins s σ H xs us Q I r h
 obtain ⟨x, d, rfl, hd, hs, hp, hz, q⟩ := h
 obtain ⟨u, rfl, ru⟩ := r.one
 have fin : ∀ (h' : Heap) (t : Tok) (tk : Nat), (∀ b o, s.heap.get? b = some o → h'.get? b = some o) → EP X pins σ Q (.str d.shown t) { s with heap := h', toks := tk } := fun h' t tk hk => ⟨.str d.shown, H, I.kept hk, ⟨t, rfl⟩, q⟩
 cases hd with
 | non =>
  cases ru
  rw [PyData.shown_none] at fin
  exact PySem.P.repr_of_none (fin s.heap _ _ fun _ _ e => e)
 | bl b =>
  cases ru
  rw [PyData.shown_bool] at fin
  exact PySem.P.repr_of_bool (fin s.heap _ _ fun _ _ e => e)
 | int i =>
  obtain ⟨t, rfl⟩ := ru
  rw [PyData.shown_int] at fin
  exact PySem.P.repr_of_int (by simpa [PyData.showable] using hs) (fin s.heap _ _ fun _ _ e => e)
 | str x =>
  obtain ⟨t, rfl⟩ := ru
  rw [PyData.shown_str] at fin hz
  exact PySem.P.repr_of_str (fin s.heap _ _ fun _ _ e => e) hz
 | lst e h =>
  rename_i a xs ds
  cases ru
  obtain ⟨_, its, n, rv, _, eo⟩ := I.lstM e
  obtain ⟨as, q2⟩ := h.reads I rv
  have rd : Reads s.heap (.ref a) (.list ds) (a :: as) := .list eo rfl rfl (by simpa using q2)
  rw [PyData.shown] at hz fin
  rw [PyData.depth] at hp
  obtain ⟨bs, hb, hk⟩ := h.rk I rv (by simpa [PyData.showable] using hs) fun t ht => Nat.le_trans (listText_mem_le ht) hz
  have hn := not_mem_of_deeper rd (by simp only [PyData.depth]; omega) hb
  refine call_repr_slot (by omega) ⟨_, eo, rfl⟩ F.slot_list_repr.toG ?_
  cases its with
  | nil =>
   cases q2
   rw [PyData.shownAll, listText_nil] at fin
   exact call_list_repr_empty ⟨_, eo, rfl⟩ eo rfl ⟨_, _, rfl, fin s.heap _ _ fun _ _ e => e⟩
  | cons y l =>
   refine call_list_reprK eo rfl rfl hn ?_ (fun i z ez => hk.item i z ?_) hg (fun b _ => Clear.nil b) ?_ (fun _ _ e => e) (fun h' u tk hk' => ⟨_, _, rfl, fin h' u tk hk'⟩) hz
   ·have := hk.length_eq
    simpa using this
   ·simpa using ez
   ·show X.A.units + 1 + (PyData.depthAll ds + 1) < cLine
    omega
 | tup e h =>
  rename_i a xs ds
  cases ru
  obtain ⟨_, its, rv, o, h1, h2, n, h3⟩ := I.hok _ _ e
  obtain ⟨as, q2⟩ := h.reads I rv
  have rd : Reads s.heap (.ref a) (.tuple ds) as := .tuple h1 h2 h3 (by simpa using q2)
  rw [PyData.shown] at hz fin
  rw [PyData.depth] at hp
  obtain ⟨bs, hb, hk⟩ := h.rk I rv (by simpa [PyData.showable] using hs) fun t ht => Nat.le_trans (tupleText_mem_le ht) hz
  have hn := not_mem_of_deeper rd (by simp only [PyData.depth]; omega) hb
  refine call_repr_slot (by omega) ⟨_, h1, h2⟩ F.slot_tuple_repr (call_tuple_reprK h1 h2 h3 hn (by simpa using hk) hg (fun b _ => Clear.nil b) ?_ (fun _ _ e => e) (fun h' u tk hk' => ⟨_, _, rfl, fin h' u tk hk'⟩) hz)
  show X.A.units + 1 + (PyData.depthAll ds + 1) < cLine
  omega
 | dct e =>
  rename_i a
  cases ru
  obtain ⟨z, y, vs, rv, ob, es, ep, h1, h2, h3, _, h5, _⟩ := I.hok _ _ e
  cases rv
  have he : es.toList = [] := by
   cases hh : es.toList with
   | nil => rfl
   | cons x r => rw [hh] at h5; cases h5
  have ht : (PyData.dict []).shown = dictText [] := by simp only [PyData.shown, PyData.shownKv]
  rw [ht] at hz fin
  refine call_repr_slot (by omega) ⟨_, h1, h2.1⟩ F.slot_dict_repr (call_dict_reprK (as := []) (d := 0) (ps := []) h1 h2.1 h3 y (fun h => (nomatch h)) (by rw [he]; exact .nil) hg (fun b _ => Clear.nil b) ?_ (fun _ _ e => e) (fun h' u tk hk' => ⟨_, _, rfl, fin h' u tk hk'⟩) hz)
  show X.A.units + 1 + (0 + 1) < cLine
  omega
end
end L2
namespace L2
open PySem PySem.Spec PyProof.Rows
noncomputable def msk (S : Addr → Prop) (H : Hp) : Hp := fun b => open Classical in if S b then none else H b
theorem msk_in {S : Addr → Prop} {H : Hp} {b : Addr} (h : ¬ S b) : msk S H b = H b := if_neg h
theorem msk_some {S : Addr → Prop} {H : Hp} {b : Addr} {o : HO} (h : msk S H b = some o) : ¬ S b ∧ H b = some o := by
 unfold msk at h
 split at h
 ·cases h
 ·exact ⟨by assumption, h⟩
theorem msk_le {S : Addr → Prop} {H : Hp} : Same (msk S H) H := fun _ _ h => (msk_some h).2
theorem msk_same {S : Addr → Prop} {H H' : Hp} (g : Same H H') : Same (msk S H) (msk S H') := fun b o h => by
 obtain ⟨n, e⟩ := msk_some h
 rw [msk_in n]
 exact g b o e
structure Fine (n k : Nat) (d : PyData) : Prop where
 show_ : d.showable = true
 leaf : d.leavesShort 40 = true
 bulk : d.bulk ≤ n
 deep : d.depth ≤ k
def Th (H : Hp) (v : V) (n k : Nat) : Prop := ∃ d, Dat H v d ∧ Fine n k d
theorem Th.same {H H' : Hp} {v : V} {n k : Nat} (h : Th H v n k) (g : Same H H') : Th H' v n k := by
 obtain ⟨d, a, b⟩ := h
 exact ⟨d, a.same g, b⟩
theorem Th.mono {H : Hp} {v : V} {n k n' k' : Nat} (h : Th H v n k) (hn : n ≤ n') (hk : k ≤ k') : Th H v n' k' := by
 obtain ⟨d, a, b⟩ := h
 exact ⟨d, a, b.show_, b.leaf, Nat.le_trans b.bulk hn, Nat.le_trans b.deep hk⟩
theorem Fine.len {n k : Nat} {d : PyData} (h : Fine n k d) (hn : n ≤ 10000) : d.shown.length ≤ sizeLine := by
 have q := PyData.shown_le_bulk 40 (by decide) d h.leaf
 have b := h.bulk
 have e : sizeLine = 2 ^ 24 := rfl
 rw [e]
 omega
theorem Th.non {H : Hp} {n k : Nat} : Th H .non n k := ⟨_, .non, rfl, rfl, Nat.zero_le _, Nat.zero_le _⟩
theorem Th.bl {H : Hp} {n k : Nat} (b : Bool) : Th H (.bl b) n k := ⟨_, .bl b, rfl, rfl, Nat.zero_le _, Nat.zero_le _⟩
theorem Th.int {H : Hp} {n k : Nat} {i : Int} (h : i.natAbs < 10 ^ 30) : Th H (.int i) n k := by
 refine ⟨_, .int i, ?_, ?_, Nat.zero_le _, Nat.zero_le _⟩
 ·rw [PyData.showable]
  refine decide_eq_true ?_
  by_cases z : i.natAbs = 0
  ·rw [z]; decide
  ·exact (Nat.log2_lt z).mpr (Nat.lt_trans h (Nat.lt_of_lt_of_le (show 10 ^ 30 < 2 ^ 100 by decide) (Nat.pow_le_pow_right (by decide) (by decide))))
 ·have q := int_text_length_le10 (k := 30) (by decide) h
  simp only [PyData.leavesShort, PyData.shown_int, decide_eq_true_eq]
  rw [PySem.ofString_length]
  omega
theorem Th.str {H : Hp} {n k : Nat} {x : Str} (h1 : x.cps.toList.all (fun c => decide (c < 16 ^ 8)) = true) (h2 : x.cps.size ≤ n) : Th H (.str x) n k := ⟨_, .str x, rfl, by rw [PyData.leavesShort]; exact h1, h2, Nat.zero_le _⟩
theorem things {H : Hp} {n k : Nat} : ∀ {xs : List V}, (∀ x ∈ xs, Th H x n k) → ∃ ds, DatAll H xs ds ∧ PyData.showableAll ds = true ∧ PyData.leavesShortAll 40 ds = true ∧ PyData.bulkAll ds ≤ xs.length * (n + 1) ∧ PyData.depthAll ds ≤ k
 | [], _ => ⟨[], .nil, rfl, rfl, Nat.zero_le _, Nat.zero_le _⟩
 | x :: r, h => by
  obtain ⟨d, q, f⟩ := h x List.mem_cons_self
  obtain ⟨ds, q2, a, b, c, e⟩ := things fun y hy => h y (List.mem_cons_of_mem _ hy)
  refine ⟨d :: ds, .cons q q2, ?_, ?_, ?_, ?_⟩
  ·rw [PyData.showableAll, f.show_, a]; rfl
  ·rw [PyData.leavesShortAll, f.leaf, b]; rfl
  ·have := f.bulk
   rw [PyData.bulkAll, List.length_cons, Nat.succ_mul]
   omega
  ·have := f.deep
   rw [PyData.depthAll]
   omega
theorem Th.lst {H : Hp} {a : Addr} {xs : List V} {n k : Nat} (e : H a = some (.lst xs)) (h : ∀ x ∈ xs, Th H x n k) : Th H (.ref a) (xs.length * (n + 1)) (k + 1) := by
 obtain ⟨ds, q, a1, a2, a3, a4⟩ := things h
 refine ⟨_, .lst e q, ?_, ?_, ?_, ?_⟩
 ·rw [PyData.showable]; exact a1
 ·rw [PyData.leavesShort]; exact a2
 ·rw [PyData.bulk]; exact a3
 ·rw [PyData.depth]; omega
theorem Th.tup {H : Hp} {a : Addr} {xs : List V} {n k : Nat} (e : H a = some (.tup xs)) (h : ∀ x ∈ xs, Th H x n k) : Th H (.ref a) (xs.length * (n + 1)) (k + 1) := by
 obtain ⟨ds, q, a1, a2, a3, a4⟩ := things h
 refine ⟨_, .tup e q, ?_, ?_, ?_, ?_⟩
 ·rw [PyData.showable]; exact a1
 ·rw [PyData.leavesShort]; exact a2
 ·rw [PyData.bulk]; exact a3
 ·rw [PyData.depth]; omega
theorem Th.dct {H : Hp} {a : Addr} {n k : Nat} (e : H a = some (.dK [])) : Th H (.ref a) n (k + 1) := ⟨_, .dct e, rfl, rfl, Nat.zero_le _, by simp [PyData.depth, PyData.depthKv]⟩
theorem pick_any {xs : List V} {r : Int} (h0 : 0 ≤ r) (h1 : r < (xs.length : Nat)) : ∃ v, atI xs r = some v ∧ v ∈ xs := by
 have hj : r.toNat < xs.length := by omega
 have e : r = ((r.toNat : Nat) : Int) := by omega
 refine ⟨xs[r.toNat], ?_, List.getElem_mem hj⟩
 have q : atI xs ((r.toNat : Nat) : Int) = some xs[r.toNat] := atI_nat (List.getElem?_eq_getElem hj)
 rw [← e] at q
 exact q
def tyD : PyData → String
 | .none => "NoneType" | .bool _ => "bool" | .int _ => "int" | .str _ => "str" | .list _ => "list" | .tuple _ => "tuple" | .dict _ => "dict"
theorem Dat.ty {K : PySem.W.Frag} {H : Hp} {v : V} {d : PyData} (h : Dat H v d) : TyOf K H v (.type (tyD d)) := by
 cases h with
 | non => exact .non
 | bl b => exact .bl b
 | int i => exact .int i
 | str x => exact .str x
 | lst e _ => exact .lst e
 | tup e _ => exact .tup e
 | dct e => exact .dK e
def isL : PyData → Bool
 | .list _ => true
 | _ => false
def isT : PyData → Bool
 | .tuple _ => true
 | _ => false
def isI : PyData → Bool
 | .int _ => true
 | .bool _ => true
 | _ => false
def isB : PyData → Bool
 | .bool _ => true
 | _ => false
def isW : PyData → Bool
 | .int _ => true
 | _ => false
theorem kit_l (K : PySem.W.Frag) (d : PyData) : PySem.W.kitOne K (.type (tyD d)) (.type "list") = some (isL d) := by cases d <;> rfl
theorem kit_t (K : PySem.W.Frag) (d : PyData) : PySem.W.kitOne K (.type (tyD d)) (.type "tuple") = some (isT d) := by cases d <;> rfl
theorem kit_i (K : PySem.W.Frag) (d : PyData) : PySem.W.kitOne K (.type (tyD d)) (.type "int") = some (isI d) := by cases d <;> rfl
theorem kit_b (K : PySem.W.Frag) (d : PyData) : PySem.W.kitOne K (.type (tyD d)) (.type "bool") = some (isB d) := by cases d <;> rfl
def riseGo : Int → List PyData → Bool
 | _, [] => true
 | b, .int n :: r => decide (b < n) && riseGo n r
 | _, _ :: _ => false
def riseD (few : Int) : PyData → Bool
 | .list ds => decide (few ≤ (ds.length : Int)) && (decide (ds.length ≤ 10) && riseGo (-1) ds)
 | _ => false
def planD : PyData → Bool
 | .tuple [x, y] => riseD 1 x && riseD 0 y
 | _ => false
theorem DatAll.len {H : Hp} : ∀ {xs : List V} {ds : List PyData}, DatAll H xs ds → xs.length = ds.length
 | _, _, .nil => rfl
 | _, _, .cons _ h => by rw [List.length_cons, List.length_cons, h.len]
theorem DatAll.at {H : Hp} : ∀ {xs : List V} {ds : List PyData} (_ : DatAll H xs ds) {i : Nat} {x : V}, xs[i]? = some x → ∃ d, ds[i]? = some d ∧ Dat H x d
 | _, _, .nil, i, x, h => nomatch h
 | _, _, .cons q _, 0, x, h => by cases h; exact ⟨_, rfl, q⟩
 | _, _, .cons _ t, i + 1, x, h => by
  obtain ⟨d, e, q⟩ := t.at (i := i) (x := x) h
  exact ⟨d, e, q⟩
section
variable {X : Cx}
end
end L2
namespace L2
open PySem PySem.Spec PyProof.Rows
abbrev NK := Option Int × List Key
def optI : Option Int → V
 | none => .non
 | some i => .int i
def hashOI : Option Int → Int
 | none => 0xFCA86420
 | some i => hashInt i
theorem optI_flat : ∀ o : Option Int, flatV (optI o) = true
 | none => rfl
 | some _ => rfl
theorem optI_inj : ∀ {x y : Option Int} {v : Value}, RelV (optI x) v → RelV (optI y) v → x = y
 | none, none, _, _, _ => rfl
 | none, some i, v, h1, ⟨t, h2⟩ => by cases h1; cases h2
 | some i, none, v, ⟨t, h1⟩, h2 => by cases h2; cases h1
 | some i, some j, v, ⟨t, h1⟩, ⟨u, h2⟩ => by rw [h1] at h2; cases h2; rfl
theorem optI_eq : ∀ x y : Option Int, eqV (optI x) (optI y) = decide (x = y)
 | none, none => rfl
 | none, some _ => rfl
 | some _, none => rfl
 | some i, some j => by
  show (i == j) = decide (some i = some j)
  rw [Bool.eq_iff_iff, beq_iff_eq, decide_eq_true_iff]
  exact ⟨fun h => by rw [h], fun h => Option.some.inj h⟩
section
variable {P : Program} {w : World}
def IsNK (P : Program) (w : World) (h : Heap) (k : NK) (a : Addr) : Prop :=
 ∃ o v b n, h.get? a = some o ∧ o.cls = .type "tuple" ∧ o.data = .seq #[v, .ref b] n ∧ RelV (optI k.1) v ∧ (tupleKind (mixKind P w)).is h k.2 b
def nkHash (w : World) (k : NK) : Int := reduceHash (Builtin.Tuple.tupleHashOf [hashOI k.1, reduceHash (Builtin.Tuple.tupleHashOf (k.2.map (keyH w)))])
section
variable {A : Around} {E : Value → Shared → Prop} {s : Shared} {a b : Addr} {v u v' u' : Value} {n n' : Nat}
def IsPr (h : Heap) (a : Addr) (v u : Value) : Prop := ∃ o n, h.get? a = some o ∧ o.cls = .type "tuple" ∧ o.data = .seq #[v, u] n
theorem IsPr.ty (x : IsPr s.heap a v u) : s.TypeIs (.ref a) "tuple" := x.elim fun o z => z.elim fun _ y => ⟨o, y.1, y.2.1⟩
theorem IsPr.items {M : Model} {Q : Array Value → Shared → Prop} (x : IsPr s.heap a v u) (q : Q #[v, u] s) : wpAny M A (Builtin.Tuple.tupleItemsOf (.ref a)) Q E s := x.elim fun _ z => z.elim fun _ y => wpAny_tupleItemsOf y.1 y.2.2 q
theorem hash_pair {x y : Int} {k1 k2 : Nat} {Q : Int → Shared → Prop} (hu : A.units < cLine) (pr : IsPr s.heap a v u)
  (h1 : ∀ (Q' : Int → Shared → Prop), Q' x { s with toks := s.toks + k1 } → wpAny (model P w) A.in1 (pyHash v) Q' E s)
  (h2 : ∀ (Q' : Int → Shared → Prop), Q' y { s with toks := s.toks + k1 + k2 } → wpAny (model P w) A.in1 (pyHash u) Q' E { s with toks := s.toks + k1 })
  (q : Q (reduceHash (Builtin.Tuple.tupleHashOf [x, y])) { s with toks := s.toks + k1 + k2 + 1 }) : wpAny (model P w) A (pyHash (.ref a)) Q E s := by
 have look := fun {Q' : Option Value → Shared → Prop} (z : Q' (some (.builtin "tuple.__hash__")) s) => wpAny_specialOf (M := model P w) (A := A) (E := E) pr.ty F.slot_tuple_hash.lookup z
 have body : wpAny (model P w) A.in1 (Builtin.«tuple.__hash__» ⟨[.ref a], []⟩) (fun fin s' => ∃ r, fin = .done (.ret r) ∧ ∃ t, r = .int (Builtin.Tuple.tupleHashOf [x, y]) t ∧ s' = { s with toks := s.toks + k1 + k2 + 1 }) E s := by
  change wpAny _ _ (Builtin.Tuple.tupleItemsOf (.ref a) >>= _) _ _ s
  refine wpAny_bind (pr.items (wpAny_bind ?l))
  case l =>
   rw [← Array.forIn_toList]
   change wpAny _ _ (forIn [v, u] _ _) _ _ s
   simp only [List.forIn_cons, List.forIn_nil]
   refine wpAny_bind (wpAny_bind (h1 _ (wpAny_pure ?_)))
   change wpAny _ _ (_ >>= _) _ _ _
   refine wpAny_bind (wpAny_bind (h2 _ (wpAny_pure (wpAny_pure ?_))))
   change wpAny _ _ (retInt (Builtin.Tuple.tupleHashOf [x, y])) _ _ _
   exact wpAny_ret_mkInt ⟨_, rfl, rfl⟩
 unfold pyHash
 first | unfold pyHashByItsType | skip
 first | refine wpAny_bind (wpAny_cRoomFor_or (Or.inr hu) ?_) | skip
 refine wpAny_bind (look ?_)
 rw [if_neg (show ¬ (some (Value.builtin "tuple.__hash__") == some Value.none) = true by rw [beq_builtin_none]; exact Bool.false_ne_true)]
 refine wpAny_bind (look (wpAny_bind (wpAny_callSpecialIfBoundUnlessNone?_slot pr.ty F.slot_tuple_hash (wpAny_call_entry F.slot_tuple_hash pr.ty F.entry_tuple_hash (wpAny_mono body ?k fun _ _ z => z) (F.args_tuple_hash_1 _)))))
 case k =>
  rintro fin s' ⟨r, e1, t, e2, e3⟩
  subst e1 e2 e3
  refine ⟨_, rfl, ?_⟩
  unfold reduceHash at q
  generalize Builtin.Tuple.tupleHashOf [x, y] = hv at q ⊢
  change wpAny _ _ (if (decide (-(2 : Int) ^ 63 ≤ hv) && decide (hv < 2 ^ 63)) = true then _ else _) Q E _
  by_cases hr : (decide (-(2 : Int) ^ 63 ≤ hv) && decide (hv < 2 ^ 63)) = true
  ·rw [if_pos hr] at q ⊢; exact wpAny_pure q
  ·rw [if_neg hr] at q ⊢; exact wpAny_bind (wpAny_rule (wpAny_pure q))
theorem eq_pair {p q : Bool} {Q : Bool → Shared → Prop} (hu : A.units < cLine) (x : IsPr s.heap a v u) (y : IsPr s.heap b v' u') (same : a = b → (p && q) = true)
  (h1 : ∀ Q' : Bool → Shared → Prop, Q' p s → wpAny (model P w) A.in1 (eqBool v v') Q' E s) (h2 : ∀ Q' : Bool → Shared → Prop, Q' q s → wpAny (model P w) A.in1 (eqBool u u') Q' E s)
  (h : Q (p && q) s) : wpAny (model P w) A (eqBool (.ref a) (.ref b)) Q E s := by
 have body : wpAny (model P w) A.in1 (Builtin.«tuple.__eq__» ⟨[.ref a, .ref b], []⟩) (fun fin s' => fin = .done (.ret (.bool (p && q))) ∧ s' = s) E s := by
  change wpAny _ _ (isInstance (.ref b) (.type "tuple") >>= _) _ _ s
  refine wpAny_bind (wpAny_isInstance y.ty isSubtype_tuple_tuple ?i)
  case i =>
   simp only [Bool.not_true, Bool.false_eq_true, if_false]
   refine wpAny_bind (x.items (wpAny_bind (y.items (wpAny_bind ?l))))
   case l =>
    change wpAny _ _ (forIn [(v, v'), (u, u')] _ _) _ _ s
    simp only [List.forIn_cons, List.forIn_nil]
    refine wpAny_bind (wpAny_bind (h1 _ ?_))
    cases p with
    | false => exact wpAny_bind (wpAny_pure (wpAny_pure (wpAny_pure (wpAny_pure ⟨rfl, rfl⟩))))
    | true =>
     refine wpAny_pure ?_
     change wpAny _ _ (_ >>= _) _ _ _
     refine wpAny_bind (wpAny_bind (h2 _ ?_))
     cases q with
     | false => exact wpAny_bind (wpAny_pure (wpAny_pure (wpAny_pure (wpAny_pure ⟨rfl, rfl⟩))))
     | true => exact wpAny_pure (wpAny_pure (wpAny_pure ⟨rfl, rfl⟩))
 unfold eqBool
 try with_reducible refine wpAny_holding ?_
 change wpAny _ _ (if (Value.ref a == Value.ref b) = true then _ else _) Q E s
 by_cases e : a = b
 ·rw [if_pos (by rw [e]; exact beq_self_eq_true _)]
  rw [same e] at h
  exact wpAny_bind (wpAny_rule (wpAny_pure h))
 ·rw [if_neg fun z => e (Value.ref.inj (eq_of_beq z))]
  refine wpAny_bind (wpAny_richCompare_same_room (op := .Eq) x.ty y.ty F.slot_tuple_eq (wpAny_call_entry F.slot_tuple_eq x.ty F.entry_tuple_eq (wpAny_mono body ?k fun _ _ z => z) (F.args_tuple_eq_2 _ _)) hu)
  case k =>
   rintro fin s' ⟨e1, e2⟩
   subst e1 e2
   exact ⟨_, rfl, Value.noConfusion, wpAny_truthy_bool h⟩
theorem quiet_tup {m : Nat} {xs : Array Value} {o : Obj} {k : Nat} {Q : Bool → Shared → Prop} (ho : s.heap.get? a = some o) (hc : o.cls = .type "tuple") (hd : o.data = .seq xs k)
  (each : ∀ z ∈ xs.toList, ∀ Q' : Bool → Shared → Prop, Q' true s → wpAny (model P w) A (eqIsQuiet m z) Q' E s) (h : Q true s) : wpAny (model P w) A (eqIsQuiet (m + 1) (.ref a)) Q E s := by
 have ty : s.TypeIs (.ref a) "tuple" := ⟨o, ho, hc⟩
 unfold eqIsQuiet
 refine wpAny_bind (wpAny_specialOf ty F.slot_tuple_eq.lookup ?i)
 case i =>
  change wpAny _ _ (isInstance (.ref a) (.type "tuple") >>= _) _ _ s
  refine wpAny_bind (wpAny_isInstance ty isSubtype_tuple_tuple ?j)
  case j =>
   simp only [Bool.not_true, Bool.false_eq_true, if_false]
   refine wpAny_bind (wpAny_seqItems ho hd (wpAny_bind ?l))
   case l =>
    change wpAny _ _ (forIn xs _ _) _ _ s
    rw [← Array.forIn_toList]
    refine wpAny_forIn_list _ (fun rest r s' => (r.1 = none ∧ s' = s) ∧ ∀ z ∈ rest, z ∈ xs.toList) _ ?st ?en _ _ ⟨⟨rfl, rfl⟩, fun z hz => hz⟩
    case st =>
     rintro z rest r s' ⟨⟨hr, rfl⟩, sub⟩
     refine wpAny_bind (each z (sub z List.mem_cons_self) _ ?_)
     exact wpAny_pure ⟨⟨rfl, rfl⟩, fun y hy => sub y (List.mem_cons_of_mem _ hy)⟩
    case en =>
     rintro ⟨r1, r2⟩ s' ⟨⟨hr, rfl⟩, _⟩
     cases (show r1 = none from hr)
     exact wpAny_pure h
end
theorem IsNK.pr {h : Heap} {k : NK} {a : Addr} (x : IsNK P w h k a) : ∃ v b, IsPr h a v (.ref b) ∧ RelV (optI k.1) v ∧ (tupleKind (mixKind P w)).is h k.2 b := by
 obtain ⟨o, v, b, n, h1, h2, h3, h4, h5⟩ := x
 exact ⟨v, b, ⟨o, n, h1, h2, h3⟩, h4, h5⟩
theorem IsPr.uniq {h : Heap} {a : Addr} {v u v' u' : Value} (x : IsPr h a v u) (y : IsPr h a v' u') : v = v' ∧ u = u' := by
 obtain ⟨o, n, h1, _, h2⟩ := x
 obtain ⟨o', n', k1, _, k2⟩ := y
 have e : o = o' := Option.some.inj (h1 ▸ k1)
 rw [e, k2] at h2
 have z := congrArg Array.toList (Data.seq.inj h2).1
 simp only [List.cons.injEq, and_true] at z
 exact ⟨z.1.symm, z.2.symm⟩
theorem IsNK.inj {h : Heap} {a : Addr} {x y : NK} (hx : IsNK P w h x a) (hy : IsNK P w h y a) : x = y := by
 obtain ⟨v, b, p, r, q⟩ := hx.pr
 obtain ⟨v', b', p', r', q'⟩ := hy.pr
 obtain ⟨e1, e2⟩ := p.uniq p'
 subst e1
 cases e2
 exact Prod.ext (optI_inj r r') ((tupleKind (mixKind P w)).inj q q')
theorem IsNK.keeps {h h' : Heap} {k : NK} {a d : Addr} {o : Obj} {es ep} (x : IsNK P w h k a) (ho : h.get? d = some o) (hd : o.data = .dict es ep) (hs : Heap.SameBut d h h') : IsNK P w h' k a := by
 obtain ⟨o', v, b, n, h1, h2, h3, h4, h5⟩ := x
 refine ⟨o', v, b, n, (hs.2 a fun e => ?_).trans h1, h2, h3, h4, (tupleKind (mixKind P w)).keeps h5 ho hd hs⟩
 rw [e, ho] at h1
 cases h1
 exact absurd (hd.symm.trans h3) (fun z => nomatch z)
section
variable {A : Around} {E : Value → Shared → Prop} {s : Shared} {a b : Addr}
theorem oi_hash {o : Option Int} {v : Value} {Q : Int → Shared → Prop} (r : RelV (optI o) v) (h : Q (hashOI o) { s with toks := s.toks + 1 }) : wpAny (model P w) A (pyHash v) Q E s := by
 cases o with
 | some i =>
  obtain ⟨t, rfl⟩ := r
  exact wpAny_pyHash_int h
 | none =>
  cases r
  have ty : s.TypeIs Value.none "NoneType" := rfl
  have look := fun {Q' : Option Value → Shared → Prop} (z : Q' (some (.builtin "NoneType.__hash__")) s) => wpAny_specialOf (M := model P w) (A := A) (E := E) ty PySem.F.slot_NoneType_hash.lookup z
  have body : wpAny (model P w) A.in1 (Builtin.«NoneType.__hash__» ⟨[.none], []⟩) (fun fin s' => ∃ u, fin = .done (.ret u) ∧ ∃ t, u = .int 0xFCA86420 t ∧ s' = { s with toks := s.toks + 1 }) E s := by
   change wpAny _ _ (retInt 0xFCA86420) _ _ _
   exact wpAny_ret_mkInt ⟨_, rfl, rfl⟩
  unfold pyHash
  refine wpAny_bind ?_
  rw [cRoomFor, if_neg (show ¬ [Value.none].any Value.onHeap = true from Bool.false_ne_true)]
  refine wpAny_pure (wpAny_bind (look ?_))
  rw [if_neg (show ¬ (some (Value.builtin "NoneType.__hash__") == some Value.none) = true by rw [beq_builtin_none]; exact Bool.false_ne_true)]
  refine wpAny_bind (look (wpAny_bind (wpAny_callSpecialIfBoundUnlessNone?_slot ty PySem.F.slot_NoneType_hash (wpAny_call_entry PySem.F.slot_NoneType_hash ty PySem.F.entry_NoneType_hash (wpAny_mono body ?k fun _ _ z => z) (PySem.F.args_NoneType_hash_1 _)))))
  case k =>
   rintro fin s' ⟨u, e1, t, e2, e3⟩
   subst e1 e2 e3
   refine ⟨_, rfl, ?_⟩
   change wpAny _ _ (if (decide (-(2 : Int) ^ 63 ≤ 0xFCA86420) && decide ((0xFCA86420 : Int) < 2 ^ 63)) = true then _ else _) Q E _
   rw [if_pos (by decide)]
   exact wpAny_pure h
theorem nk_hash {k : NK} {Q : Int → Shared → Prop} (hu : A.units + 1 < cLine) (hk : IsNK P w s.heap k a) (h : Q (nkHash w k) { s with toks := s.toks + (k.2.length + 3) }) : wpAny (model P w) A (pyHash (.ref a)) Q E s := by
 obtain ⟨v, b, p, r, q⟩ := hk.pr
 have e : s.toks + 1 + (k.2.length + 1) + 1 = s.toks + (k.2.length + 3) := by omega
 exact hash_pair (x := hashOI k.1) (y := reduceHash (Builtin.Tuple.tupleHashOf (k.2.map (keyH w)))) (k1 := 1) (k2 := k.2.length + 1) (by omega) p (fun Q' z => oi_hash r z)
  (fun Q' z => (tupleKind (mixKind P w)).pyHash (k := k.2) (s := { s with toks := s.toks + 1 }) hu q z) (by rw [e]; exact h)
theorem nk_eqBool {x y : NK} {Q : Bool → Shared → Prop} (hu : A.units + 1 < cLine) (hx : IsNK P w s.heap x a) (hy : IsNK P w s.heap y b) (h : Q (decide (x = y)) s) : wpAny (model P w) A (eqBool (.ref a) (.ref b)) Q E s := by
 obtain ⟨v, c, p, r, q⟩ := hx.pr
 obtain ⟨v', c', p', r', q'⟩ := hy.pr
 have e : (decide (x.1 = y.1) && decide (x.2 = y.2)) = decide (x = y) := by
  rw [← Bool.decide_and]
  exact decide_eq_decide.mpr ⟨fun z => Prod.ext z.1 z.2, fun z => by rw [z]; exact ⟨rfl, rfl⟩⟩
 refine eq_pair (p := decide (x.1 = y.1)) (q := decide (x.2 = y.2)) (by omega) p p' (fun z => ?_) (fun Q' z => eqAt_V r r' (optI_flat _) (optI_flat _) P w _ _ (by rw [optI_eq]; exact z)) (fun Q' z => (tupleKind (mixKind P w)).eqBool (x := x.2) (y := y.2) hu q q' z) (by rw [e]; exact h)
 subst z
 rw [e]
 exact decide_eq_true (hx.inj hy)
theorem nk_quiet {k : NK} {Q : Bool → Shared → Prop} (hk : IsNK P w s.heap k a) (h : Q true s) : wpAny (model P w) A (eqIsQuiet 8 (.ref a)) Q E s := by
 obtain ⟨v, b, ⟨o, n, h1, h2, h3⟩, r, o', xs, m, k1, k2, k3, k4⟩ := hk.pr
 refine quiet_tup (m := 7) h1 h2 h3 (fun z hz Q' q => ?_) h
 have hz' : z = v ∨ z = .ref b := by simpa using hz
 rcases hz' with rfl | rfl
 ·have bv : carriedByValue z = true := by
   cases hk1 : k.1 with
   | none => rw [hk1] at r; cases r; rfl
   | some i => rw [hk1] at r; obtain ⟨t, rfl⟩ := r; rfl
  rw [eqIsQuiet_byValue _ bv]; exact wpAny_pure q
 ·exact quiet_tup (m := 6) k1 k2 k3 (fun y hy Q'' q2 => by rw [eqIsQuiet_byValue _ (k4.byValue y hy)]; exact wpAny_pure q2) q
end
end
def nestKind (P : Program) (w : World) : HeapKind P w NK where
 is := IsNK P w
 hash := nkHash w
 draws := fun k => k.2.length + 3
 room := fun A => A.units + 1 < cLine
 inj := fun hx hy => hx.inj hy
 keeps := fun x ho hd hs => x.keeps ho hd hs
 pyHash := fun hu hk h => nk_hash hu hk h
 eqBool := fun hu hx hy h => nk_eqBool hu hx hy h
 quiet := fun hk h => nk_quiet hk h
end L2
namespace L2
open PySem PySem.Spec PyProof.Rows
def NDφ (P : Program) (w : World) (a : Addr) (xs : List (NK × Addr × Value)) : Heap → Prop := fun h =>
 ∃ o es ep, h.get? a = some o ∧ o.ExactDict ∧ o.data = .dict es ep ∧ es.toList = xs.map (entryOfKey (nestKind P w)) ∧ (xs.map (·.1)).Nodup
def NKat (H : Hp) (k : NK) (b : Addr) : Prop := ∃ c, H b = some (.tup [optI k.1, .ref c]) ∧ H c = some (.tup (k.2.map kV))
theorem NKat.tups {H H' : Hp} {k : NK} {b : Addr} (h : NKat H k b) (ht : ∀ b ys, H b = some (.tup ys) → H' b = some (.tup ys)) : NKat H' k b := let ⟨c, h1, h2⟩ := h; ⟨c, ht _ _ h1, ht _ _ h2⟩
abbrev KN (H : Hp) : List (NK × V) → List (NK × Addr × Value) → Prop := Paired fun p q => p.1 = q.1 ∧ NKat H p.1 q.2.1 ∧ RelV p.2 q.2.2
def NDict (P : Program) (w : World) (H : Hp) (a : Addr) (kvs : List (NK × V)) : Prop := ∃ xs, H a = some (.ext (NDφ P w a xs)) ∧ KN H kvs xs ∧ kvs.length ≤ sizeLine ∧ (a == sysModules) = false
theorem KN.val {H : Hp} {kvs : List (NK × V)} {xs : List (NK × Addr × Value)} (r : KN H kvs xs) (k : NK) : RelO (valV kvs k) ((atKey xs k).map (·.2)) := by
 induction r with
 | nil => exact True.intro
 | @cons p q ps qs h t ih =>
  obtain ⟨h1, _, h2⟩ := h
  by_cases e : p.1 = k
  ·have e' : q.1 = k := h1.symm.trans e
   have b : atKey (q :: qs) k = some q.2 := by simp [atKey, List.find?_cons, e']
   rw [valV_pos e, b]; exact h2
  ·have e' : ¬ q.1 = k := fun z => e (h1.trans z)
   have b : atKey (q :: qs) k = atKey qs k := by simp [atKey, List.find?_cons, e']
   rw [valV_neg e, b]; exact ih
theorem KN.repl {H : Hp} {kvs : List (NK × V)} {xs : List (NK × Addr × Value)} (r : KN H kvs xs) (k : NK) {y : V} {u : Value} (ry : RelV y u) :
  KN H (kvs.map fun kv => if kv.1 = k then (kv.1, y) else kv) (xs.map (putAt k u)) := by
 induction r with
 | nil => exact .nil
 | @cons p q ps qs h t ih =>
  rw [List.map_cons, List.map_cons]
  refine .cons ?_ ih
  obtain ⟨h1, h2, h3⟩ := h
  unfold putAt
  by_cases e : p.1 = k
  ·rw [if_pos e, if_pos (h1.symm.trans e)]; exact ⟨h1, h2, ry⟩
  ·rw [if_neg e, if_neg (fun z => e (h1.trans z))]; exact ⟨h1, h2, h3⟩
theorem KN.put {H : Hp} {kvs : List (NK × V)} {xs : List (NK × Addr × Value)} (r : KN H kvs xs) (k : NK) {b : Addr} {y : V} {u : Value} (hb : NKat H k b) (ry : RelV y u) :
  KN H (putK kvs k y) (storedH xs k b u) := by
 have e : (kvs.any fun kv => decide (kv.1 = k)) = (atKey xs k).isSome := by
  rw [valV_any, (r.val k).isSome_eq, Option.isSome_map]
 unfold putK storedH
 rw [e]
 by_cases q : (atKey xs k).isSome = true
 ·rw [if_pos q, if_pos q]; exact r.repl k ry
 ·rw [if_neg q, if_neg q]; exact Paired.snoc r ⟨rfl, hb, ry⟩
theorem KN.keeps {H H' : Hp} {kvs : List (NK × V)} {xs : List (NK × Addr × Value)} (r : KN H kvs xs) (ht : ∀ b ys, H b = some (.tup ys) → H' b = some (.tup ys)) : KN H' kvs xs :=
 Paired.mapP r fun _ _ z => ⟨z.1, z.2.1.tups ht, z.2.2⟩
theorem NDict.same {P : Program} {w : World} {H H' : Hp} {a : Addr} {kvs : List (NK × V)} (d : NDict P w H a kvs) (g : ∀ b o, H b = some o → H' b = some o) : NDict P w H' a kvs :=
 let ⟨xs, e, r, z, y⟩ := d; ⟨xs, g _ _ e, r.keeps fun b ys h => g _ _ h, z, y⟩
section
variable {P : Program} {w : World} {H : Hp} {h : Heap} {a : Addr}
theorem NKat.is {k : NK} {b : Addr} (ok : HOk P w H h) (e : NKat H k b) : (nestKind P w).is h k b := by
 obtain ⟨c, e1, e2⟩ := e
 obtain ⟨_, its, r, o, h1, h2, n, h3⟩ := (show ObjOk P w H h b (.tup [optI k.1, .ref c]) from ok b _ e1)
 obtain ⟨u, v, rfl, ru, rv⟩ := vals2 r
 cases (show v = Value.ref c from rv)
 exact ⟨o, _, c, n, h1, h2, h3, ru, key_of ok e2⟩
theorem NDict.dict {kvs : List (NK × V)} (ok : HOk P w H h) (d : NDict P w H a kvs) : ∃ xs, KN H kvs xs ∧ h.DictOfH (nestKind P w) a xs := by
 obtain ⟨xs, e, r, _, _⟩ := d
 obtain ⟨⟨o, es, ep, h1, h2, h3, h4, h5⟩, _⟩ := (show ObjOk P w H h a (.ext (NDφ P w a xs)) from ok a _ e)
 refine ⟨xs, r, o, es, ep, h1, h2, h3, h4, fun x hx => ?_, h5⟩
 have all : ∀ {l : List (NK × V)} {m : List (NK × Addr × Value)}, KN H l m → ∀ x ∈ m, (nestKind P w).is h x.1 x.2.1 := by
  intro l m q
  induction q with
  | nil => intro x hx; exact nomatch hx
  | @cons p q ps qs hq t ih =>
   intro x hx
   rcases List.mem_cons.mp hx with e | hx
   ·subst e
    exact NKat.is ok (by rw [← hq.1]; exact hq.2.1)
   ·exact ih x hx
 exact all r x hx
theorem ndφ_stay {xs : List (NK × Addr × Value)} : ∀ h1 h2 : Heap, NDφ P w a xs h1 → (∀ o, h1.get? a = some o → h2.get? a = some o) → NDφ P w a xs h2 :=
 fun _ _ ⟨o, es, ep, e, r⟩ k => ⟨o, es, ep, k _ e, r⟩
end
def tNGet (P : Program) (w : World) (td ty : TE) : TE := fun σ H Q => td σ H fun x H1 => ty σ H1 fun y H2 => ∃ a kvs b k v, x = .ref a ∧ NDict P w H2 a kvs ∧ y = .ref b ∧ NKat H2 k b ∧ valV kvs k = some v ∧ Q v H2
def tNNotIn (P : Program) (w : World) (ty td : TE) : TE := fun σ H Q => ty σ H fun y H1 => td σ H1 fun x H2 => ∃ a kvs b k, x = .ref a ∧ NDict P w H2 a kvs ∧ y = .ref b ∧ NKat H2 k b ∧ Q (.bl (!(valV kvs k).isSome)) H2
def sNPut (P : Program) (w : World) (td ty tv : TE) : TS := fun D σ H => tv σ H fun v H1 => td σ H1 fun x H2 => ty σ H2 fun y H3 => ∃ a kvs b k, x = .ref a ∧ NDict P w H3 a kvs ∧ y = .ref b ∧ NKat H3 k b ∧ kvs.length < sizeLine ∧
 ∀ H4, (∀ c, c ≠ a → H4 c = H3 c) → NDict P w H4 a (putK kvs k v) → D.nx σ H4
def tNNew (P : Program) (w : World) : TE := fun _ H Q => ∀ p H', H p = none → (∀ b o, H b = some o → H' b = some o) → NDict P w H' p [] → Q (.ref p) H'
section
variable {X : Cx} {o i e value : Expr} {pos pos' tpos : Pos} {td ty tv : TE}
theorem pe_nget (hu : X.A.units + 2 < cLine) (ho : PE X o td) (hi : PE X i ty) (hs : NoSl i) : PE X (.Subscript o i pos) (tNGet X.prog X.w td ty) := by
 intro pins s σ H Q I h
 refine subD_of PySem.F.slot_dict_getitem.lookup hs (thn (ho pins s σ H _ I h) fun u s1 ⟨x, H1, I1, rx, q1⟩ => thn (hi pins s1 σ H1 _ I1 q1) fun iv s2 ⟨y, H2, I2, ry, a, kvs, b, k, v, ex, d, ey, hk, hv, q2⟩ => ?_)
 subst ex ey
 obtain rfl : u = Value.ref a := rx
 obtain rfl : iv = Value.ref b := ry
 obtain ⟨xs, rel, dd⟩ := d.dict I2.hok
 obtain ⟨w', hw, rw'⟩ := RelO.some_of (v := v) (o := (atKey xs k).map (·.2)) (by rw [← hv]; exact rel.val k)
 obtain ⟨p, hp, hp2⟩ := Option.map_eq_some_iff.mp hw
 refine ⟨dd.typeIs, wpAny_getItem_heap (knd := nestKind X.prog X.w) hu (hk.is I2.hok) dd hp ?_⟩
 rw [hp2]
 exact ⟨v, H2, I2.tok _, rw', q2⟩
theorem pc_nnotin (hu : X.A.units + 2 < cLine) (hi : PE X i ty) (ho : PE X o td) : PC X .NotIn i o (tNNotIn X.prog X.w ty td) := by
 intro pins s σ H Q I h
 refine thn (hi pins s σ H _ I h) fun iv s1 ⟨y, H1, I1, ry, q1⟩ => thn (ho pins s1 σ H1 _ I1 q1) fun u s2 ⟨x, H2, I2, rx, a, kvs, b, k, ex, d, ey, hk, q2⟩ => ?_
 subst ex ey
 obtain rfl : u = Value.ref a := rx
 obtain rfl : iv = Value.ref b := ry
 have hd : (a == sysModules) = false := let ⟨_, _, _, _, z⟩ := d; z
 obtain ⟨xs, rel, dd⟩ := d.dict I2.hok
 refine wpAny_notIn_heap (knd := nestKind X.prog X.w) hu (hk.is I2.hok) hd dd ?_
 have q := (rel.val k).isSome_eq
 rw [Option.isSome_map] at q
 rw [← q]
 exact ⟨.bl (!(valV kvs k).isSome), H2, I2.tok _, rfl, q2⟩
theorem ps_nput (hu : X.A.units + 2 < cLine) (ho : PE X o td) (hi : PE X i ty) (hv : PE X value tv) (hs : swapsWith value (some (.Subscript o i pos')) pos.line X.env = pure false) :
  PS X (.Assign [.Subscript o i pos'] value pos) (sNPut X.prog X.w td ty tv) := by
 intro pins s σ H D I h
 refine wpAny_Assign_Subscript (thn (hv pins s σ H _ I h) fun r s1 ⟨v, H1, I1, rv, q1⟩ => thn (ho pins s1 σ H1 _ I1 q1) fun u s2 ⟨x, H2, I2, rx, q2⟩ => thn (hi pins s2 σ H2 _ I2 q2) fun iv s3 ⟨y, H3, I3, ry, a, kvs, b, k, ex, d, ey, hk, hl, q3⟩ => ?_) hs
 subst ex ey
 obtain rfl : u = Value.ref a := rx
 obtain rfl : iv = Value.ref b := ry
 obtain ⟨xs, ea, rel, z, hd⟩ := id d
 obtain ⟨xs', rel', dd⟩ := d.dict I3.hok
 have hz : xs'.length ≤ sizeLine := by rw [← Paired.length rel']; exact z
 refine wpAny_setItem_heap (knd := nestKind X.prog X.w) (hsz := hz) hu (hk.is I3.hok) dd fun h' dd' hs' => ?_
 obtain ⟨q, es, ep, hq, h2, h3, h4, _, h5⟩ := dd'
 have ht : ∀ c ys, H3 c = some (.tup ys) → upd H3 a (.ext (NDφ X.prog X.w a (storedH xs' k b r))) c = some (.tup ys) := fun c ys ec => by
  rw [upd_ne (ne_of ec ea (fun z => nomatch z))]; exact ec
 refine ⟨σ, _, d_write (ob := .ext (NDφ X.prog X.w a (storedH xs' k b r))) I3 (by rw [ea]; exact True.intro) hs' ⟨q, hq⟩ ⟨⟨q, es, ep, hq, h2, h3, h4, h5⟩, ⟨q, hq⟩, ndφ_stay⟩, ?_⟩
 refine q3 _ (fun c hc => upd_ne hc) ⟨storedH xs' k b r, upd_same, (rel'.put k hk rv).keeps ht, ?_, hd⟩
 have := length_putK kvs k v
 omega
theorem pe_nnew : PE X (.Dict [] [] pos) (tNNew X.prog X.w) := fun pins s σ H Q I h => by
 have hbig := I.big
 have hne : (s.heap.objs.size == sysModules) = false := beq_eq_false_iff_ne.mpr (Nat.ne_of_gt hbig)
 have new : NDφ X.prog X.w s.heap.objs.size [] (s.heap.push { cls := .type "dict", data := .dict #[] }) := ⟨_, #[], 0, Heap.get?_push_size _ rfl, ⟨rfl, rfl, rfl⟩, rfl, rfl, List.nodup_nil⟩
 have fr := I.hok.fresh (Nat.le_refl s.heap.objs.size)
 refine wpAny_Dict_empty ⟨.ref s.heap.objs.size, _, I.laid (a := s.heap.objs.size) (o := .ext (NDφ X.prog X.w s.heap.objs.size [])) (t' := s.toks) (fun _ _ q => Heap.get?_push_of_some _ q) (Nat.le_refl _) ⟨new, ⟨_, Heap.get?_push_size _ rfl⟩, ndφ_stay⟩, rfl, ?_⟩
 exact h _ _ fr (fun b o hb => by rw [upd_ne (ne_of_none hb fr)]; exact hb) ⟨[], upd_same, .nil, Nat.zero_le _, hne⟩
end
end L2
namespace L2
open PySem PySem.Spec PyProof.Rows
theorem for_enum {a : Addr} {xs : List V} {g : TG} {tb : TS} {D : Ends} {σ : St} {H : Hp} (Pv : Nat → St → Hp → Prop) (h0 : Pv 0 σ H) (hl : ∀ i σ H, i ≤ xs.length → Pv i σ H → H a = some (.lst xs))
  (hs : ∀ i x σ H T, xs[i]? = some x → Pv i σ H → H T = none → g (.ref T) σ (upd H T (.tup [.int (i : Int), x])) fun σ2 H2 => tb { D with nx := Pv (i + 1), ct := Pv (i + 1), bk := D.nx } σ2 H2) (hd : ∀ σ H, Pv xs.length σ H → D.nx σ H) :
  ∃ W : Nat → Nat → St → Hp → Prop, (∃ m, W 0 m σ H) ∧ ∀ i m σ H, W i m σ H →
   ((Ite a).stop i H ∧ D.nx σ H) ∨ ((Ite a).go i H ∧ ∃ N : St → Hp → Prop, (∀ σ' H', N σ' H' → ∃ m', m' < m ∧ W (i + 1) m' σ' H') ∧ ∀ x H', (Ite a).yld i H x H' → g x σ H' fun σ2 H2 => tb { D with nx := N, ct := N, bk := D.nx } σ2 H2) := by
 refine ⟨fun i m σ H => m = xs.length - i ∧ i ≤ xs.length ∧ Pv i σ H, ⟨xs.length, by simp, Nat.zero_le _, h0⟩, ?_⟩
 rintro i m σ H ⟨rfl, hi, p⟩
 have q := hl i σ H hi p
 by_cases hlt : i < xs.length
 ·refine .inr ⟨⟨xs, xs[i], q, List.getElem?_eq_getElem hlt⟩, Pv (i + 1), fun σ' H' p' => ⟨xs.length - (i + 1), by omega, rfl, hlt, p'⟩, fun x H' y => ?_⟩
  obtain ⟨T, ys, u, hT, hy, hu, rfl, rfl⟩ := y
  rw [q] at hy
  cases hy
  exact hs i u σ H T hu p hT
 ·have e : i = xs.length := by omega
  subst e
  exact .inl ⟨⟨xs, q, Nat.le_refl _⟩, hd σ H p⟩
end L2
namespace L2
open PySem PySem.Spec PyProof.Rows
theorem meets_enumT (l : Addr) (xs : Array Value) (n : Nat) (dc : Option Addr) (sl : Array (Option Value)) :
  Meets (Builtin.«enumerate.__new__» ⟨[.type "enumerate", .ref l], []⟩) (fun _ R s => (s.heap.get? l = some { cls := .type "tuple", dict := dc, data := .seq xs n, slots := sl }) ∧
   ∀ h1, h1 = s.heap.push { cls := .type "tuple_iterator", data := .fields #[.ref l, .int 0 0] } → R (.ok (.ret (.ref h1.objs.size))) { s with heap := h1.push { cls := .type "enumerate", data := .fields #[.none, .bool false, .ref s.heap.objs.size, rawInt 0, .none, .none] } }) := by
 refine .of_wp fun prog w A R s h => ?_
 rcases s with ⟨hp, g, d, tk, os⟩
 rcases h with ⟨hl, h⟩
 have hi := @wpAny_pyIter_tuple prog w
 have hsb := sub_enumerate
 have tl : Heap.IsTuple (Shared.heap ⟨hp, g, d, tk, os⟩) l xs := ⟨_, hl, rfl, n, rfl⟩
 have fin := h _ rfl
 (wp_walk using AutoSeq1.wpAny_loadPart' hl)
 apply wpAny_stack_any; intro st; apply wpAny_pure
 split
 case h_1 => rename_i c _ _ _ _ _; cases (c == Value.type "enumerate") <;> ((wp_walk using AutoSeq1.wpAny_loadPart' hl, wpAny_pyIter_tuple tl); exact ⟨_, rfl, fin⟩)
 all_goals ((wp_walk using AutoSeq1.wpAny_loadPart' hl, wpAny_pyIter_tuple tl); exact ⟨_, rfl, fin⟩)
section
variable {prog : Program} {w : World} {A : Around} {E : Value → Shared → Prop} {s : Shared}
theorem call_enumerateT {l : Addr} {xs : Array Value} {Q : Value → Shared → Prop} (hL : s.heap.IsTuple l xs)
  (h : ∀ h', IsEnum h' (s.heap.objs.size + 1) s.heap.objs.size 0 .none → h'.IsTupleIter s.heap.objs.size l 0 → h'.objs.size = s.heap.objs.size + 2 → (∀ b o, s.heap.get? b = some o → h'.get? b = some o) → Q (.ref (s.heap.objs.size + 1)) { s with heap := h' }) :
  wpAny (model prog w) A (call (.type "enumerate") [.ref l]) Q E s := by
 rcases hL with ⟨⟨c, dc, dt, sl⟩, hl, (rfl : c = _), n, (rfl : dt = _)⟩
 refine callType_new F.called_enumerate (by decide) (F.typeCall_enumerate_1 _) (F.newCall_enumerate_1 _) (fun x => F.args_object_init_2 x _) F.entry_enumerate_new (meets_enumT l xs n dc sl) ⟨hl, fun h1 e1 => ?_⟩
 have z1 : h1.objs.size = s.heap.objs.size + 1 := by rw [e1, Heap.size_push]
 have k1 : ∀ b o, s.heap.get? b = some o → h1.get? b = some o := fun b o e => by rw [e1]; exact Heap.get?_push_of_some _ e
 have i1 : h1.IsTupleIter s.heap.objs.size l 0 := ⟨_, by rw [e1]; exact Heap.get?_push_size _ rfl, rfl, rfl⟩
 have en := Heap.get?_push_size h1 (o := { cls := .type "enumerate", data := .fields #[.none, .bool false, .ref s.heap.objs.size, rawInt 0, .none, .none] }) rfl
 rw [z1] at en
 show _ ∧ _
 rw [z1]
 exact ⟨⟨_, en, rfl⟩, h _ en (let ⟨o, a, b⟩ := i1; ⟨o, Heap.get?_push_of_some _ a, b⟩) (by rw [Heap.size_push, z1]) fun b o e => Heap.get?_push_of_some _ (k1 b o e)⟩
theorem step_tup {it t : Addr} {i : Nat} {xs : Array Value} {Q : PySem.Fin → Shared → Prop} (hit : s.heap.IsTupleIter it t i) (ht : s.heap.IsTuple t xs)
  (one : ∀ x h', xs[i]? = some x → h'.IsTupleIter it t (i + 1) → Heap.SameBut it s.heap h' → Q (.done (.ret x)) { s with heap := h' })
  (out : xs[i]? = none → A.handled = none ∧ ∀ h' e, Heap.ExtBut it s.heap h' → (∃ o, h'.get? e = some o ∧ o.cls = .type "StopIteration") → E (.ref e) { s with heap := h' }) :
  wpAny (model prog w) A (Builtin.«tuple_iterator.__next__» ⟨[.ref it], []⟩) Q E s := by
 rcases id hit with ⟨o, ho, hc, hd⟩
 rcases ht with ⟨u, hu, _, m, hm⟩
 have f0 : ∀ {Q' : Value → Shared → Prop}, Q' (.ref t) s → wpAny (model prog w) A (field (.ref it) 0) Q' E s := fun z => wpAny_field ho hd rfl z
 have f1 : ∀ {Q' : Value → Shared → Prop}, Q' (.int i 0) s → wpAny (model prog w) A (field (.ref it) 1) Q' E s := fun z => wpAny_field ho hd rfl z
 have its : ∀ {Q' : Option (Array Value) → Shared → Prop}, Q' (some xs) s → wpAny (model prog w) A (seqItems? (.ref t)) Q' E s := fun z => wpAny_seqItems hu hm z
 change wpAny _ _ (field (.ref it) 0 >>= _) _ _ s
 refine wpAny_bind (f0 ?a)
 case a =>
  change wpAny _ _ (field (.ref it) 1 >>= _) _ _ s
  refine wpAny_bind (f1 ?_)
  change wpAny _ _ (seqItems? (.ref t) >>= _) _ _ s
  refine wpAny_bind (its ?_)
  cases hx : xs[i]? with
  | some x =>
   simp only [Int.toNat_natCast, hx]
   refine wpAny_bind (wpAny_setField ho hd (by simp) (wpAny_pure (one x _ hx ⟨_, Heap.get?_update_self _ ho (Obj.isFreed_of_fields (Obj.data_mapFields hd _)), (Obj.cls_mapFields ..).trans hc, ?_⟩ (Heap.SameBut.update ..))))
   rw [Obj.data_mapFields hd]
   simp [rawInt]
  | none =>
   obtain ⟨hh, hE⟩ := out hx
   simp only [Int.toNat_natCast, hx]
   refine wpAny_bind (wpAny_rule (wpAny_bind (wpAny_setField ho hd (by simp) ?e)))
   change wpAny _ _ (newExc (.type "StopIteration") [] >>= _) _ _ _
   apply wpAny_bind
   unfold newExc newTuple
   refine wpAny_bind (wpAny_newObj_type ?n (by size_fits))
   case n =>
    refine wpAny_bind (m := firstArgMember _ _) (wpAny_of_eq (a := Value.none) ?fa (wpAny_newObj_type ?ga (by size_fits)))
    case fa => first | rfl | (unfold firstArgMember; rfl)
    case ga => exact wpAny_raiseNew_none hh (hE _ _ (((Heap.SameBut.update ..).extBut.push _).push _) ⟨_, Heap.get?_push_size _ rfl, rfl⟩)
theorem nextOf_tup {it t : Addr} {i : Nat} {xs : Array Value} {Q : Value → Shared → Prop} (hit : s.heap.IsTupleIter it t i) (ht : s.heap.IsTuple t xs)
  (one : ∀ x h', xs[i]? = some x → h'.IsTupleIter it t (i + 1) → Heap.SameBut it s.heap h' → Q x { s with heap := h' })
  (out : xs[i]? = none → A.handled = none ∧ ∀ h' e, Heap.ExtBut it s.heap h' → (∃ o, h'.get? e = some o ∧ o.cls = .type "StopIteration") → E (.ref e) { s with heap := h' }) :
  wpAny (model prog w) A (Builtin.SmallTypes.nextOf (.ref it)) Q E s := by
 have ty := hit.typeIs
 have call1 := wpAny_call_entry (prog := prog) (w := w) (A := A) (E := E) (rest := []) F.slot_tuple_iterator_next ty F.entry_tuple_iterator_next (Q := fun v s' => wpAny (model prog w) A (pure v) Q E s')
  (step_tup hit ht (fun x h' a b c => ⟨x, rfl, wpAny_pure (one x h' a b c)⟩) out) (F.args_tuple_iterator_next_1 _)
 unfold Builtin.SmallTypes.nextOf
 exact wpAny_bind (wpAny_callSpecial?_slot (name := Str.ofString "__next__") ty F.slot_tuple_iterator_next call1)
end
theorem tupIter_at {h h' : Heap} {a t : Addr} {i : Nat} (x : h.IsTupleIter a t i) (k : ∀ o, h.get? a = some o → h'.get? a = some o) : h'.IsTupleIter a t i := let ⟨o, ho, r⟩ := x; ⟨o, k o ho, r⟩
theorem tup_at {h h' : Heap} {a : Addr} {items : Array Value} (x : h.IsTuple a items) (k : ∀ o, h.get? a = some o → h'.get? a = some o) : h'.IsTuple a items := let ⟨o, ho, r⟩ := x; ⟨o, k o ho, r⟩
theorem drawsT {prog : Program} {w : World} {A : Around} (hh : A.handled = none) (it l : Addr) (hne : l ≠ it) (items : Array Value) :
  Draws prog w A it [it, l] items.size (fun i v => items[i]? = some v) (fun i h => h.IsTupleIter it l i ∧ h.IsTuple l items) where
 live := fun _ _ st => st.1.elim fun o z => ⟨o, z.1⟩
 frame := fun _ _ _ st hk => ⟨tupIter_at st.1 fun o e => hk it (by simp) o e, tup_at st.2 fun o e => hk l (by simp) o e⟩
 item := fun i s Q E hi st hQ => by
  exact nextOf_tup st.1 st.2 (fun x h' hx a b => hQ x h' s.toks hx ⟨a, st.2.extBut b.extBut hne⟩ b) fun z => absurd z (by simp [hi])
 done := fun s Q E st hE => nextOf_tup st.1 st.2 (fun x h' z => absurd z (by simp)) fun _ => ⟨hh, hE⟩
def Itet (a : Addr) : It :=
 ⟨fun i H => ∃ xs x, H a = some (.tup xs) ∧ xs[i]? = some x, fun i H x H' => ∃ T xs y, H T = none ∧ H a = some (.tup xs) ∧ xs[i]? = some y ∧ x = .ref T ∧ H' = upd H T (.tup [.int i, y]), fun i H => ∃ xs, H a = some (.tup xs) ∧ xs.length ≤ i⟩
theorem pyNext_enumT_end {prog : Program} {w : World} {A : Around} {E : Value → Shared → Prop} {s : Shared} {e it l : Addr} {i : Nat} {xs : Array Value} {old : Value} {Q : Option Value → Shared → Prop} (hh : A.handled = none)
  (he : IsEnum s.heap e it i old) (hit : s.heap.IsTupleIter it l i) (hl : s.heap.IsTuple l xs) (hx : xs[i]? = none) (hQ : ∀ h', Heap.ExtBut it s.heap h' → Q none { s with heap := h' }) :
  wpAny (model prog w) A (pyNext (.ref e)) Q E s := by
 have ty : s.TypeIs (.ref e) "enumerate" := ⟨_, he, rfl⟩
 have stop := fun (h' : Heap) (x : Addr) (k : Heap.ExtBut it s.heap h') (hx' : ∃ o, h'.get? x = some o ∧ o.cls = .type "StopIteration") => wpAny_isInstance (M := model prog w) (A := A) (E := E) (s := { s with heap := h' }) (T := "StopIteration") (b := true) (show Shared.TypeIs { s with heap := h' } (.ref x) "StopIteration" from hx') isSubtype_stop (Q := fun b s' => b = true ∧ s' = { s with heap := h' }) ⟨rfl, rfl⟩
 unfold pyNext
 refine wpAny_bind (wpAny_attempt (wpAny_callSpecial?_slot (name := Str.ofString "__next__") ty F.slot_enumerate_next (wpAny_call_entry F.slot_enumerate_next ty F.entry_enumerate_next ?c (F.args_enumerate_next_1 _))))
 case c =>
  change wpAny _ _ (field (.ref e) 2 >>= _) _ _ _
  refine wpAny_bind (wpAny_field he rfl (x := .ref it) rfl (wpAny_bind (nextOf_tup hit hl (fun x h' z => absurd (hx.symm.trans z) (by simp)) fun _ => ⟨hh, fun h' x k hx' => ?_⟩)))
  exact wpAny_bind (wpAny_mono (stop h' x k hx') (fun b s' ⟨eb, es⟩ => by subst eb es; exact wpAny_pure (hQ _ k)) fun _ _ z => z)
theorem Inv.tupM {X : Cx} {pins : List (Addr × Obj)} {σ : St} {H : Hp} {s : Shared} {a : Addr} {xs : List V} (I : Inv X pins σ H s) (h : H a = some (.tup xs)) : ∃ its : List Value, Vals xs its ∧ s.heap.IsTuple a its.toArray := by
 obtain ⟨_, its, r, t⟩ := (show ObjOk X.prog X.w H s.heap a (.tup xs) from I.hok a _ h)
 exact ⟨its, r, t⟩
theorem turn_enumT {P : Program} {w : World} {K : PySem.W.Frag} {es : List Expr} {k : Nat} {pos : Pos} (a e it : Addr) (hei : e ≠ it) :
  Turn P w K (.Tuple es k pos) (Itet a) [e, it] e (fun i h => (∃ old, IsEnum h e it ((i : Nat) : Int) old) ∧ h.IsTupleIter it a i) where
 mem := by simp
 obj := fun i h st b hb => by
  obtain ⟨⟨old, he⟩, o, e1, c, d⟩ := st
  rcases List.mem_cons.mp hb with z | z
  ·subst z
   exact ⟨_, he, fun v z => by cases z⟩
  ·have z : b = it := by simpa using z
   subst z
   exact ⟨o, e1, fun v z => by rw [d] at z; cases z⟩
 keep := fun i h h' st k => ⟨let ⟨old, he⟩ := st.1; ⟨old, k e (by simp) _ he⟩, tupIter_at st.2 fun o e => k it (by simp) o e⟩
 item := by
  intro X hP hw hK hc i pins s σ H E I hf st hg
  subst hP hw hK
  obtain ⟨xs, x, hq, hx⟩ := hg
  obtain ⟨its, r, hL⟩ := I.tupM hq
  obtain ⟨u, hu, ru⟩ := r.get hx
  obtain ⟨⟨old, he⟩, hit⟩ := st
  have hae : e ≠ a := fun z => by have := (hf e (by simp)).1; rw [z, hq] at this; cases this
  have hai : a ≠ it := fun z => by have := (hf it (by simp)).1; rw [← z, hq] at this; cases this
  have helt : e < s.heap.objs.size := Heap.lt_size he
  have hilt : it < s.heap.objs.size := by obtain ⟨_, x, _⟩ := id hit; exact Heap.lt_size x
  have hun : ∀ b ∈ [e, it], b < s.heap.objs.size := fun b hb => by
   rcases List.mem_cons.mp hb with z | z
   ·rw [z]; exact helt
   ·rw [show b = it by simpa using z]; exact hilt
  have hlt : i < its.toArray.size := by
   have := (List.getElem?_eq_some_iff.mp hu).1
   simpa using this
  refine wpAny_pyNext_enum_itemD (D := drawsT (A := X.A.in1) (I.ok.hd hc) it a hai its.toArray) he ⟨hit, hL⟩ hlt hei (by simp [hei, hae]) fun u' h' tk hu' ho hst' hT hsz hk => ?_
  have eu : u' = u := by
   have h2 : its.toArray[i]? = some u := by simpa using hu
   rw [h2] at hu'; exact (Option.some.inj hu').symm
  subst eu
  refine ⟨_, rfl, wpAny_letOwnedTupleGo_enum ho fun h2 he2 hs2 => ?_⟩
  replace hs2 : Heap.SameBut e h' h2 := hs2
  have I1 : Inv X pins σ (upd H s.heap.objs.size (.tup [.int i, x])) { s with heap := s.heap.push { cls := .type "tuple", data := .seq #[.int i tk, u'] }, toks := tk + 1 } :=
   I.laid (fun b o q => Heap.get?_push_of_some _ q) (Nat.le_refl _) ⟨by show 2 ≤ sizeLine; decide, [.int i tk, u'], .cons ⟨_, rfl⟩ (.cons ru .nil), ⟨_, Heap.get?_push_size _ rfl, rfl, _, rfl⟩⟩
  have frs : ∀ b ∈ [e, it], upd H s.heap.objs.size (.tup [.int i, x]) b = none := fun b hb => by
   rw [upd_ne (Nat.ne_of_lt (hun b hb))]; exact (hf b hb).1
  have I2 : Inv X pins σ (upd H s.heap.objs.size (.tup [.int i, x])) { s with heap := h2, toks := tk + 1 } := by
   refine Inv.turnedL (s := { s with heap := s.heap.push { cls := .type "tuple", data := .seq #[.int i tk, u'] }, toks := tk + 1 }) (h' := h2) (t' := tk + 1) (fp := [e, it]) I1 (fun b o hb q => ?_) (fun b hb => ⟨frs b hb, (hf b hb).2⟩)
   have n1 : b ≠ e := fun z => hb (by simp [z])
   have n2 : b ≠ it := fun z => hb (by simp [z])
   refine (hs2.2 b n1).trans ?_
   rcases Heap.get?_push_cases q with ⟨eb, eo⟩ | q
   ·rw [eb, eo]; exact hT
   ·exact hk b o n1 n2 q
  refine ⟨.ref s.heap.objs.size, _, I2, rfl, ⟨_, xs, x, I.fresh, hq, hx, rfl, rfl⟩, ⟨⟨u', ?_⟩, ?_⟩, frs⟩
  ·have e1 : (((i + 1 : Nat)) : Int) = (i : Int) + 1 := by simp
   rw [e1]; exact he2
  ·exact tupIter_at hst'.1 fun o y => (hs2.2 it hei.symm).trans y
 done := by
  intro X hP hw hK hc i pins s σ H E I hf st hg
  subst hP hw hK
  obtain ⟨xs, hq, hx⟩ := hg
  obtain ⟨its, r, hL⟩ := I.tupM hq
  have hl : xs.length = its.length := Paired.length r
  obtain ⟨⟨old, he⟩, hit⟩ := st
  exact pyNext_enumT_end (I.ok.hd hc) he hit hL (by simp; omega) fun h' eb => ⟨rfl, I.turnedL (t' := s.toks) (fp := [e, it]) (fun b o hb q => eb b o (fun z => hb (by simp [z])) q) hf⟩
 self := fun _ _ _ _ _ st h => let ⟨_, he⟩ := st.1; wpAny_pyIter_enum he h
def iEnumT (ta : TA) : TI := fun σ H R => ta σ H fun vs H1 => ∃ a xs, vs = [.ref a] ∧ H1 a = some (.tup xs) ∧ R (Itet a) H1
theorem pi_enumT {X : Cx} {es : List Expr} {k : Nat} {tp : Pos} {a : Expr} {ta : TA} {p pos : Pos} (hg : Gl X "enumerate") (hm : X.mg "enumerate" = none) (ha : PA X [a] ta) (hs : starEach [a] X.env = [(false, eval a X.env)] := by rfl) :
  PI X (.Tuple es k tp) (.Call (.Name "enumerate" p) [a] [] pos) (iEnumT ta) := by
 intro pins s σ H R I h
 refine wpAny_Call_Name_kw (ld_blt I hg hm boot_enumerate ?_ (by decide) (by decide))
 refine PyProof.Rows.callWith_type1 (thn (ha pos pins s σ H _ I h) fun us s1 ⟨vs, H1, I1, r1, q1⟩ => ?_) hs rfl
 obtain ⟨a, xs, e, hq, q⟩ := q1
 subst e
 obtain ⟨u, rfl, ru⟩ := r1.one
 cases ru
 obtain ⟨its, r, hL⟩ := I1.tupM hq
 refine call_enumerateT hL fun h' he hit hsz hk => ?_
 refine wpAny_pyIter_enum he ?_
 have I2 : Inv X pins σ H1 { s1 with heap := h' } := I1.kept (t' := s1.toks) hk
 refine ⟨s1.heap.objs.size + 1, [s1.heap.objs.size + 1, s1.heap.objs.size], _, _, H1, rfl, I2, turn_enumT a _ _ (Nat.succ_ne_self _), ⟨⟨_, he⟩, hit⟩, fun b hb => ?_, q⟩
 rcases List.mem_cons.mp hb with z | z
 ·subst z; exact I1.fpOk (Nat.le_succ _) (I1.hok.fresh (Nat.le_succ _))
 ·have z : b = s1.heap.objs.size := by simpa using z
  subst z; exact I1.fpOk (Nat.le_refl _) (I1.hok.fresh (Nat.le_refl _))
theorem for_enumT {a : Addr} {xs : List V} {g : TG} {tb : TS} {D : Ends} {σ : St} {H : Hp} (Pv : Nat → St → Hp → Prop) (h0 : Pv 0 σ H) (hl : ∀ i σ H, i ≤ xs.length → Pv i σ H → H a = some (.tup xs))
  (hs : ∀ i x σ H T, xs[i]? = some x → Pv i σ H → H T = none → g (.ref T) σ (upd H T (.tup [.int (i : Int), x])) fun σ2 H2 => tb { D with nx := Pv (i + 1), ct := Pv (i + 1), bk := D.nx } σ2 H2) (hd : ∀ σ H, Pv xs.length σ H → D.nx σ H) :
  ∃ W : Nat → Nat → St → Hp → Prop, (∃ m, W 0 m σ H) ∧ ∀ i m σ H, W i m σ H →
   ((Itet a).stop i H ∧ D.nx σ H) ∨ ((Itet a).go i H ∧ ∃ N : St → Hp → Prop, (∀ σ' H', N σ' H' → ∃ m', m' < m ∧ W (i + 1) m' σ' H') ∧ ∀ x H', (Itet a).yld i H x H' → g x σ H' fun σ2 H2 => tb { D with nx := N, ct := N, bk := D.nx } σ2 H2) := by
 refine ⟨fun i m σ H => m = xs.length - i ∧ i ≤ xs.length ∧ Pv i σ H, ⟨xs.length, by simp, Nat.zero_le _, h0⟩, ?_⟩
 rintro i m σ H ⟨rfl, hi, p⟩
 have q := hl i σ H hi p
 by_cases hlt : i < xs.length
 ·refine .inr ⟨⟨xs, xs[i], q, List.getElem?_eq_getElem hlt⟩, Pv (i + 1), fun σ' H' p' => ⟨xs.length - (i + 1), by omega, rfl, hlt, p'⟩, fun x H' y => ?_⟩
  obtain ⟨T, ys, u, hT, hy, hu, rfl, rfl⟩ := y
  rw [q] at hy
  cases hy
  exact hs i u σ H T hu p hT
 ·have e : i = xs.length := by omega
  subst e
  exact .inl ⟨⟨xs, q, Nat.le_refl _⟩, hd σ H p⟩
end L2
namespace L2
open PySem PySem.Spec PyProof.Rows
section
variable {X : Cx}
def rCatT2 : R2 := fun x y H Q => ∃ a b xs ys, x = .ref a ∧ y = .ref b ∧ H a = some (.tup xs) ∧ H b = some (.tup ys) ∧ xs.length + ys.length ≤ sizeLine ∧
 ∀ p H', (∀ c o, H c = some o → H' c = some o) → H' p = some (.tup (xs ++ ys)) → Q (.ref p) H'
theorem op_catT2 : OpR X (binaryOp .Add) rCatT2 := by
 intro pins s σ H x y v u Q I rx ry h
 obtain ⟨a, b, xs, ys, rfl, rfl, ha, hb, hz, q⟩ := h
 cases rx
 cases ry
 obtain ⟨_, its, r1, p1⟩ := (show ObjOk X.prog X.w H s.heap a (.tup xs) from I.hok a _ ha)
 obtain ⟨_, its2, r2, p2⟩ := (show ObjOk X.prog X.w H s.heap b (.tup ys) from I.hok b _ hb)
 by_cases hx : xs = []
 ·subst hx
  have e0 : its = [] := r1.nil_iff.mpr rfl
  subst e0
  obtain ⟨⟨cls, dd, data, sl⟩, ho, hc, n, hd⟩ := id p1
  obtain ⟨⟨cls2, dd2, data2, sl2⟩, ho2, hc2, n2, hd2⟩ := id p2
  simp only at hc hd hc2 hd2
  subst hc hd hc2 hd2
  exact concat_meets ⟨_, ho, rfl⟩ ⟨_, ho2, rfl⟩ noFill_tuple_add seq_tuple_add PySem.F.slot_tuple_add PySem.F.entry_tuple_add (PySem.F.args_tuple_add_2 _ _)
   (tuple_addW0 a b ([] : List Value).toArray its2.toArray n n2 dd dd2 sl sl2 rfl) ⟨ho, ho2, ⟨.ref b, H, I, rfl, q b H (fun _ _ h => h) hb⟩⟩
 ·refine HT.cat_tup p1 p2 (fun z => hx (r1.nil_iff.mp z)) (fun z => ⟨.ref a, H, I, rfl, q a H (fun _ _ h => h) (by rw [r2.nil_iff.mp z, List.append_nil]; exact ha)⟩) (fun z => ?_) (by rw [← r1.length, ← r2.length]; exact hz)
  have fr := I.hok.fresh (Nat.le_refl s.heap.objs.size)
  refine ⟨.ref s.heap.objs.size, _, I.laid (t' := s.toks) (o := .tup (xs ++ ys)) (fun b ob q => Heap.get?_push_of_some _ q) (Nat.le_refl _) ?_, rfl, q _ _ (fun c o hc => by rw [upd_ne (ne_of_none hc fr)]; exact hc) upd_same⟩
  exact ⟨by rw [List.length_append]; exact hz, _, r1.append r2, IsTup.new _ _⟩
def rEqT0 : R2 := fun x y H Q => ∃ a b xs, x = .ref a ∧ y = .ref b ∧ H a = some (.tup xs) ∧ H b = some (.tup []) ∧ Q (.bl xs.isEmpty) H
theorem op_eqT0 (hu : X.A.units + 64 < cLine) : OpR X (compareOp .Eq) rEqT0 := by
 intro pins s σ H x y v u Q I rx ry h
 obtain ⟨a, b, xs, rfl, rfl, ha, hb, q⟩ := h
 cases rx
 cases ry
 obtain ⟨_, its, r1, p1⟩ := (show ObjOk X.prog X.w H s.heap a (.tup xs) from I.hok a _ ha)
 obtain ⟨_, its2, r2, p2⟩ := (show ObjOk X.prog X.w H s.heap b (.tup []) from I.hok b _ hb)
 have e0 : its2 = [] := r2.nil_iff.mpr rfl
 subst e0
 have q1 := PySem.SeqAt.RcAt.tuples (A := X.A) (e := fun _ => true) p1 p2 (by omega) (fun j k1 k2 => absurd k2 (by simp))
 have e : ((List.range (min its.toArray.size ([] : List Value).toArray.size)).all (fun _ => true) && (its.toArray.size == ([] : List Value).toArray.size)) = xs.isEmpty := by
  have hl : xs.length = its.length := r1.length
  cases xs with
  | nil =>
   have : its = [] := r1.nil_iff.mpr rfl
   subst this
   rfl
  | cons x r =>
   have hne : ¬ its.length = 0 := by rw [← hl]; simp
   simp [hne]
 rw [e] at q1
 exact q1 _ _ _ _ ⟨.bl xs.isEmpty, H, I, rfl, q⟩
def rIndex : V → List V → Hp → VK → Prop := fun x vs H Q => ∃ (l : Addr) (ns : List Int) (k : Int) (j : Nat), x = .ref l ∧ vs = [.int k] ∧ H l = some (.lst (ns.map V.int)) ∧ ns[j]? = some k ∧ (∀ m < j, ns[m]? ≠ some k) ∧ ns.length ≤ 1000 ∧ Q (.int (j : Int)) H
theorem mt_index : MtM X "list.index" rIndex := by
 intro pins s σ H x vs v us Q I rx rv h
 obtain ⟨l, ns, k, j, rfl, rfl, hH, hj, hno, hsm, q⟩ := h
 cases rx
 obtain ⟨u, rfl, ru⟩ := rv.one
 obtain ⟨t, rfl⟩ := ru
 obtain ⟨z, its, n, r, hl, e⟩ := I.lstM hH
 have hi := vals_intsAre r
 have hlen : its.length = ns.length := by rw [← hl, List.length_map]
 have jlt : j < ns.length := (List.getElem?_eq_some_iff.mp hj).1
 have at_ : ∀ m (hm : m < its.toArray.size), ∃ t', its.toArray[m] = .int (ns.getD m 0) t' := fun m hm => by
  have hm' : m < its.length := by simpa using hm
  exact IntsAre.int_at hi m _ (by rw [List.getElem?_eq_getElem hm']; simp)
 have hsj : (j : Int) < 2 ^ 63 - 1 := by
  have : j < 1000 := by omega
  omega
 refine call_meets F.slot_list_index ⟨_, e, rfl⟩ F.entry_list_index (F.args_list_index_2 _ _)
  (MeetsSeq.list_index l its.toArray n (.int k t) (isInt k) (fun y hy => eq_isInt k t hi y (by simpa using hy)) j (by simpa [hlen] using jlt) hsj ?_ (fun m hm hmj => ?_)) ⟨e, ?_⟩
 ·obtain ⟨t', e'⟩ := at_ j (by simpa [hlen] using jlt)
  rw [e']
  have : ns.getD j 0 = k := by rw [List.getD_eq_getElem?_getD, hj]; rfl
  rw [this]
  simp [isInt]
 ·obtain ⟨t', e'⟩ := at_ m hm
  rw [e']
  have hm' : m < ns.length := by simpa [hlen] using hm
  have hne : ns.getD m 0 ≠ k := fun z => hno m hmj (by rw [List.getElem?_eq_getElem hm', ← z, List.getD_eq_getElem?_getD, List.getElem?_eq_getElem hm']; rfl)
  show (ns.getD m 0 == k) = false
  exact beq_eq_false_iff_ne.mpr hne
 ·exact ⟨.int (j : Int), H, I.tok _, ⟨_, rfl⟩, q⟩
end
end L2
namespace L2
open PySem PySem.Spec PyProof.Rows
section
variable {X : Cx}
end
end L2
namespace HT
open PySem PyProof.Rows PySem.SeqAt PySem.MeetsSeq PySem.MeetsSeq2 PySem.MeetsSeq3
inductive OrdK
 | lt
 | le
 | gt
end HT
namespace L2
open PySem PySem.Spec PyProof.Rows
section
variable {X : Cx}
end
end L2
namespace HT
open PySem PyProof.Rows
section
variable {prog : Program} {w : World} {A : Around} {R : Result → Shared → Prop} {I S : Addr} {fp wr : List Addr} {n : Nat} {P : Nat → Value → Prop} {St : Nat → Heap → Prop}
end
end HT
namespace L2
open PySem PySem.Spec PyProof.Rows
section
variable {X : Cx}
end
end L2
namespace HT
open PySem PyProof.Rows
section
variable {prog : Program} {w : World} {A : Around} {E : Value → Shared → Prop} {s : Shared}
end
section
variable {prog : Program} {w : World} {A : Around} {R : Result → Shared → Prop} {I S : Addr} {fp wr : List Addr} {n : Nat} {P : Nat → Value → Prop} {St : Nat → Heap → Prop}
end
end HT
namespace L2
open PySem PySem.Spec PyProof.Rows
section
variable {X : Cx}
end
end L2
namespace L2
open PySem PySem.Spec PyProof.Rows
theorem ObjOk.there {P : Program} {w : World} {H : Hp} {h : Heap} {a : Addr} {o : HO} (x : ObjOk P w H h a o) : ∃ ob, h.get? a = some ob := by
 cases o with
 | lst xs => obtain ⟨_, _, _, _, e⟩ := x; exact ⟨_, e⟩
 | tup xs => obtain ⟨_, _, _, ob, e, _⟩ := x; exact ⟨_, e⟩
 | dK kvs => obtain ⟨_, _, _, _, o, _, _, e, _⟩ := x; exact ⟨_, e⟩
 | dT kvs => obtain ⟨_, _, _, _, o, _, _, e, _⟩ := x; exact ⟨_, e⟩
 | set S n => obtain ⟨o, _, _, _, e, _⟩ := x; exact ⟨_, e⟩
 | ins C dx fs => obtain ⟨_, _, _, e, _⟩ := x; exact ⟨_, e⟩
 | own y => exact x
 | xd fs => obtain ⟨_, ⟨_, _, _, e, _⟩, _⟩ := x; exact ⟨_, e⟩
 | rng lo hi => obtain ⟨_, _, _, e⟩ := x; exact ⟨_, e⟩
 | frz ob u => obtain ⟨e, _⟩ := x; exact ⟨_, e⟩
 | tbl ps => exact ⟨_, show h.get? a = some _ from x⟩
 | met f y => exact ⟨_, show h.get? a = some _ from x⟩
 | ext φ => exact x.2.1
def InB (B : Heap) (fs : List Addr) (H' : Hp) (h h' : Heap) : Prop := ∀ b o, h'.get? b = some o → ((∃ o', h.get? b = some o') ∧ b ∉ fs) ∨ (∃ u, H' b = some u) → B.get? b = some o
def CX1 (P : Program) (w : World) : CXT := fun outer H s E e s' => ∃ (ea : Addr) (C a0 : Value) (H' : Hp) (B : Heap),
 e = .ref ea ∧ s'.os = s.os ∧ AllBare s'.gens ∧ Un (frs outer) [] H H' s.heap s'.heap ∧ HOk P w H' s'.heap ∧ Heap.FlyingW B outer ea C a0 s'.heap ∧ InB B (frs outer) H' s.heap s'.heap ∧ H' ea = none ∧ E C none H'
section
variable {X : Cx} {pins : List (Addr × Obj)} {σ : St} {H H' : Hp} {s s' : Shared} {B h'' : Heap}
theorem Inv.flown (I : Inv X pins σ H s) (os : s'.os = s.os) (bare : AllBare s'.gens) (un : Un (frs X.stack) [] H H' s.heap s'.heap) (hok : HOk X.prog X.w H' s'.heap)
  (hB : InB B (frs X.stack) H' s.heap s'.heap) (st : B.StaysIn h'') (up : s'.heap.UpToSlots h'') : Inv X pins σ H' { s' with heap := h'' } := by
 have ff := I.stack
 have slot : ∀ b o, s.heap.get? b = some o → H b = none → b ∈ frs X.stack → ∃ sl, h''.get? b = some { o with slots := sl } := fun b o q n m => by
  obtain ⟨sl, e1⟩ := un.slot b o q n m (by simp)
  obtain ⟨_, o', q', nf⟩ := ff.mem m
  rw [q] at q'
  cases q'
  obtain ⟨sl', e2⟩ := up b _ e1 nf
  exact ⟨sl', e2⟩
 refine I.call' (s' := { s' with heap := h'' }) (ch := []) os ⟨fun b o q n m _ => st b o (hB b o (un.keep b o q n m (by simp)) (.inl ⟨⟨o, q⟩, m⟩)), fun b o q n m _ => slot b o q n m, fun b o q n m => un.free b o q n m, fun b o q _ => ?_, un.tups, un.frzs, un.tbls⟩ (fun a o e => ?_) bare (fun b z => absurd z (by simp))
 ·by_cases m : b ∈ frs X.stack
  ·obtain ⟨sl, e⟩ := slot b o q (I.stkFree b m) m
   exact ⟨_, e⟩
  ·obtain ⟨o', e⟩ := un.there b o q (by simp)
   exact ⟨o', st b o' (hB b o' e (.inl ⟨⟨o, q⟩, m⟩))⟩
 ·refine (hok a o e).stay (fun b u z q => st b u (hB b u q (.inr ?_))) (fun _ z => z) fun _ _ z => z
  rcases z with z | z
  ·subst z; exact ⟨_, e⟩
  ·exact ⟨_, z⟩
theorem Inv.gone {ea : Addr} {C a0 : Value} {E : XK} (I : Inv X pins σ H s) (os : s'.os = s.os) (bare : AllBare s'.gens) (un : Un (frs X.stack) [] H H' s.heap s'.heap) (hok : HOk X.prog X.w H' s'.heap)
  (hB : InB B (frs X.stack) H' s.heap s'.heap) (fl : Heap.FlyingW B X.outer ea C a0 h'') (up : s'.heap.UpToSlots h'') (hn : H' ea = none) (hE : E C none H')
  (hst : X.stack = X.env :: X.outer) (hfr : X.env.frame = some X.env.locals) (hex : X.ex = []) : CX1 X.prog X.w X.outer X.H₀ X.s₀ E (.ref ea) { s' with heap := h'' } := by
 have J := I.flown os bare un hok hB fl.1 up
 have jb := J.base
 have ib := I.base
 rw [hex] at jb ib
 refine ⟨ea, C, a0, H', B, rfl, J.os, J.bare, jb, J.hok, fl, fun b o q z => ?_, hn, hE⟩
 rcases z with ⟨⟨o₀, q₀⟩, m⟩ | ⟨u, z⟩
 ·have m2 : b ∉ frs X.stack := fun z => by
   rw [hst] at z
   unfold frs at z
   rw [List.filterMap_cons, hfr] at z
   rcases List.mem_cons.mp z with z | z
   ·have := I.ok.above
    rw [← z] at this
    exact absurd (Heap.lt_size q₀) (Nat.not_lt.mpr this)
   ·exact m z
  obtain ⟨o1, q1⟩ := ib.there b o₀ q₀ (by simp)
  obtain ⟨o2, q2⟩ := un.there b o1 q1 (by simp)
  have e := hB b o2 q2 (.inl ⟨⟨o1, q1⟩, m2⟩)
  have e2 := fl.1 b o2 e
  have q' : h''.get? b = some o := q
  rw [q'] at e2
  cases e2
  exact e
 ·obtain ⟨o2, q2⟩ := (hok b u z).there
  have e := hB b o2 q2 (.inr ⟨u, z⟩)
  have e2 := fl.1 b o2 e
  have q' : h''.get? b = some o := q
  rw [q'] at e2
  cases e2
  exact e
end
section
variable {P : Program} {w : World} {K : PySem.W.Frag} {mg : Str → Option Value} {base : Heap} {N : List Str} {qual : Str} {scope : Scope} {f : Addr} {cd : Value} {A : Around} {outer : List Env} {s₀ : Shared} {H₀ : Hp} {E : XK}
theorem pass1 : Passes (CX1 P w) (cxOf (CX1 P w) P w K mg base N qual scope f cd A outer s₀ H₀ E) E := by
 intro pins σ H s e s' I h
 obtain ⟨ea, C, a0, H', B, rfl, os, bare, un, hok, fl, hB, hn, hE⟩ := h
 refine wpAny_leaves_onW (outer := outer) I.ok.frames rfl fl fun h'' fl2 up => ?_
 exact I.gone os bare un hok hB fl2 up hn hE rfl rfl rfl
def RaisesIn (X : Cx) (E : XK) : Prop := ∀ (pins : List (Addr × Obj)) (σ : St) (H : Hp) (s : Shared) (h' : Heap) (ea : Addr) (C : Value) (vs : List Value), Inv X pins σ H s → Heap.MadeExcOf s.heap h' ea C vs → E C none H → X.xe (.ref ea) { s with heap := h' }
theorem raises1 : RaisesIn (cxOf (CX1 P w) P w K mg base N qual scope f cd A outer s₀ H₀ E) E := by
 intro pins σ H s h' ea C vs I hx hE
 have hin : ∀ env ∈ (envOfC qual scope s₀.heap.objs.size f cd :: outer), ∀ b, env.frame = some b → b ∈ (envOfC qual scope s₀.heap.objs.size f cd :: outer).filterMap (·.frame) := fun env he b hb => List.mem_filterMap.mpr ⟨env, he, hb⟩
 refine wpAny_leaves_madeW (base := PySem.W.hideAll s.heap ((envOfC qual scope s₀.heap.objs.size f cd :: outer).filterMap (·.frame))) (outer := outer) I.ok.frames rfl (fun b o q => PySem.W.of_hideAll _ q) (PySem.W.funFrames_hide I.stack hin) hx fun h'' t x1 x2 x3 x4 => ?_
 have hn : H ea = none := by
  cases q : H ea with
  | none => rfl
  | some u =>
   obtain ⟨o, e⟩ := (I.hok ea u q).there
   rw [hx.new] at e
   cases e
 refine I.gone (s' := { s with heap := h' }) (H' := H) rfl I.bare (Un.kept hx.keeps) (I.hok.kept hx.keeps) (fun b o q z => ?_) x1 x4 hn hE rfl rfl rfl
 have q' : h'.get? b = some o := q
 have key : ∃ o', s.heap.get? b = some o' ∧ b ∉ (envOfC qual scope s₀.heap.objs.size f cd :: outer).filterMap (·.frame) := by
  rcases z with ⟨⟨o', e⟩, m⟩ | ⟨u, z⟩
  ·exact ⟨o', e, m⟩
  ·obtain ⟨o', e⟩ := (I.hok b u z).there
   exact ⟨o', e, fun m => by have := I.stkFree b m; rw [z] at this; cases this⟩
 obtain ⟨o', e, m⟩ := key
 have e2 := hx.keeps b o' e
 rw [q'] at e2
 cases e2
 exact PySem.W.hideAll_get _ e m
theorem Fun.ok1 {x qual : Str} {st : Stmt} {f : Addr} {fd : FuncData} {N ps : List Str} {k : Nat} {sp : Sp} (F : Fun K x qual st f fd) (S : FnScope N ps (defScope st)) (len : ∀ vs H Q E, sp vs H Q E → vs.length = ps.length)
  (hbody : ∀ (cdv : Value) (A : Around) (outer : List Env) (s : Shared) (H : Hp) (vs : List V) (Q : VK) (E : XK), Room k (A.deeper (envOfC qual (defScope st) s.heap.objs.size f cdv)) → sp vs H Q E →
   ∃ t, PSs (cxOf (CX1 P w) P w K mg base N qual (defScope st) f cdv A outer s H E) (defBody st) t ∧ t { nx := fun _ H' => Q .non H', rt := Q } (start N vs) H) : FnOk P w K mg base (CX1 P w) (k + 1) f fd ps sp := by
 obtain ⟨oc, od, kV, doc, pm, an, cdv, ct, osl, rfl, lk, hcd⟩ := F.ex
 exact fn_of lk hcd S len fun A outer s H vs Q E hr hsp => hbody cdv A outer s H vs Q E hr hsp
end
theorem own_obj {K : PySem.W.Frag} {h : Heap} {C : Addr} {bmB : List Value} {newId : String} (X : K.In h) (q : PySem.W.excIn K C bmB newId = true) :
  ∃ bm N nm q bs hdct sn sub ab col dd k0 k1 k2 k3 k5 mN, h.get? C = some (excClassObj nm q C N bs bm hdct sn sub ab col dd k0 k1 k2 k3 k5 newId) ∧ h.Ns N mN ∧ mN "__init__" = none ∧ OwnTail h bmB bm := by
 unfold PySem.W.excIn at q
 split at q
 ·rename_i dd cd sl ho
  split at q
  ·rename_i C' bm k0 k1 k2 k3 n k5 hm hs
   simp only [Bool.and_eq_true, beq_iff_eq, Bool.not_eq_true'] at q
   obtain ⟨⟨⟨⟨⟨rfl, rfl⟩, hdel⟩, ht⟩, hok⟩, hni⟩ := q
   obtain ⟨nm, bs, mro, ns, qn, hd, sn, sub, ab, col, del⟩ := cd
   dsimp only at hm hdel hok hni
   subst hm hdel
   have hsl : sl = #[k0, k1, k2, k3, some (.builtin n), k5] := by
    obtain ⟨l⟩ := sl
    simp only at hs
    rw [hs]
   subst hsl
   exact ⟨bm, ns, nm, qn, bs, hd, sn, sub, ab, col, dd, k0, k1, k2, k3, k5, _, X _ _ ho, .of_isNs (PySem.W.isNs_of_in X hok), PySem.W.nsMap_none_of_in X hok hni, PySem.W.tail_of_in X ht⟩
  ·cases q
 ·cases q
section
variable {X : Cx} {E : XK} {x : Str} {C : Addr} {B newId initId : String} {bm : List Value} {np cpos pos : Pos} {e : Expr} {es : List Expr} {t : TA}
def tRaise (C : Addr) (E : XK) (t : TA) : TS := fun _ σ H => t σ H fun vs H1 => vs.length ≤ 1000 ∧ E (.ref C) none H1
theorem ps_raise (hr : RaisesIn X E) (hc : X.calm = true) (FB : ExcBaseFacts B newId initId bm) (hq : PySem.W.excIn X.K C bm newId = true) (hg : Gl X x) (hm : X.mg x = some (.ref C)) (ha : PA X (e :: es) t)
  (hd : (x == ("__debug__" : Str)) = false := by decide) (he : starEach (e :: es) X.env = (false, eval e X.env) :: starEach es X.env := by rfl) (hpl : (backTo cpos (starEach es X.env)).any (·.1) = false := by rfl) :
  PS X (.Raise (some (.Call (.Name x np) (e :: es) [] cpos)) none pos) (tRaise C E t) := by
 intro pins s σ H D I h
 obtain ⟨tl, N, nm, q, bs, hdct, sn, sub, ab, col, dd, k0, k1, k2, k3, k5, mN, hC, hN, hni, T⟩ := own_obj I.mod.kin hq
 refine wpAny_Raise_call_subT (C := C) (nm := nm) (q := q) (N := N) (bs := bs) (bm := tl) (hdct := hdct) (sn := sn) (sub := sub) (ab := ab) (col := col) (dd := dd) (k0 := k0) (k1 := k1) (k2 := k2) (k3 := k3) (k5 := k5)
  FB (mN := mN) (T.hasType FB.hasBase) (I.ok.hd hc) (by rw [he]; show (false || (backTo cpos (starEach es X.env)).any (·.1)) = false; rw [hpl]; rfl) hni (ld_glob I hg hm ⟨rfl, ?_⟩ hd)
 have ha' := ha cpos pins s σ H _ I h
 rw [he] at ha' ⊢
 refine Calls.evalArgs_plain (wpAny_mono ha' (fun us s₂ ⟨vs, H1, I1, r, l, q⟩ => ?_) fun _ _ y => y)
 exact ⟨rfl, by rw [← r.length]; exact Nat.le_trans l (by decide), I1.bk _ _ hC, hN.keeps I1.bk, T.keeps I1.bk, fun h' ea hx => hr pins σ H1 s₂ h' ea _ _ I1 hx q⟩
end
def PB (X : Cx) (st : List Stmt) (tb : XK → TS) : Prop := ∀ (pins : List (Addr × Obj)) (s : Shared) (σ : St) (H : Hp) (D : Ends) (E : XK) (F : Value → Shared → Prop), Inv X pins σ H s →
 (∀ H1 s1 e s', Inv X pins σ H1 s1 → CX1 X.prog X.w X.stack H1 s1 E e s' → F e s') → tb E D σ H → wpAny (model X.prog X.w) X.A (execs st X.env) (SP X pins D) F s
section
variable {X : Cx} {k : Nat} {f : Addr} {fd : FuncData} {ps : List Str} {sp : Sp} {dvs : List V} {ds : List Value} {x : Str} {p pos cpos : Pos} {e : Expr} {es : List Expr} {t : TA}
def tbCall (sp : Sp) (dvs : List V) (t : TA) : XK → TS := fun E D σ H => t σ H fun vs H1 => sp (vs ++ dvs) H1 (fun _ H2 => D.nx σ H2) E
theorem pb_call (hx : ∀ e s, ¬ X.xe e s) (Fn : FnOk X.prog X.w X.K X.mg X.base (CX1 X.prog X.w) k f fd ps sp) (hr : Room k X.A) (hg : Gl X x) (hm : X.mg x = some (.ref f)) (hk : PySem.W.keepIn X.K (.ref f) = true) (hb : Binds X.K fd ps ds) (hd : Vals dvs ds)
  (ha : PA X (e :: es) t) (hdb : (x == ("__debug__" : Str)) = false := by decide) (he : starEach (e :: es) X.env = (false, eval e X.env) :: starEach es X.env := by rfl) (hpl : (backTo cpos (starEach es X.env)).any (·.1) = false := by rfl)
  (hs : swapsWith (.Call (.Name x p) (e :: es) [] cpos) none pos.line X.env = pure false := by rfl) :
  PB X [.Expr (.Call (.Name x p) (e :: es) [] cpos) pos] (tbCall sp dvs t) := by
 intro pins s σ H D E F I hF h
 have hq : wpAny (model X.prog X.w) X.A (eval (.Call (.Name x p) (e :: es) [] cpos) X.env) (EP X pins σ fun _ H2 => D.nx σ H2) F s := by
  refine wpAny_Call_Name_kw (ld_glob I hg hm ?_ hdb)
  refine PySem.W.callWith_K (h₀ := X.base) I.ok.mod.kin hk (wpAny_mono (ha cpos pins s σ H _ I h) (fun us s1 ⟨vs, H1, I1, r, q⟩ => ⟨I1.kIn, ?_⟩) fun _ _ z => (hx _ _ z).elim) he hpl
  have r2 : Vals (vs ++ dvs) (us ++ ds) := r.append hd
  have hl : (us ++ ds).length = ps.length := by rw [← r2.length]; exact Fn.len _ _ _ _ q
  refine wpAny_call (codeAny_mono (Fn.run X.A X.stack s1 H1 ⟨us, []⟩ (us ++ ds) (vs ++ dvs) _ E hr I1.env0 (hb s1 us I1.kIn hl) r2 q) fun r s' hq => ?_)
  cases r with
  | error e => exact hF H1 s1 e s' I1 hq
  | ok fl =>
   cases fl with
   | ret u => exact I1.after hq
   | next => exact False.elim hq
   | brk => exact False.elim hq
   | cont => exact False.elim hq
 refine wpAny_execs_cons ?_
 exact wpAny_Expr_any (thn hq fun v s1 ⟨x, H1, I1, r1, q1⟩ => wpAny_execs_nil ⟨σ, H1, I1, q1⟩) I.quiet hs
def tbIf (c : TT) (t u : XK → TS) : XK → TS := fun E D σ H => c σ H fun b H1 => if b = true then t E D σ H1 else u E D σ H1
theorem pb_if {c : Expr} {a b : List Stmt} {tc : TT} {ta tb : XK → TS} (hx : ∀ e s, ¬ X.xe e s) (hc : PT X c tc) (ha : PB X a ta) (hb : PB X b tb) : PB X [.If c a b pos] (tbIf tc ta tb) := by
 intro pins s σ H D E F I hF h
 refine wpAny_execs_cons (wpAny_If (wpAny_mono (hc pins s σ H _ I h) (fun d s1 ⟨H1, I1, q1⟩ => ?_) fun _ _ z => (hx _ _ z).elim))
 cases d with
 | true => exact wpAny_mono (ha pins s1 σ H1 D E F I1 hF q1) (fun fl s2 q => by cases fl <;> first | exact wpAny_execs_nil q | exact q) fun _ _ z => z
 | false => exact wpAny_mono (hb pins s1 σ H1 D E F I1 hF q1) (fun fl s2 q => by cases fl <;> first | exact wpAny_execs_nil q | exact q) fun _ _ z => z
end
def ExcAt (ea : Addr) (C : Value) : Heap → Prop := fun h => ∃ o vs, h.get? ea = some o ∧ o.cls = C ∧ o.data = .fields vs
abbrev Cx.mark (X : Cx) (v : Value) : Cx := { X with A := X.A.mark (some v), calm := false, xe := fun _ _ => False }
section
variable {X : Cx} {pins : List (Addr × Obj)} {σ : St} {H : Hp} {s : Shared} {v : Value}
theorem Inv.mark (I : Inv X pins σ H s) (v : Value) : Inv (X.mark v) pins σ H s :=
 ⟨⟨I.ok.mod, I.ok.kind, I.ok.glob, I.ok.blt, I.ok.above, I.ok.inj, I.ok.has, I.ok.cab, fun z => Bool.noConfusion z, I.ok.frames, I.ok.stk, I.ok.exf, I.ok.bs, I.ok.bsz, I.ok.noex, I.ok.exfs, I.ok.funs, I.ok.frf⟩, I.os, I.bare, I.base, I.loc, I.cell, I.free, I.freeC, I.pin, I.hok, I.len⟩
theorem Inv.unmark (ok : X.Ok) (I : Inv (X.mark v) pins σ H s) : Inv X pins σ H s := ⟨ok, I.os, I.bare, I.base, I.loc, I.cell, I.free, I.freeC, I.pin, I.hok, I.len⟩
end
section
variable {X : Cx} {pins : List (Addr × Obj)} {σ : St} {H : Hp} {s : Shared}
theorem goes_ok {M : Model} {A : Around} {E : Value → Shared → Prop} {i : Nat} {x : Str} {pos : Pos} {Q : Unit → Shared → Prop} (I : Inv X pins σ H s) (hN : X.N.Nodup) (hi : X.N[i]? = some x) (hk : X.env.scope.names.lookup x = some .local)
  (h : ∀ s', Inv X pins (σ.set i none) H s' → Q () s') : wpAny M A (do bindName X.env x .none; unbindBehindTheSuite X.env x pos) Q E s := by
 obtain ⟨m, hn, hl⟩ := id I.loc
 have hcls : (X.env.scope.kind == .class || (X.env.scope.kind == .module && X.env.locals != X.env.globals)) = false := by rw [I.ok.kind]; rfl
 have hiσ : i < σ.length := by rw [I.len]; exact (List.getElem?_eq_some_iff.mp hi).1
 have cne := I.cne
 refine wpAny_nameGoes_keeps hk hn hcls (fun h' vv hn' hs => ?_)
 obtain ⟨oL, _, _, hoL, _⟩ := id hn
 have tracked : HOk X.prog X.w H h' := fun b ob e => by
  refine (I.hok b ob e).stay (fun c w' hc q => (hs.2 c ?_).trans q) (fun _ q => q) fun _ _ q => q
  rintro rfl
  rcases hc with rfl | hc
  ·rw [I.free] at e; cases e
  ·rw [I.free] at hc; cases hc
 refine h _ ⟨I.ok, I.os, I.bare, ⟨fun b o e n hb hx => ?_, fun b o e n hb hx => ?_, I.base.free, fun b o e hx => ?_, I.base.tups, I.base.frzs, I.base.tbls⟩, ⟨_, hn', fun j y v' e1 e2 e3 => ?_⟩, fun y c e => ?_, I.free, I.freeC, fun p hp => ?_, tracked, by simpa using I.len⟩
 ·exact (hs.2 b (Nat.ne_of_lt (Nat.lt_of_lt_of_le (Heap.lt_size e) I.ok.above))).trans (I.base.keep b o e n hb hx)
 ·obtain ⟨sl, e1⟩ := I.base.slot b o e n hb hx
  exact ⟨sl, (hs.2 b (Nat.ne_of_lt (Nat.lt_of_lt_of_le (Heap.lt_size e) I.ok.above))).trans e1⟩
 ·obtain ⟨o', e1⟩ := I.base.there b o e hx
  exact ⟨o', (hs.2 b (Nat.ne_of_lt (Nat.lt_of_lt_of_le (Heap.lt_size e) I.ok.above))).trans e1⟩
 ·by_cases hj : j = i
  ·subst hj
   rw [List.getElem?_set_self hiσ] at e2
   cases e2
  ·rw [List.getElem?_set_ne (Ne.symm hj)] at e2
   obtain ⟨u', r', q⟩ := hl j y v' e1 e2 e3
   refine ⟨u', r', ?_⟩
   rcases q with ⟨k, e⟩ | ⟨k, c, e, z⟩
   ·refine .inl ⟨k, ?_⟩
    have : y ≠ x := fun e => hj (nodup_ix hN e1 (e ▸ hi))
    simp [this, e]
   ·exact .inr ⟨k, c, e, z.sameBut hs (cne y c e)⟩
 ·obtain ⟨w', z⟩ := I.cell y c e
  exact ⟨w', z.sameBut hs (cne y c e)⟩
 ·obtain ⟨e, n, ne, nf, d⟩ := I.pin p hp
  exact ⟨(hs.2 p.1 ne).trans e, n, ne, nf, d⟩
theorem Inv.track {a : Addr} {o : HO} (I : Inv X pins σ H s) (hn : H a = none) (new : X.s₀.heap.get? a = none) (hL : X.env.locals ≠ a) (hC : ∀ x c, X.env.cells.lookup x = some c → c ≠ a) (hp : ∀ p ∈ X.pn ++ pins, p.1 ≠ a)
  (hO : ObjOk X.prog X.w (upd H a o) s.heap a o) : Inv X pins σ (upd H a o) s := by
 have ne : ∀ b u, H b = some u → b ≠ a := fun b u q z => by rw [z, hn] at q; cases q
 have nw : ∀ b u, X.s₀.heap.get? b = some u → b ≠ a := fun b u q z => by rw [z, new] at q; cases q
 refine ⟨I.ok, I.os, I.bare, ⟨I.base.keep, I.base.slot, fun b u q n hx => by rw [upd_ne (nw b u q)]; exact I.base.free b u q n hx, I.base.there, fun b xs q => ?_, fun b u xs q => ?_, fun b ps q => ?_⟩, I.loc, I.cell, by rw [upd_ne hL]; exact I.free, fun x c e => by rw [upd_ne (hC x c e)]; exact I.freeC x c e, fun p z => ?_, fun b u e => ?_, I.len⟩
 ·have := I.base.tups b xs q
  rw [upd_ne (ne _ _ this)]; exact this
 ·have := I.base.frzs b u xs q
  rw [upd_ne (ne _ _ this)]; exact this
 ·obtain ⟨m, this⟩ := I.base.tbls b ps q
  exact ⟨m, by rw [upd_ne (ne _ _ this)]; exact this⟩
 ·obtain ⟨e, n, ne', nf, d⟩ := I.pin p z
  exact ⟨e, by rw [upd_ne (hp p z)]; exact n, ne', nf, d⟩
 ·by_cases h : b = a
  ·subst h
   rw [upd_same] at e
   cases e
   exact hO
  ·rw [upd_ne h] at e
   exact (I.hok b u e).stay (fun _ _ _ q => q) (fun c q => by rw [upd_ne (ne _ _ q)]; exact q) fun c xs q => by rw [upd_ne (ne _ _ q)]; exact q
end
section
variable {X : Cx} {S : Addr} {cls n c : Str} {i j : Nat} {np cp np2 apos hpos pos : Pos} {body : List Stmt} {tb : XK → TS}
def tTry (K : PySem.W.Frag) (S : Addr) (i j : Nat) (tb : XK → TS) : TS := fun D σ H =>
 tb (fun C _ H' => PySem.W.exmOne K C (.ref S) = some true ∧ ∀ ea : Addr, H' ea = none → D.nx ((σ.set i (some (.ref ea))).set j none) (upd H' ea (.ext (ExcAt ea C)))) D σ H
theorem ps_try (hb : PB X body tb) (hst : X.stack = X.env :: X.outer) (hfr : X.env.frame = some X.env.locals) (hex : X.ex = []) (hN : X.N.Nodup) (hg : Gl X cls) (hm : X.mg cls = some (.ref S)) (hi : X.N[i]? = some c) (hc : Loc X.env.scope c)
  (hj : X.N[j]? = some n) (hn : X.env.scope.names.lookup n = some .local) (hij : i ≠ j)
  (hd : (cls == ("__debug__" : Str)) = false := by decide) (hnd : (n == ("__debug__" : Str)) = false := by decide) (hcd : (n == ("__classdict__" : Str)) = false := by decide)
  (hs : swapsWith (.Name n np2) (some (.Name c cp)) apos.line X.env = pure false := by rfl) (hf : X.fn c = true ∨ X.env.scope.names.lookup c = some .local := by first | exact .inl rfl | exact .inr rfl | assumption) :
  PS X (.Try body [.ExceptHandler (some (.Name cls np)) (some n) [.Assign [.Name c cp] (.Name n np2) apos] hpos] [] [] pos) (tTry X.K S i j tb) := by
 intro pins s σ H D I h
 refine wpAny_Try_except (wpAny_mono (hb pins s σ H D _ (fun e s₁ => wpAny (model X.prog X.w) X.A (noteFrame e X.env) (fun _ s₂ => wpAny (model X.prog X.w) X.A (setFlight e none) (fun _ s₃ => wpAny (model X.prog X.w) X.A (handleBy e X.env [.ExceptHandler (some (.Name cls np)) (some n) [.Assign [.Name c cp] (.Name n np2) apos] hpos]) (SP X pins D) X.xe s₃) X.xe s₂) X.xe s₁) I (fun H1 s1 e s' I1 hx => ?_) h) (fun fl s1 q => ?_) fun _ _ z => z)
 ·obtain ⟨ea, C, a0, H', B, rfl, os, bare, un, hok, fl, hB, hn', hE, hk⟩ := hx
  rw [hst] at fl
  refine wpAny_looks_onW (outer := X.outer) (by rw [I1.ok.frames, hst]) hfr fl fun h₄ held₄ up₄ => ?_
  refine wpAny_landsW held₄ fun h₅ fl₅ up₅ => ?_
  have J := I1.flown os bare un hok hB fl₅.1 (up₄.trans up₅)
  have LT : PySem.W.Looks (model X.prog X.w) h₅ (typeOf (.ref ea)) C := by
   obtain ⟨ob, hob, hobc⟩ := fl₅.there
   exact hobc ▸ (PySem.W.Looks.ld hob).andThen .now
  refine wpAny_handleBy_cons (codeAny_handlers_test (ld_glob (J.mark (.ref ea)) hg hm ?_ hd)) (by intro q; cases q)
  refine PySem.W.Looks.here (PySem.W.exm_one (K := X.K) J.kIn LT hE) ?_
  refine codeAny_handlers_suite_as (lands_againW fl₅ fun h₆ fl₆ up₆ => ?_)
  have J6 := I1.flown os bare un hok hB fl₆.1 ((up₄.trans up₅).trans up₆)
  obtain ⟨oe, ws, hoe, hoec, hoed, _⟩ := fl₆.first
  have nofr : ea ∉ frs X.stack := fun m => by
   rw [hst] at m
   obtain ⟨_, o, q, nf⟩ := fl₆.2.2.1.mem m
   rw [hoe] at q
   cases q
   exact nf _ hoed
  have inB : ∀ b o, s1.heap.get? b = some o → b ∉ frs X.stack → b ≠ ea := fun b o q m z => by
   obtain ⟨o', q'⟩ := un.there b o q (by simp)
   have e := hB b o' q' (.inl ⟨⟨o, q⟩, m⟩)
   rw [z, fl₆.2.1] at e
   cases e
  have hLs : X.env.locals ∈ frs X.stack := by
   rw [hst]
   unfold frs
   rw [List.filterMap_cons, hfr]
   exact List.mem_cons_self
  have T : Inv X pins σ (upd H' ea (.ext (ExcAt ea C))) { s' with heap := h₆ } := by
   refine J6.track hn' ?_ (fun z => nofr (z ▸ hLs)) (fun x c e z => ?_) (fun p hp => ?_) ⟨⟨oe, ws, hoe, hoec, hoed⟩, ⟨oe, hoe⟩, fun a b ⟨o, us, q1, q2⟩ k => ⟨o, us, k o q1, q2⟩⟩
   ·cases q : X.s₀.heap.get? ea with
    | none => rfl
    | some o =>
     have ib := I1.base
     rw [hex] at ib
     obtain ⟨o1, q1⟩ := ib.there ea o q (by simp)
     exact absurd rfl (inB ea o1 q1 nofr)
   ·obtain ⟨v, o, q, d⟩ := J6.cell x c e
    have q' : h₆.get? c = some o := q
    rw [z, hoe] at q'
    cases q'
    rw [hoed] at d
    cases d
   ·obtain ⟨e, n, ne, nf, d⟩ := I1.pin p hp
    refine inB p.1 p.2 e fun m => ?_
    rw [hst] at m
    unfold frs at m
    rw [List.filterMap_cons, hfr] at m
    rcases List.mem_cons.mp m with z | z
    ·exact ne z
    ·exact nf z
  have hjσ : j < σ.length := by rw [I1.len]; exact (List.getElem?_eq_some_iff.mp hj).1
  refine store_ok T hN hj (.inl hn) (show RelV (.ref ea) (.ref ea) from rfl) (fun s7 I7 => ?_) (.inr hn)
  refine wpAny_mono (pss_one (ps_set (X := X.mark (.ref ea)) hN hi hc (pe_var hj (.inl hn) hnd hcd) hs hf) pins s7 _ _ { nx := fun σ' H'' => σ' = (σ.set j (some (.ref ea))).set i (some (.ref ea)) ∧ H'' = upd H' ea (.ext (ExcAt ea C)), rt := fun _ _ => False } (I7.mark (.ref ea)) ⟨.ref ea, List.getElem?_set_self hjσ, rfl, rfl⟩) (fun fl s8 q => ?_) (fun _ _ z => z.elim)
  cases fl with
  | next =>
   obtain ⟨σ', H'', I8, rfl, rfl⟩ := q
   refine goes_ok (Inv.unmark I1.ok I8) hN hj hn fun s9 I9 => ⟨_, _, I9, ?_⟩
   have e : ((σ.set j (some (V.ref ea))).set i (some (.ref ea))).set j none = (σ.set i (some (.ref ea))).set j none := by
    rw [List.set_comm _ _ (Ne.symm hij), List.set_set]
   rw [e]
   exact hk ea hn'
  | ret v => obtain ⟨_, _, _, _, _, z⟩ := q; exact z.elim
  | brk => obtain ⟨_, _, _, z⟩ := q; exact z.elim
  | cont => obtain ⟨_, _, _, z⟩ := q; exact z.elim
 ·cases fl with
  | next => exact wpAny_execs_nil q
  | ret v => exact q
  | brk => exact q
  | cont => exact q
end
end L2
namespace L2
open PySem PySem.Spec PyProof.Rows PySem.W PySem.Builtin PySem.Builtin.ObjectAttr PySem.Builtin.Getset_descriptor
section
variable {prog : Program} {w : World} {A : Around} {E : Value → Shared → Prop} {h : Heap} {g : Array GenState} {d : Drawn} {t : Nat} {os : OsState} {K : PySem.W.Frag} {a C : Addr} {o : Obj}
theorem exc_class_get {tp : Value} {R : Result → Shared → Prop} (X : K.In h) (hx : h.get? a = some o) (hc : o.cls = .ref C) (hm : mroIn K C (.type "object") = some true)
  (q : R (.ok (.ret (.ref C))) ⟨h, g, d, t, os⟩) : codeAny (model prog w) A (.call (.builtin "getset_descriptor.__get__") ⟨[.builtin "object.__class__", .ref a, tp], []⟩) R ⟨h, g, d, t, os⟩ := by
 have L0 : Looks (model prog w) h (typeOf (.ref a)) (.ref C) := hc ▸ (Looks.ld hx).andThen .now
 have L1 := looks_mroIn (M := model prog w) X hm
 refine codeAny_call_builtin KF.slot_gs.plain KF.entry_gs (KF.slot_gs.check _ _ _ _ _ _ _ _ KF.type_class (KF.args_gs _ _ _) ?_)
 unfold Builtin.«getset_descriptor.__get__» descrGet
 rw [dga_obj]
 refine wpAny_bind (wpAny_pure ?_)
 unfold descrGetter descrCheckInstance descrNameAndClass isInstance
 simp only [KF.owner_class]
 repeat lk
 refine ⟨Code.quiet_builtin _ (by decide +kernel), codeAny_builtin KF.entry_class ?_⟩
 unfold Builtin.«object.__class__» shownTypeOf
 repeat lk
 exact q
structure ExcCls (K : PySem.W.Frag) (C : Addr) : Prop where
 ga : findIn K (.ref C) "__getattribute__" = some (some (.builtin "BaseException.__getattribute__"))
 gh : findIn K (.ref C) "__getattr__" = some none
 ca : findIn K (.ref C) "__class__" = some (some (.builtin "object.__class__"))
 ob : mroIn K C (.type "object") = some true
 be : mroIn K C (.type "BaseException") = some true
 cl : (clsIn K C).isSome = true
 hn : specialIn K (.builtin "object.__class__") "__get__" = some (some (.builtin "getset_descriptor.__get__"))
 htk : takesIn K (.builtin "object.__class__") = some true
theorem exc_find {M : Model} (X : K.In h) (c : ExcCls K C) : Looks M h (find (.ref a) (.ref C) "__class__") (.bind (.builtin "getset_descriptor.__get__") (.builtin "object.__class__")) := by
 refine (looks_findIn X c.ca).andThen ((looks_specialIn X c.hn).andThen ?_)
 exact (show Looks M h (dataDescriptor? (some (.builtin "object.__class__")) (some (.builtin "getset_descriptor.__get__"))) _ from (looks_takesIn X c.htk).andThen .now).andThen (Looks.tag .now)
theorem exc_entry {tk : Tok} {Q : Fin → Shared → Prop} (X : K.In h) (c : ExcCls K C) (hx : h.get? a = some o) (hc : o.cls = .ref C) (q : Q (.done (.ret (.ref C))) ⟨h, g, d, t, os⟩) :
  wpAny (model prog w) A (Builtin.«object.__getattribute__» ⟨[.ref a, .str "__class__" tk], []⟩) Q E ⟨h, g, d, t, os⟩ := by
 have L0 : Looks (model prog w) h (typeOf (.ref a)) (.ref C) := hc ▸ (Looks.ld hx).andThen .now
 have L1 := exc_find (M := model prog w) (a := a) X c
 unfold Builtin.«object.__getattribute__»
 refine wpAny_bind (wpAny_pure (wpAny_bind (wpAny_pure (wpAny_bind (L0.at (wpAny_bind (L1.at ?_)))))))
 refine wpAny_bind (wpAny_holding (wpAny_call (exc_class_get X hx hc c.ob ?_)))
 exact wpAny_pure q
theorem exc_check {M : Model} {nameV : Value} {Q : Unit → Shared → Prop} (X : K.In h) (c : ExcCls K C) (hx : h.get? a = some o) (hc : o.cls = .ref C) (q : Q () ⟨h, g, d, t, os⟩) : wpAny M A (checkBuiltinCall "BaseException.__getattribute__" ⟨[.ref a, nameV], []⟩) Q E ⟨h, g, d, t, os⟩ := by
 have hk : builtinKind "BaseException.__getattribute__" = some .slot := by decide +kernel
 have hsplit : splitId "BaseException.__getattribute__" = some ("BaseException", "__getattribute__") := by decide +kernel
 have ha := F.args_bexc_ga (.ref a) nameV
 have L0 : Looks M h (typeOf (.ref a)) (.ref C) := hc ▸ (Looks.ld hx).andThen .now
 have LI : Looks M h (isInstance (.ref a) (.type "BaseException")) true := L0.andThen (looks_mroIn X c.be)
 simp only [checkBuiltinCall, hk, hsplit]
 refine wpAny_bind (LI.at ?_)
 repeat (first | wp_step)
 exact q
theorem exc_by {tk : Tok} {Q : Value → Shared → Prop} (X : K.In h) (c : ExcCls K C) (hx : h.get? a = some o) (hc : o.cls = .ref C) (q : Q (.ref C) ⟨h, g, d, t, os⟩) :
  wpAny (model prog w) A (getAttrBy (.ref a) (.str "__class__" tk) false) Q E ⟨h, g, d, t, os⟩ := by
 have L0 : Looks (model prog w) h (typeOf (.ref a)) (.ref C) := hc ▸ (Looks.ld hx).andThen .now
 have L1 := looks_findIn (M := model prog w) X c.ga
 have L2 := looks_findIn (M := model prog w) X c.gh
 have hb : bindSpecial (.builtin "BaseException.__getattribute__") (.ref a) = pure (.builtin "BaseException.__getattribute__", [.ref a]) := by
  have hop : withoutEnding? "BaseException.__getattribute__" "#opaque" = none := by decide +kernel
  have hdat : withoutEnding? "BaseException.__getattribute__" "#data" = none := by decide +kernel
  have hk : builtinKind "BaseException.__getattribute__" = some .slot := by decide +kernel
  simp only [bindSpecial, typeOf, builtinType, hop, hdat, hk]; rfl
 have hx2 : (Value.builtin "BaseException.__getattribute__" == Value.builtin "object.__getattribute__") = false := by decide +kernel
 have hx1 : (onTheHeap (Value.ref C) && Value.builtin "BaseException.__getattribute__" == Value.builtin "object.__getattribute__") = false := by rw [hx2]; rfl
 unfold getAttrBy
 refine wpAny_holding (wpAny_bind (L0.at (wpAny_bind (L1.at ?_))))
 dsimp only
 rw [hx1, if_neg Bool.false_ne_true]
 unfold getAttrByItsOwn hookBefore
 rw [show onTheHeap (Value.ref C) = true from rfl, if_pos rfl]
 refine wpAny_bind (L2.at (wpAny_bind (wpAny_attempt (wpAny_holding ?_))))
 unfold callGetattribute
 rw [Bool.false_and, if_neg Bool.false_ne_true]
 unfold boundAndCalled
 rw [hb]
 refine wpAny_bind (wpAny_pure ?_)
 refine wpAny_call (codeAny_call_builtin (by decide +kernel) F.entry_bexc_ga (exc_check X c hx hc (exc_entry X c hx hc ?_)))
 exact wpAny_pure q
theorem kitx_exc (c : ExcCls K C) : KitX K (.ref a) (.ref C) (ExcAt a (.ref C)) where
 ty := fun _ _ _ ⟨_, _, hx, hc, _⟩ => hc ▸ (Looks.ld hx).andThen .now
 it := fun _ _ X _ => by
  have hcD := c.cl
  unfold clsIn at hcD
  split at hcD
  ·rename_i c' d' cd' sl' ho
   intro A' Q' E' s' k q
   unfold isType loadHead
   exact wpAny_bind (wpAny_loadPart (k _ _ (X _ _ ho)) (wpAny_pure q))
  ·cases hcD
 ne := fun h tp dd its n sl X htp => by
  have hcD := c.cl
  refine Bool.eq_false_iff.mpr fun q => ?_
  have e : C = tp := Value.ref.inj (beq_iff_eq.mp q)
  subst e
  unfold clsIn at hcD
  split at hcD
  ·rename_i c' d' cd' sl' ho
   have z := (X _ _ ho).symm.trans htp
   cases z
  ·cases hcD
 ca := fun {_ _ _ _ _ s} X ⟨_, _, hx, hc, _⟩ k => by
  obtain ⟨h, g, d, t, os⟩ := s
  unfold getAttr? getAttrBy?
  refine wpAny_bind (wpAny_mkText (wpAny_bind (wpAny_attempt (exc_by X c hx hc ?_))))
  exact wpAny_pure k
end
end L2
namespace L2
open PySem PySem.Spec PyProof.Rows
def rIsiE (K : PySem.W.Frag) : List V → Hp → VK → Prop := fun vs H Q => ∃ (ea D : Addr) (c : V) (cv : Value) (b : Bool), vs = [.ref ea, c] ∧ H ea = some (.ext (ExcAt ea (.ref D))) ∧ ExcCls K D ∧ (∀ u, RelV c u → u = cv) ∧ PySem.W.kitOne K (.ref D) cv = some b ∧ Q (.bl b) H
theorem call_isiE {X : Cx} : CallR X (.builtin "isinstance") (rIsiE X.K) := by
 intro pins s σ H vs us Q I r ⟨ea, D, c, cv, b, e, h, hc, hu, hk, q⟩
 subst e
 obtain ⟨u, v, rfl, h1, h2⟩ := r.two
 cases h1
 cases hu _ h2
 have ho : ExcAt ea (.ref D) s.heap := (I.hok ea _ h).1
 exact PySem.W.kia_one (kitx_exc hc) I.kIn ho hk (fun z => nomatch z) fun tk => ⟨.bl b, H, I.tok tk, rfl, q⟩
end L2
namespace L2
open PySem PySem.Spec PyProof.Rows
def noE (sp : Sp) : Sp := fun vs H Q _ => sp vs H Q fun _ _ _ => False
theorem FnOk.cx0 {P : Program} {w : World} {K : PySem.W.Frag} {mg : Str → Option Value} {base : Heap} {k : Nat} {f : Addr} {fd : FuncData} {ps : List Str} {sp : Sp} (F : FnOk P w K mg base (CX1 P w) k f fd ps sp) : FnOk P w K mg base CX0 k f fd ps (noE sp) :=
 ⟨fun vs H Q E h => F.len vs H Q _ h, fun A outer s H args us vs Q E hr he hb hv hs => codeAny_mono (F.run A outer s H args us vs Q _ hr he hb hv hs) fun r s' q => by
  cases r with
  | error e =>
   obtain ⟨ea, C, a0, H', B, _, _, _, _, _, _, _, _, z⟩ := q
   exact z.elim
  | ok fl => cases fl <;> exact q⟩
end L2
namespace L2
open PySem PySem.Spec PyProof.Rows
theorem DatAll.get {H : Hp} : ∀ {xs : List V} {ds : List PyData}, DatAll H xs ds → ∀ {j : Nat} {x : V}, xs[j]? = some x → ∃ d, ds[j]? = some d ∧ Dat H x d
 | _, _, .nil, _, _, h => by cases h
 | _, _, .cons a t, 0, _, h => by cases h; exact ⟨_, rfl, a⟩
 | _, _, .cons _ t, j + 1, _, h => t.get (j := j) h
end L2
namespace L2
open PySem PySem.Spec PyProof.Rows
section
variable {X : Cx}
end
section
variable {X : Cx} {k : Nat} {f : Addr} {fd : FuncData} {ps : List Str} {sp : Sp} {dvs : List V} {ds : List Value} {x y : Str} {i : Nat} {p pos pos' cpos : Pos} {e : Expr} {es : List Expr} {t : TA}
end
end L2
namespace L2
open PySem PySem.Spec PyProof.Rows
end L2
namespace L2
open PySem PySem.Spec PyProof.Rows
theorem FnOk.cx1 {P : Program} {w : World} {K : PySem.W.Frag} {mg : Str → Option Value} {base : Heap} {k : Nat} {f : Addr} {fd : FuncData} {ps : List Str} {sp : Sp} (F : FnOk P w K mg base CX0 k f fd ps sp) : FnOk P w K mg base (CX1 P w) k f fd ps sp :=
 ⟨F.len, fun A outer s H args us vs Q E hr he hb hv hs => codeAny_mono (F.run A outer s H args us vs Q E hr he hb hv hs) fun r s' q => by
  cases r with
  | error e => exact False.elim q
  | ok fl => cases fl <;> exact q⟩
end L2
namespace N17
open PySem PySem.Spec PyProof.Rows L2
abbrev Kee (K : PySem.W.Frag) (f : Addr) : Prop := PySem.W.keepIn K (.ref f) = true
theorem two_le : 2 ≤ sizeLine := by decide
variable {P : Program} {w : World} {K : PySem.W.Frag} {mg : Str → Option Value} {base : Heap}
def top (i : Nat) : Stmt := PySem.Challenge.pw_nearsums_k17_no_plans_no_numbers_no_rows.main.body.getD i (.Pass ⟨0, 0, 0, 0⟩)
structure Bt (mg : Str → Option Value) : Prop where
 len : mg "len" = none
 max : mg "max" = none
 min : mg "min" = none
 range : mg "range" = none
 list : mg "list" = none
 int : mg "int" = none
structure Dk (H : Hp) (d p : Addr) (qs : List Addr) : Prop where
 dk : ∃ c : Int, H d = some (.lst [.ref p, .int c])
 pl : H p = some (.lst (qs.map V.ref))
 ne : 0 < qs.length
 le : qs.length ≤ 63
 q : ∀ q ∈ qs, ∃ a b c : Int, H q = some (.lst [.int a, .int b, .int c])
theorem small {n : Nat} (h : n ≤ 1000) : n ≤ sizeLine := Nat.le_of_lt (small1000 h)
structure Bt2 (mg : Str → Option Value) : Prop extends Bt mg where
 all : mg "all" = none
 isinstance : mg "isinstance" = none
 bool : mg "bool" = none
 str : mg "str" = none
 tuple : mg "tuple" = none
 sorted : mg "sorted" = none
theorem none_of_same {H H' : Hp} {p : Addr} (g : Same H H') (h : H' p = none) : H p = none := by
 cases e : H p with
 | none => rfl
 | some o => rw [g _ _ e] at h; cases h
structure Rise (xs : List Int) : Prop where
 up : xs.Pairwise (· < ·)
 bd : ∀ x ∈ xs, 0 ≤ x
structure PlanOk (ns ss : List Int) : Prop where
 n : Rise ns
 s : Rise ss
 n1 : 1 ≤ ns.length
 n2 : ns.length ≤ 10
 s2 : ss.length ≤ 10
theorem comp_true {x : V} {σ : L2.St} {H : Hp} {A B : L2.St → Hp → Prop} (h : A (σ.set 0 (some x)) H) : gName 0 x σ H fun σ2 H2 => tTrue σ2 H2 fun b H3 => if b = true then A σ2 H3 else B σ2 H3 := by
 have z : (if true = true then A (σ.set 0 (some x)) H else B (σ.set 0 (some x)) H) := iteT h
 exact z
theorem erase_map {α β : Type} (f : α → β) : ∀ (l : List α) (i : Nat), (l.map f).eraseIdx i = (l.eraseIdx i).map f
 | [], _ => rfl
 | _ :: _, 0 => rfl
 | x :: r, i + 1 => by
  rw [List.map_cons, List.eraseIdx_cons_succ, List.eraseIdx_cons_succ, List.map_cons, erase_map f r i]
theorem perm_erase {α : Type} : ∀ {l : List α} {i : Nat} (h : i < l.length), (l[i] :: l.eraseIdx i).Perm l
 | x :: r, 0, _ => List.Perm.refl _
 | x :: r, i + 1, h => by
  have h' : i < r.length := by simpa using h
  show (r[i] :: x :: r.eraseIdx i).Perm (x :: r)
  exact (List.Perm.swap _ _ _).trans (List.Perm.cons x (perm_erase h'))
def SumsOk (H : Hp) (sd : Addr) (n : Nat) : Prop := ∃ (kvs : List (Key × V)) (ks : List Int), H sd = some (.dK kvs) ∧ kvs.map (·.1) = ks.map Sum.inl ∧ ks.Nodup ∧ (∀ x ∈ ks, 0 ≤ x ∧ x < 2 ^ 96) ∧ ks.length ≤ n
theorem SumsOk.stay {H H' : Hp} {sd : Addr} {n : Nat} (h : SumsOk H sd n) (e : ∀ {o}, H sd = some o → H' sd = some o) : SumsOk H' sd n := by
 obtain ⟨kvs, ks, h1, h2⟩ := h
 exact ⟨kvs, ks, e h1, h2⟩
theorem SumsOk.upto {H : Hp} {sd : Addr} {n m : Nat} (h : SumsOk H sd n) (e : n ≤ m) : SumsOk H sd m := by
 obtain ⟨kvs, ks, h1, h2, h3, h4, h5⟩ := h
 exact ⟨kvs, ks, h1, h2, h3, h4, Nat.le_trans h5 e⟩
theorem SumsOk.more {H : Hp} {sd : Addr} {n : Nat} (h : SumsOk H sd n) : SumsOk H sd (n + 1) := h.upto (Nat.le_succ _)
theorem SumsOk.put {H : Hp} {sd : Addr} {n : Nat} {x : Int} (h : SumsOk H sd n) (x0 : 0 ≤ x) (x1 : x < 2 ^ 96) : ∃ kvs, H sd = some (.dK kvs) ∧ kvs.length ≤ n ∧ SumsOk (upd H sd (.dK (putK kvs (Sum.inl x) (.bl true)))) sd (n + 1) := by
 obtain ⟨kvs, ks, h1, h2, h3, h4, h5⟩ := h
 have hl : kvs.length = ks.length := by have := congrArg List.length h2; simpa using this
 refine ⟨kvs, h1, by omega, _, _, upd_same, putK_keys h2, ?_, ?_, ?_⟩
 ·split
  ·exact h3
  ·rename_i hx
   refine List.nodup_append.mpr ⟨h3, List.nodup_cons.mpr ⟨(fun h => nomatch h), List.nodup_nil⟩, fun a ha b hb e => ?_⟩
   have : b = x := List.mem_singleton.mp hb
   exact hx (this ▸ e ▸ ha)
 ·intro y hy
  split at hy
  ·exact h4 y hy
  ·rcases List.mem_append.mp hy with z | z
   ·exact h4 y z
   ·rw [List.mem_singleton.mp z]; exact ⟨x0, x1⟩
 ·split
  ·omega
  ·rw [List.length_append, List.length_singleton]; omega
theorem strict {xs : List Int} (h : xs.Pairwise (· ≤ ·)) (n : xs.Nodup) : xs.Pairwise (· < ·) := by
 induction xs with
 | nil => exact .nil
 | cons x r ih =>
  rw [List.pairwise_cons] at h ⊢
  rw [List.nodup_cons] at n
  refine ⟨fun y hy => ?_, ih h.2 n.2⟩
  have h1 := h.1 y hy
  have h2 : x ≠ y := fun e => n.1 (e ▸ hy)
  omega
def uptoN (m : Nat) : List Int := (List.range m).map fun k : Nat => 1 + (k : Int)
theorem uptoN_rise (m : Nat) (h : m ≤ 10) : Rise (uptoN m) ∧ ∀ x ∈ uptoN m, x < 2 ^ 96 := by
 have key : ∀ m : _root_.Fin 11, (uptoN m.val).Pairwise (· < ·) ∧ (∀ x ∈ uptoN m.val, 0 ≤ x) ∧ ∀ x ∈ uptoN m.val, x < 2 ^ 96 := by decide +kernel
 have k := key ⟨m, by omega⟩
 exact ⟨⟨k.1, k.2.1⟩, k.2.2⟩
theorem uptoN_is (n : Int) : ((List.range (n + 1 - 1).toNat).map fun k : Nat => V.int (1 + (k : Int))) = (uptoN n.toNat).map V.int := by
 have e : n + 1 - 1 = n := by omega
 rw [e]
 unfold uptoN
 rw [List.map_map]
 rfl
structure Bt3 (mg : Str → Option Value) : Prop extends Bt2 mg where
 enumerate : mg "enumerate" = none
abbrev sDs : Stmt := top 42
abbrev sTk : Stmt := top 43
structure BtA (mg : Str → Option Value) : Prop extends Bt3 mg where
 abs : mg "abs" = none
structure Sto (H : Hp) (d p : Addr) : Prop where
 at_ : ∃ c : Int, H d = some (.lst [.ref p, .int c])
 pl : ∃ xs : List Int, H p = some (.lst (xs.map V.int)) ∧ 0 < xs.length ∧ xs.length ≤ 1000 ∧ ∀ x ∈ xs, 0 ≤ x
theorem Sto.ne {H : Hp} {d p : Addr} (S : Sto H d p) : p ≠ d := fun e => by
 obtain ⟨c, hc⟩ := S.at_
 obtain ⟨xs, hx, h0, _⟩ := S.pl
 rw [e, hc] at hx
 cases xs with
 | nil => exact absurd h0 (by decide)
 | cons x r => cases hx
theorem Sto.ex {H H' : Hp} {d p : Addr} (S : Sto H d p) (g : Same H H') : Sto H' d p := ⟨let ⟨c, h⟩ := S.at_; ⟨c, g _ _ h⟩, let ⟨xs, h, r⟩ := S.pl; ⟨xs, g _ _ h, r⟩⟩
def OffD (d : Addr) (H H' : Hp) : Prop := ∀ b, b ≠ d → H' b = H b
theorem OffD.ex {d : Addr} {H H' : Hp} (o : OffD d H H') : Ex (· = d) H H' := fun b u n h => (o b n).trans h
def spTk : Sp := fun vs H Q _ => ∃ (d p : Addr) (many : Int), vs = [.ref d, .int many] ∧ Sto H d p ∧ 0 < many ∧ ∀ (r : Int) (H' : Hp), 0 ≤ r → r < many → Sto H' d p → OffD d H H' → Q (.int r) H'
def spDs (K : PySem.W.Frag) : Sp := fun vs H Q _ => ∃ (a : Addr) (ns : List Int), vs = [.ref a, .int 400] ∧ SqL K H a (ns.map V.int) ∧ ns.length ≤ 63 ∧
 ∀ (p : Addr) (xs : List Int) (H' : Hp), Same H H' → H p = none → H' p = some (.lst (xs.map V.int)) → 0 < xs.length → xs.length ≤ 1000 → (∀ x ∈ xs, 0 ≤ x) → Q (.ref p) H'
theorem cut63 (ns : List Int) (h : ns.length ≤ 63) : cutV (ns.map V.int) none (some 63) = ns.map V.int := by
 unfold cutV
 have h1 : HT.sIx (ns.map V.int).length 0 none = 0 := rfl
 have h2 : HT.sIx (ns.map V.int).length (ns.map V.int).length (some 63) = ns.length := by
  unfold HT.sIx
  rw [List.length_map]
  simp
  omega
 rw [h1, h2, List.drop_zero, Nat.sub_zero, ← List.length_map (f := V.int), List.take_length]
section
variable {f : Addr} {fd : FuncData}
theorem scTk : FnScope ["store", "many"] ["store", "many"] (defScope sTk) := ⟨rfl, rfl, rfl, by decide +kernel, rfl, by decide +kernel, by decide +kernel⟩
theorem ok_tk (F : Fun K "_law_take" "_law_take" sTk f fd) (B : Bt3 mg) : FnOk P w K mg base CX0 1 f fd ["store", "many"] spTk := by
 refine F.ok scTk (fun vs H Q E h => ?_) (fun cdv A outer s H vs Q E hr h => ?_)
 ·obtain ⟨d, p, many, rfl, _⟩ := h
  rfl
 obtain ⟨d, p, many, rfl, S, hm, q⟩ := h
 refine ⟨_, (@pss_cons _ _ _ _ _ (ps_asg (pe_op op_add (pe_ix ix_list (pv 0) pe_int (fun _ _ => rfl)) pe_int) (pg_sub (pv 0) pe_int set_list)) (@pss_one _ _ _ (ps_ret (pe_op op_mod (pe_ix ix_list (pe_ix ix_list (pv 0) pe_int (fun _ _ => rfl)) (pe_op op_mod (pe_op op_sub (pe_ix ix_list (pv 0) pe_int (fun _ _ => rfl)) pe_int) (pe_callB call_len_seq rfl B.len PySem.boot_len (pa_cons (pe_ix ix_list (pv 0) pe_int (fun _ _ => rfl)) pa_nil))) (fun _ _ => rfl)) (pv 1))))), ?_⟩
 obtain ⟨c, hd⟩ := S.at_
 obtain ⟨xs, hx, x0, x1000, xn⟩ := S.pl
 have pd := S.ne
 refine ⟨_, rfl, d, _, 1, _, rfl, rfl, SqL.of hd, rfl, _, _, rfl, rfl, _, rfl, d, _, 1, 1, rfl, rfl, hd, rfl, ?_⟩
 have hd1 : (upd H d (.lst [.ref p, .int (c + 1)])) d = some (.lst [.ref p, .int (c + 1)]) := upd_same
 have hx1 : (upd H d (.lst [.ref p, .int (c + 1)])) p = some (.lst (xs.map V.int)) := by rw [upd_ne pd]; exact hx
 have xml : (xs.map V.int).length = xs.length := List.length_map _
 have hpos : (0 : Int) < (((xs.map V.int).length : Nat) : Int) := by rw [xml]; omega
 have hr0 := Int.emod_nonneg (c + 1 - 1) (show (((xs.map V.int).length : Nat) : Int) ≠ 0 by omega)
 have hr1 := Int.emod_lt_of_pos (c + 1 - 1) hpos
 obtain ⟨x, ax, mx⟩ := pick_int xs (r := (c + 1 - 1) % (((xs.map V.int).length : Nat) : Int)) hr0 (by rw [xml] at hr1 ⊢; exact hr1)
 refine ⟨_, rfl, d, _, 0, _, rfl, rfl, SqL.of hd1, rfl, _, rfl, d, _, 1, _, rfl, rfl, SqL.of hd1, rfl, _, _, rfl, rfl, _, rfl, d, _, 0, _, rfl, rfl, SqL.of hd1, rfl, p, _, rfl, .inl (SqL.of hx1), _, _, rfl, rfl, hpos, p, _, _, _, rfl, rfl, SqL.of hx1, ax, _, rfl, _, _, rfl, rfl, hm, ?_⟩
 exact q _ _ (Int.emod_nonneg _ (by omega)) (Int.emod_lt_of_pos _ hm) ⟨⟨_, hd1⟩, ⟨xs, hx1, x0, x1000, xn⟩⟩ (fun b hb => upd_ne hb)
theorem scDs : FnScope ["script", "many", "drawn", "base", "k", "cell", "number", "one"] ["script", "many"] (defScope sDs) := ⟨rfl, rfl, rfl, by decide +kernel, rfl, by decide +kernel, by decide +kernel⟩
theorem ok_ds (F : Fun K "_law_draws" "_law_draws" sDs f fd) (B : BtA mg) : FnOk P w K mg base CX0 1 f fd ["script", "many"] (spDs K) := by
 refine F.ok scDs (fun vs H Q E h => ?_) (fun cdv A outer s H vs Q E hr h => ?_)
 ·obtain ⟨a, ns, rfl, _⟩ := h
  rfl
 obtain ⟨a, ns, rfl, hS, h63, q⟩ := h
 refine ⟨_, (@pss_cons _ _ _ _ _ (ps_set (i := 2) scDs.nd rfl (Or.inl rfl) (pe_lst pa_nil)) (@pss_cons _ _ _ _ _ (ps_set (i := 3) scDs.nd rfl (Or.inl rfl) pe_int) (@pss_cons _ _ _ _ _ (ps_for PassesOwn.never rfl (pi_enum rfl B.enumerate (pa_cons (pe_slice sl_list (pv 0) po_none (po_some pe_int)) pa_nil)) (pg_tup rfl (pgs_cons (pg_name (i := 4) scDs.nd rfl (Or.inl rfl)) (pgs_cons (pg_name (i := 5) scDs.nd rfl (Or.inl rfl)) pgs_nil))) (@pss_cons _ _ _ _ _ (ps_set (i := 6) scDs.nd rfl (Or.inl rfl) (pe_callB call_abs rfl B.abs boot_abs (pa_cons (pv 5) pa_nil))) (@pss_cons _ _ _ _ _ (ps_set (i := 3) scDs.nd rfl (Or.inl rfl) (pe_op op_mod (pe_op op_add (pe_op op_mul (pv 3) pe_int) (pv 6)) pe_int)) (@pss_one _ _ _ (ps_if (pt_cmpR op_ge (pv 6) (pe_op op_pow pe_int pe_int) (nomark _)) (@pss_one _ _ _ (ps_while PassesOwn.never (PW.pt (pw_and (pt_cmpR op_gt (pv 6) pe_int (nomark _)) (pw_and1 (pt_cmpR op_lt (pe_callB call_len_seq rfl B.len PySem.boot_len (pa_cons (pv 2) pa_nil)) (pv 1) (nomark _))))) (@pss_cons _ _ _ _ _ (ps_expr (pe_bm PySem.F.plainAttrs_list PySem.F.slot_list_append PySem.F.type_list_append mt_append (pv 2) (pa_cons (pe_op op_mod (pv 6) pe_int) pa_nil))) (@pss_one _ _ _ (ps_set (i := 6) scDs.nd rfl (Or.inl rfl) (pe_op op_fdiv (pv 6) pe_int)))))) (@pss_cons _ _ _ _ _ (ps_set (i := 7) scDs.nd rfl (Or.inl rfl) (pe_op op_mod (pe_op op_mul (pe_op op_add (pe_op op_add (pe_op op_mod (pv 6) pe_int) (pv 4)) pe_int) pe_int) pe_int)) (@pss_cons _ _ _ _ _ (ps_set (i := 7) scDs.nd rfl (Or.inl rfl) (pe_op op_mod (pe_op op_mul (pv 7) (pv 7)) pe_int)) (@pss_cons _ _ _ _ _ (ps_expr (pe_bm PySem.F.plainAttrs_list PySem.F.slot_list_append PySem.F.type_list_append mt_append (pv 2) (pa_cons (pe_op op_mod (pe_op op_fdiv (pv 7) pe_int) pe_int) pa_nil))) (@pss_cons _ _ _ _ _ (ps_set (i := 7) scDs.nd rfl (Or.inl rfl) (pe_op op_mod (pe_op op_add (pe_op op_add (pe_op op_mul (pv 7) pe_int) (pe_op op_mul pe_int (pv 4))) pe_int) pe_int)) (@pss_cons _ _ _ _ _ (ps_set (i := 7) scDs.nd rfl (Or.inl rfl) (pe_op op_mod (pe_op op_mul (pv 7) (pv 7)) pe_int)) (@pss_one _ _ _ (ps_expr (pe_bm PySem.F.plainAttrs_list PySem.F.slot_list_append PySem.F.type_list_append mt_append (pv 2) (pa_cons (pe_op op_mod (pe_op op_fdiv (pv 7) pe_int) pe_int) pa_nil)))))))))))))) (@pss_cons _ _ _ _ _ (ps_for PassesOwn.never rfl (pi_range1 rfl B.range (pa_cons (pe_op op_sub (pv 1) (pe_callB call_len_seq rfl B.len PySem.boot_len (pa_cons (pv 2) pa_nil))) pa_nil)) (pg_name (i := 4) scDs.nd rfl (Or.inl rfl)) (@pss_cons _ _ _ _ _ (ps_set (i := 7) scDs.nd rfl (Or.inl rfl) (pe_op op_mod (pe_op op_add (pe_op op_add (pv 3) (pe_op op_mul pe_int (pv 4))) pe_int) pe_int)) (@pss_cons _ _ _ _ _ (ps_set (i := 7) scDs.nd rfl (Or.inl rfl) (pe_op op_mod (pe_op op_mul (pv 7) (pv 7)) pe_int)) (@pss_cons _ _ _ _ _ (ps_set (i := 7) scDs.nd rfl (Or.inl rfl) (pe_op op_mod (pe_op op_add (pe_op op_mul (pv 7) pe_int) (pv 4)) pe_int)) (@pss_one _ _ _ (ps_expr (pe_bm PySem.F.plainAttrs_list PySem.F.slot_list_append PySem.F.type_list_append mt_append (pv 2) (pa_cons (pe_op op_mod (pe_op op_fdiv (pe_op op_mod (pe_op op_mul (pv 7) (pv 7)) pe_int) pe_int) pe_int) pa_nil)))))))) (@pss_one _ _ _ (ps_ret (pv 2))))))), ?_⟩
 refine ⟨(by show 0 ≤ sizeLine; decide), fun l hl => ?_⟩
 have g1 : Same H (upd H l (.lst [])) := Same.new hl _
 have e1 : (upd H l (.lst [])) l = some (.lst (([] : List Int).map V.int)) := upd_same
 generalize upd H l (.lst []) = H1 at g1 e1 ⊢
 refine ⟨_, rfl, 63, rfl, a, _, rfl, g1.seq hS, fun c hc => ?_⟩
 rw [cut63 ns h63]
 have g2 : Same H1 (upd H1 c (.lst (ns.map V.int))) := Same.new hc _
 have ec : (upd H1 c (.lst (ns.map V.int))) c = some (.lst (ns.map V.int)) := upd_same
 have lc : l ≠ c := ne_of_none e1 hc
 have e2 := g2 _ _ e1
 have gA := g1.trans g2
 generalize upd H1 c (.lst (ns.map V.int)) = H2 at g2 ec e2 gA ⊢
 have nml : (ns.map V.int).length = ns.length := List.length_map _
 refine ⟨c, _, rfl, ec, ?_⟩
 refine for_enum (xs := ns.map V.int) (fun i σ H' => ∃ (x4 x5 x6 x7 : Option V) (ds : List Int) (bs : Int), σ = [some (.ref a), some (.int 400), some (.ref l), some (.int bs), x4, x5, x6, x7] ∧ Ex (· = l) H2 H' ∧ H' l = some (.lst (ds.map V.int)) ∧ ds.length ≤ 400 + 2 * i ∧ (∀ x ∈ ds, 0 ≤ x) ∧ 0 ≤ bs ∧ bs < 2147483648)
  ⟨none, none, none, none, [], 7, rfl, Ex.refl, e2, Nat.zero_le _, (fun _ h => nomatch h), by decide, by decide⟩ (fun i σ H' _ ⟨_, _, _, _, _, _, _, ex, _⟩ => ex _ _ (Ne.symm lc) ec) ?_ ?_
 ·rintro i x σ H3 T hx ⟨x4, x5, x6, x7, ds, bs, rfl, ex, el, hlen, hnn, b0, b1⟩ hT
  have hi : i < ns.length := by rw [← nml]; exact (List.getElem?_eq_some_iff.mp hx).1
  rw [List.getElem?_map, List.getElem?_eq_getElem hi] at hx
  cases hx
  have gT : Same H3 (upd H3 T (.tup [.int (i : Int), .int ns[i]])) := Same.new hT _
  have exT := ex.trans (Ex.same gT)
  have elT := gT _ _ el
  have eT : (upd H3 T (.tup [.int (i : Int), .int ns[i]])) T = some (.tup [.int (i : Int), .int ns[i]]) := upd_same
  generalize upd H3 T (.tup [.int (i : Int), .int ns[i]]) = H4 at exT elT eT ⊢
  refine ⟨T, _, rfl, SqT.of eT, rfl, _, _, rfl, _, _, rfl, rfl, ?_⟩
  refine ⟨_, rfl, ns[i], rfl, ?_⟩
  obtain ⟨nu, enu, nu0⟩ : ∃ nu : Int, nu = (if ns[i] < 0 then -ns[i] else ns[i]) ∧ 0 ≤ nu := ⟨_, rfl, by split <;> omega⟩
  rw [← enu]
  refine ⟨_, rfl, _, _, rfl, rfl, .inl ⟨by omega, by omega⟩, _, rfl, _, _, rfl, rfl, _, _, rfl, rfl, (by show (0 : Int) < 2147483629; decide), ?_⟩
  obtain ⟨b2, eb2, b20, b21⟩ : ∃ b2 : Int, b2 = (bs * 31 + nu) % 2147483629 ∧ 0 ≤ b2 ∧ b2 < 2147483648 := ⟨_, rfl, by omega, by omega⟩
  dsimp only [gName, tSeq]
  rw [← eb2]
  have put : ∀ (x6' x7' : Option V) (ds' : List Int) (H' : Hp), Ex (· = l) H2 H' → H' l = some (.lst (ds'.map V.int)) → ds'.length ≤ 400 + 2 * (i + 1) → (∀ x ∈ ds', 0 ≤ x) → ∃ (y4 y5 y6 y7 : Option V) (es : List Int) (cs : Int), [some (V.ref a), some (.int 400), some (.ref l), some (.int b2), some (.int (i : Int)), some (.int ns[i]), x6', x7'] = [some (.ref a), some (.int 400), some (.ref l), some (.int cs), y4, y5, y6, y7] ∧ Ex (· = l) H2 H' ∧ H' l = some (.lst (es.map V.int)) ∧ es.length ≤ 400 + 2 * (i + 1) ∧ (∀ x ∈ es, 0 ≤ x) ∧ 0 ≤ cs ∧ cs < 2147483648 :=
   fun x6' x7' ds' H' h1 h2 h3 h4 => ⟨_, _, _, _, ds', b2, rfl, h1, h2, h3, h4, b20, b21⟩
  refine ⟨_, rfl, _, _, rfl, rfl, ⟨by decide, by decide, by decide⟩, _, _, rfl, rfl, _, rfl, ite2 (fun _ => ?_) (fun _ => ?_)⟩
  ·refine while_by2 (fun σ H' => ∃ (m : Int) (ds' : List Int), σ = [some (.ref a), some (.int 400), some (.ref l), some (.int b2), some (.int (i : Int)), some (.int ns[i]), some (.int m), x7] ∧ 0 ≤ m ∧ Ex (· = l) H2 H' ∧ H' l = some (.lst (ds'.map V.int)) ∧ ds'.length ≤ 400 + 2 * (i + 1) ∧ (∀ x ∈ ds', 0 ≤ x))
    (fun σ _ => slotN 6 σ) ⟨nu, ds, rfl, nu0, exT, elT, by omega, hnn⟩ ?_
   rintro σ H5 ⟨m, ds', rfl, m0, ex5, el5, hl5, hn5⟩
   have dml : (ds'.map V.int).length = ds'.length := List.length_map _
   refine ⟨_, rfl, _, _, rfl, rfl, _, rfl, ite2 (fun c1 => ?_) (fun c1 => ?_)⟩
   ·have m1 : 0 < m := of_decide_eq_true c1
    refine ⟨_, rfl, l, _, rfl, .inl (SqL.of el5), _, rfl, _, _, rfl, rfl, _, rfl, ite2 (fun c2 => ?_) (fun c2 => ?_)⟩
    ·have l300 : ds'.length < 400 := by
      have z := of_decide_eq_true c2
      rw [dml] at z
      omega
     refine next_by (H := H5) (μ := fun σ _ => slotN 6 σ) ?_
     refine ⟨_, rfl, .inl ⟨rfl, _, SqL.of el5⟩, _, rfl, _, _, rfl, rfl, (by show (0 : Int) < 10007; decide), l, _, _, rfl, rfl, el5, small1000 (by rw [dml]; omega), ?_⟩
     refine ⟨_, rfl, _, _, rfl, rfl, ⟨by decide, by decide⟩, ?_⟩
     refine ⟨⟨m / 10007, ds' ++ [m % 10007], rfl, by omega, fun c o hc ho => ?_, by rw [upd_same, List.map_append]; rfl, by rw [List.length_append]; show ds'.length + 1 ≤ _; omega, fun x hx => ?_⟩, ?_⟩
     ·rw [upd_ne hc]
      exact ex5 _ _ hc ho
     ·rcases List.mem_append.mp hx with z | z
      ·exact hn5 x z
      ·rw [List.mem_singleton.mp z]; omega
     ·show (m / 10007).toNat < m.toNat
      omega
    ·exact put _ _ ds' H5 ex5 el5 hl5 hn5
   ·exact iteF (put _ _ ds' H5 ex5 el5 hl5 hn5)
  ·have dml : (ds.map V.int).length = ds.length := List.length_map _
   have hi63 : i < 63 := by omega
   refine ⟨_, rfl, _, _, rfl, rfl, (by show (0 : Int) < 2147483647; decide), _, rfl, _, _, rfl, rfl, _, _, rfl, rfl, _, _, rfl, rfl, .inr ⟨by decide, by decide⟩, _, _, rfl, rfl, (by show (0 : Int) < 2147483647; decide), ?_⟩
   refine ⟨_, rfl, _, rfl, _, _, rfl, rfl, .inl ⟨by omega, by omega⟩, _, _, rfl, rfl, (by show (0 : Int) < 2147483629; decide), ?_⟩
   refine ⟨_, rfl, .inl ⟨rfl, _, SqL.of elT⟩, _, rfl, _, _, rfl, rfl, ⟨by decide, by decide⟩, _, _, rfl, rfl, (by show (0 : Int) < 10007; decide), l, _, _, rfl, rfl, elT, small1000 (by rw [dml]; omega), ?_⟩
   refine ⟨_, rfl, _, _, rfl, rfl, .inr ⟨by decide, by decide⟩, _, rfl, _, _, rfl, rfl, .inl ⟨by decide, by decide⟩, _, _, rfl, rfl, _, _, rfl, rfl, _, _, rfl, rfl, (by show (0 : Int) < 2147483563; decide), ?_⟩
   refine ⟨_, rfl, _, rfl, _, _, rfl, rfl, .inl ⟨by omega, by omega⟩, _, _, rfl, rfl, (by show (0 : Int) < 2147483647; decide), ?_⟩
   refine ⟨_, rfl, .inl ⟨rfl, _, SqL.of upd_same⟩, _, rfl, _, _, rfl, rfl, ⟨by decide, by decide⟩, _, _, rfl, rfl, (by show (0 : Int) < 10007; decide), l, _, _, rfl, rfl, upd_same, small1000 (by rw [List.length_append, dml]; show ds.length + 1 ≤ 1000; omega), ?_⟩
   rw [upd_upd]
   refine put _ _ (ds ++ [?v1] ++ [?v2]) _ (fun c o hc ho => ?ga) ?gb ?gc ?gd
   case gb =>
    rw [upd_same, List.map_append, List.map_append]
    rfl
   case ga =>
    rw [upd_ne hc]
    exact exT _ _ hc ho
   case gc =>
    rw [List.length_append, List.length_append]
    show ds.length + 1 + 1 ≤ _
    omega
   case gd =>
    intro x hx
    rcases List.mem_append.mp hx with z | z
    ·rcases List.mem_append.mp z with z | z
     ·exact hnn x z
     ·rw [List.mem_singleton.mp z]; omega
    ·rw [List.mem_singleton.mp z]; omega
 ·rintro σ H3 ⟨x4, x5, x6, x7, ds, bs, rfl, ex, el, hlen, hnn, b0, b1⟩
  have dml : (ds.map V.int).length = ds.length := List.length_map _
  rw [nml] at hlen
  refine ⟨_, rfl, _, rfl, l, _, rfl, .inl (SqL.of el), _, _, rfl, rfl, _, rfl, by rw [dml]; omega, by rw [dml]; omega, ?_⟩
  rw [dml]
  refine for_range (lo := 0) (n := ((400 : Int) - (ds.length : Int)).toNat) (fun i σ H' => ∃ (y4 y7 : Option V) (es : List Int), σ = [some (.ref a), some (.int 400), some (.ref l), some (.int bs), y4, x5, x6, y7] ∧ Ex (· = l) H2 H' ∧ H' l = some (.lst (es.map V.int)) ∧ es.length = ds.length + i ∧ (∀ x ∈ es, 0 ≤ x))
   ⟨_, _, ds, rfl, ex, el, rfl, hnn⟩ ?_ ?_
  ·rintro i σ H4 hi ⟨y4, y7, es, rfl, ex4, el4, hl4, hn4⟩
   have eml : (es.map V.int).length = es.length := List.length_map _
   rw [Int.zero_add]
   refine ⟨_, rfl, _, rfl, _, _, rfl, rfl, .inl ⟨by decide, by decide⟩, _, _, rfl, rfl, _, _, rfl, rfl, _, _, rfl, rfl, (by show (0 : Int) < 2147483629; decide), ?_⟩
   refine ⟨_, rfl, _, rfl, _, _, rfl, rfl, .inl ⟨by omega, by omega⟩, _, _, rfl, rfl, (by show (0 : Int) < 2147483647; decide), ?_⟩
   refine ⟨_, rfl, _, _, rfl, rfl, .inr ⟨by decide, by decide⟩, _, rfl, _, _, rfl, rfl, _, _, rfl, rfl, (by show (0 : Int) < 2147483563; decide), ?_⟩
   refine ⟨_, rfl, .inl ⟨rfl, _, SqL.of el4⟩, _, rfl, _, rfl, _, _, rfl, rfl, .inl ⟨by omega, by omega⟩, _, _, rfl, rfl, (by show (0 : Int) < 2147483629; decide), _, _, rfl, rfl, ⟨by decide, by decide⟩, _, _, rfl, rfl, (by show (0 : Int) < 10007; decide), l, _, _, rfl, rfl, el4, small1000 (by rw [eml]; omega), ?_⟩
   refine ⟨_, _, es ++ [?w1], rfl, fun c o hc ho => ?ha, ?hb, ?hc, ?hd⟩
   case hb =>
    rw [upd_same, List.map_append]
    rfl
   case ha =>
    rw [upd_ne hc]
    exact ex4 _ _ hc ho
   case hc =>
    rw [List.length_append, hl4]
    show ds.length + i + 1 = _
    omega
   case hd =>
    intro x hx
    rcases List.mem_append.mp hx with z | z
    ·exact hn4 x z
    ·rw [List.mem_singleton.mp z]; omega
  ·rintro σ H4 ⟨y4, y7, es, rfl, ex4, el4, hl4, hn4⟩
   have e300 : 0 < es.length := by omega
   exact ⟨_, rfl, q l es H4 (fun b o hb => ex4 _ _ (ne_of_none hb hl) (gA _ _ hb)) hl el4 e300 (by omega) hn4⟩
end
abbrev sNu : Stmt := top 44
def spNu : Sp := fun vs H Q _ => ∃ (d p : Addr) (many : Int), vs = [.ref d, .int many] ∧ Sto H d p ∧ 1 ≤ many ∧ many ≤ 10 ∧
 ∀ (l : Addr) (ns : List Int) (H' : Hp), Ex (· = d) H H' → Sto H' d p → H l = none → H' l = some (.lst (ns.map V.int)) → Rise ns → (ns.length : Int) = many → (∀ x ∈ ns, x < 2 ^ 95) → Q (.ref l) H'
theorem Sto.stay {H H' : Hp} {d p : Addr} (S : Sto H d p) (h : ∀ b o, (b = d ∨ b = p) → H b = some o → H' b = some o) : Sto H' d p :=
 ⟨let ⟨c, e⟩ := S.at_; ⟨c, h _ _ (.inl rfl) e⟩, let ⟨xs, e, r⟩ := S.pl; ⟨xs, h _ _ (.inr rfl) e, r⟩⟩
theorem Sto.out {H : Hp} {d p x : Addr} (S : Sto H d p) (h : H x = none) : x ≠ d := fun z => by
 obtain ⟨c, e⟩ := S.at_
 rw [z, e] at h
 cases h
theorem exN {d p x : Addr} {H H' : Hp} (S : Sto H' d p) (o : Ex (· = d) H H') (h : H' x = none) : H x = none := by
 cases e : H x with
 | none => rfl
 | some u =>
  have z := o x u (S.out h) e
  rw [h] at z; cases z
theorem rise_by {start step : Int} (h0 : 0 ≤ start) (h1 : 1 ≤ step) (n : Nat) : Rise ((List.range n).map fun k : Nat => start + step * (k : Int)) := by
 refine ⟨List.pairwise_map.mpr (List.pairwise_lt_range.imp fun {a b} h => ?_), fun x hx => ?_⟩
 ·have : step * (a : Int) < step * (b : Int) := Int.mul_lt_mul_of_pos_left (by omega) (by omega)
  omega
 ·obtain ⟨k, _, rfl⟩ := List.mem_map.mp hx
  have : 0 ≤ step * (k : Int) := Int.mul_nonneg (by omega) (by omega)
  omega
def NumsD (H : Hp) (fd : Addr) (n : Nat) : Prop := ∃ (kvs : List (Key × V)) (ks : List Int), H fd = some (.dK kvs) ∧ kvs.map (·.1) = ks.map Sum.inl ∧ ks.Nodup ∧ (∀ x ∈ ks, 0 ≤ x ∧ x < 10 ^ 25 + 100) ∧ ks.length = n
theorem valV_keys {kvs : List (Key × V)} {ks : List Int} (h : kvs.map (·.1) = ks.map Sum.inl) (x : Int) : (valV kvs (Sum.inl x)).isSome = decide (x ∈ ks) := by
 rw [← valV_any]
 have e1 : (kvs.any fun kv => decide (kv.1 = Sum.inl x)) = (kvs.map (·.1)).any fun k => decide (k = Sum.inl x) := by rw [List.any_map]; rfl
 rw [e1, h, List.any_map, Bool.eq_iff_iff, List.any_eq_true, decide_eq_true_iff]
 constructor
 ·rintro ⟨y, hy, e⟩
  have e' : (Sum.inl y : Key) = Sum.inl x := of_decide_eq_true e
  cases e'
  exact hy
 ·intro hx
  exact ⟨x, hx, decide_eq_true rfl⟩
def above (ks : List Int) (x : Int) : Nat := (ks.filter fun y => decide (x ≤ y)).length
theorem above_next {ks : List Int} {x : Int} (h : x ∈ ks) : above ks (x + 1) < above ks x := by
 unfold above
 induction ks with
 | nil => cases h
 | cons y r ih =>
  have mono : ∀ l : List Int, (l.filter fun y => decide (x + 1 ≤ y)).length ≤ (l.filter fun y => decide (x ≤ y)).length := by
   intro l
   induction l with
   | nil => exact Nat.le_refl _
   | cons z q ih2 =>
    rw [List.filter_cons, List.filter_cons]
    by_cases h1 : x + 1 ≤ z
    ·rw [decide_eq_true h1, decide_eq_true (by omega : x ≤ z), if_pos rfl, if_pos rfl, List.length_cons, List.length_cons]
     omega
    ·rw [decide_eq_false h1, if_neg Bool.false_ne_true]
     split
     ·rw [List.length_cons]; omega
     ·exact ih2
  rw [List.filter_cons, List.filter_cons]
  rcases List.mem_cons.mp h with z | z
  ·rw [decide_eq_false (by omega : ¬ x + 1 ≤ y), decide_eq_true (by omega : x ≤ y), if_neg Bool.false_ne_true, if_pos rfl, List.length_cons]
   have := mono r
   omega
  ·have := ih z
   by_cases h1 : x + 1 ≤ y
   ·rw [decide_eq_true h1, decide_eq_true (by omega : x ≤ y), if_pos rfl, if_pos rfl, List.length_cons, List.length_cons]
    omega
   ·rw [decide_eq_false h1, if_neg Bool.false_ne_true]
    split
    ·rw [List.length_cons]; omega
    ·exact this
theorem seq_post {t u : TS} {D : Ends} {σ : L2.St} {H : Hp} (R : L2.St → Hp → Prop) (ht : ∀ N : L2.St → Hp → Prop, (∀ σ' H', R σ' H' → N σ' H') → t { D with nx := N } σ H) (hu : ∀ σ' H', R σ' H' → u D σ' H') : tSeq t u D σ H := ht _ hu
def slotI (i : Nat) (σ : L2.St) : Int := match σ[i]? with
 | some (some (.int v)) => v
 | _ => 0
section
variable {f tk : Addr} {fd tkd : FuncData}
theorem scNu : FnScope ["store", "many", "way", "start", "step", "reach", "found", "k", "number"] ["store", "many"] (defScope sNu) := ⟨rfl, rfl, rfl, by decide +kernel, rfl, by decide +kernel, by decide +kernel⟩
theorem ok_nu (F : Fun K "_law_numbers" "_law_numbers" sNu f fd) (B : Bt3 mg)
  (GT : FnOk P w K mg base CX0 1 tk tkd ["store", "many"] spTk) (bT : Binds K tkd ["store", "many"] []) (kT : Kee K tk) (mT : mg "_law_take" = some (.ref tk)) : FnOk P w K mg base CX0 2 f fd ["store", "many"] spNu := by
 refine F.ok scNu (fun vs H Q E h => ?_) (fun cdv A outer s H vs Q E hr h => ?_)
 ·obtain ⟨d, p, many, rfl, _⟩ := h
  rfl
 obtain ⟨d, p, many, rfl, S0, m1, m10, q⟩ := h
 have hu := hu_of hr
 refine ⟨_, (@pss_cons _ _ _ _ _ (ps_set (i := 2) scNu.nd rfl (Or.inl rfl) (pe_call GT hr rfl mT kT bT .nil pass0 (pa_cons (pv 0) (pa_cons pe_int pa_nil)))) (@pss_cons _ _ _ _ _ (ps_if (pt_cmpR op_eq (pv 2) pe_int (nomark _)) (@pss_one _ _ _ (ps_ret (pe_list_range2 rfl rfl B.range rfl B.list (pa_cons pe_int (pa_cons (pe_op op_add (pv 1) pe_int) pa_nil))))) pss_nil) (@pss_cons _ _ _ _ _ (ps_if (pt_cmpR op_eq (pv 2) pe_int (nomark _)) (@pss_cons _ _ _ _ _ (ps_set (i := 3) scNu.nd rfl (Or.inr rfl) (pe_call GT hr rfl mT kT bT .nil pass0 (pa_cons (pv 0) (pa_cons pe_int pa_nil)))) (@pss_cons _ _ _ _ _ (ps_set (i := 4) scNu.nd rfl (Or.inr rfl) (pe_op op_add pe_int (pe_call GT hr rfl mT kT bT .nil pass0 (pa_cons (pv 0) (pa_cons pe_int pa_nil))))) (@pss_one _ _ _ (ps_ret (pe_comp ["k"] rfl (blk_ok (defScope sNu) ["store", "many", "way", "start", "step", "reach", "found", "k", "number"] rfl rfl (by decide +kernel)) (pi_range1 rfl B.range (pa_cons (pv 1) pa_nil)) (fun pins C fp s3 H3 => ⟨(pg_name (i := 0) (show (blkN ["k"] ["store", "many", "way", "start", "step", "reach", "found", "k", "number"]).Nodup by decide +kernel) rfl (Or.inl rfl)), pif_nil, (pe_op op_add (pv 4) (pe_op op_mul (pv 5) (pv 0)))⟩)))))) pss_nil) (@pss_cons _ _ _ _ _ (ps_set (i := 5) scNu.nd rfl (Or.inl rfl) (pe_ix ix_list (pe_lst (pa_cons pe_int (pa_cons pe_int (pa_cons (pe_op op_mul pe_int (pe_op op_pow pe_int pe_int)) pa_nil)))) (pe_op op_sub (pv 2) pe_int) (fun _ _ => rfl))) (@pss_cons _ _ _ _ _ (ps_set (i := 6) scNu.nd rfl (Or.inl rfl) pe_dnewK) (@pss_cons _ _ _ _ _ (ps_for PassesOwn.never rfl (pi_range1 rfl B.range (pa_cons (pv 1) pa_nil)) (pg_name (i := 7) scNu.nd rfl (Or.inl rfl)) (@pss_cons _ _ _ _ _ (ps_set (i := 8) scNu.nd rfl (Or.inl rfl) (pe_call GT hr rfl mT kT bT .nil pass0 (pa_cons (pv 0) (pa_cons pe_int pa_nil)))) (@pss_cons _ _ _ _ _ (ps_if (pt_cmpR op_gt (pv 5) (pe_op op_pow pe_int pe_int) (nomark _)) (@pss_one _ _ _ (ps_set (i := 8) scNu.nd rfl (Or.inl rfl) (pe_op op_add (pe_op op_mul (pv 8) (pe_op op_pow pe_int pe_int)) (pe_call GT hr rfl mT kT bT .nil pass0 (pa_cons (pv 0) (pa_cons pe_int pa_nil)))))) pss_nil) (@pss_cons _ _ _ _ _ (ps_set (i := 8) scNu.nd rfl (Or.inl rfl) (pe_op op_mod (pv 8) (pv 5))) (@pss_cons _ _ _ _ _ (ps_while PassesOwn.never (pt_cmp (pc_din hu (pv 8) (pv 6))) (@pss_one _ _ _ (ps_set (i := 8) scNu.nd rfl (Or.inl rfl) (pe_op op_add (pv 8) pe_int)))) (@pss_one _ _ _ (ps_dput hu (pv 6) (pv 8) pe_bl rfl))))))) (@pss_one _ _ _ (ps_ret (pe_callB (call_sorted_dict rfl) rfl B.sorted boot_sorted (pa_cons (pv 6) pa_nil)))))))))), ?_⟩
 refine ⟨_, rfl, d, p, 5, rfl, S0, by decide, fun way H1 w0 w1 S1 o1 => ?_⟩
 have E1 : Ex (· = d) H H1 := o1.ex
 refine ⟨_, rfl, rfl, _, rfl, ite2 (fun _ => ?_) (fun c0 => ?_)⟩
 ·refine ⟨_, rfl, _, _, rfl, rfl, _, _, rfl, ⟨by decide, by decide, by omega, by omega⟩, fun a ha => ?_⟩
  rw [uptoN_is]
  have s2 := Same.new ha (.lst ((uptoN many.toNat).map V.int))
  refine q a (uptoN many.toNat) _ (E1.trans (Ex.same s2)) (S1.ex s2) (exN S1 E1 ha) upd_same (uptoN_rise _ (by omega)).1 ?_ fun x hx => ?_
  ·unfold uptoN; rw [List.length_map, List.length_range]; omega
  ·unfold uptoN at hx
   obtain ⟨k, hk, rfl⟩ := List.mem_map.mp hx
   have := List.mem_range.mp hk
   omega
 have way0 : way ≠ 0 := fun z => c0 (by rw [z]; exact decide_eq_true rfl)
 refine ⟨_, rfl, rfl, _, rfl, ite2 (fun _ => ?_) (fun c1 => ?_)⟩
 ·refine ⟨_, rfl, d, p, 20, rfl, S1, by decide, fun start H2 a0 a1 S2 o2 => ?_⟩
  refine ⟨_, rfl, d, p, 4, rfl, S2, by decide, fun st H3 b0 b1 S3 o3 => ⟨_, _, rfl, rfl, ?_⟩⟩
  have E3 : Ex (· = d) H H3 := E1.trans (o2.ex.trans o3.ex)
  refine ⟨_, rfl, many, rfl, by omega, by omega, fun D hD => ?_⟩
  refine turns_range (lo := 0) (n := many.toNat) (σ := [some (.ref d), some (.int many), some (.int way), some (.int start), some (.int (1 + st)), none, none, none, none]) (fun _ => true) (fun k => .int (start + (1 + st) * (k : Int))) hD (by omega) (fun i H' hi g => tells_true) (fun i H' hi _ g P hP => ?_) fun H4 g4 e4 => ?_
  ·have e : start + (1 + st) * (0 + (i : Int)) = start + (1 + st) * (i : Int) := by rw [Int.zero_add]
   rw [← e] at hP
   exact ⟨_, rfl, _, rfl, _, rfl, _, _, rfl, rfl, .inl ⟨by omega, by omega⟩, _, _, rfl, rfl, hP _ Same.rfl'⟩
  refine q D ((List.range many.toNat).map fun k : Nat => start + (1 + st) * (k : Int)) H4 (E3.trans (Ex.same g4)) (S3.ex g4) (exN S3 E3 hD) (by rw [e4, fltT, List.map_map]; rfl) (rise_by a0 (by omega) _) (by rw [List.length_map, List.length_range]; omega) fun x hx => ?_
  obtain ⟨k, hk, rfl⟩ := List.mem_map.mp hx
  have hk' := List.mem_range.mp hk
  have h2 : (1 + st) * (k : Int) ≤ 4 * 10 := Int.mul_le_mul (by omega) (by omega) (by omega) (by omega)
  omega
 have way1 : way ≠ 1 := fun z => c1 (by rw [z]; exact decide_eq_true rfl)
 refine ⟨_, _, rfl, rfl, ⟨by decide, by decide, by decide⟩, _, _, rfl, rfl, .inl ⟨by decide, by decide⟩, (by show 3 ≤ sizeLine; decide), fun l hl => ?_⟩
 obtain ⟨rv, hrv, mrv⟩ := pick_int [16, 1000, 9 * 10 ^ (24 : Int).toNat] (r := way - 2) (by omega) (by show way - 2 < 3; omega)
 refine ⟨_, rfl, _, _, rfl, rfl, l, _, _, _, rfl, rfl, SqL.of upd_same, hrv, ?_⟩
 have rb : 16 ≤ rv ∧ rv ≤ 9000000000000000000000000 := by
  have e : (9 : Int) * 10 ^ (24 : Int).toNat = 9000000000000000000000000 := by decide
  rw [e] at mrv
  simp only [List.mem_cons, List.not_mem_nil, or_false] at mrv
  omega
 have s2 := Same.new hl (.lst [.int 16, .int 1000, .int (9 * 10 ^ (24 : Int).toNat)])
 have S2 := S1.ex s2
 have E2 : Ex (· = d) H (upd H1 l (.lst [.int 16, .int 1000, .int (9 * 10 ^ (24 : Int).toNat)])) := E1.trans (Ex.same s2)
 generalize upd H1 l (.lst [.int 16, .int 1000, .int (9 * 10 ^ (24 : Int).toNat)]) = H2 at S2 E2 ⊢
 refine fun fa hfa => ?_
 have s3 := Same.new hfa (.dK [])
 have S3 := S2.ex s3
 have hfH : H fa = none := exN S2 E2 hfa
 have fd_ne : fa ≠ d := S2.out hfa
 have E3 : Ex (· = d) H (upd H2 fa (.dK [])) := E2.trans (Ex.same s3)
 have e3 : (upd H2 fa (.dK [])) fa = some (.dK []) := upd_same
 generalize upd H2 fa (.dK []) = H3 at S3 E3 e3 ⊢
 refine ⟨_, rfl, many, rfl, by omega, by omega, ?_⟩
 refine for_range (lo := 0) (n := many.toNat) (fun i σ H' => ∃ (x7 x8 : Option V), σ = [some (.ref d), some (.int many), some (.int way), none, none, some (.int rv), some (.ref fa), x7, x8] ∧ Sto H' d p ∧ Ex (fun b => b = d ∨ b = fa) H3 H' ∧ NumsD H' fa i)
  ⟨_, _, rfl, S3, Ex.refl, [], [], e3, rfl, List.nodup_nil, (fun _ h => nomatch h), rfl⟩ ?_ ?_
 ·rintro i σ H4 hi ⟨x7, x8, rfl, S4, E4, N4⟩
  refine ⟨_, rfl, d, p, 10007, rfl, S4, by decide, fun r1 H5 a0 a1 S5 o5 => ?_⟩
  dsimp only [gName]
  refine seq_post (fun σ' H' => ∃ nu : Int, σ' = [some (.ref d), some (.int many), some (.int way), none, none, some (.int rv), some (.ref fa), some (.int (0 + (i : Int))), some (.int nu)] ∧ Sto H' d p ∧ Ex (· = d) H4 H') (fun N hN => ?_) ?_
  ·refine ⟨_, rfl, _, _, rfl, rfl, ⟨by decide, by decide, by decide⟩, _, _, rfl, rfl, _, rfl, ite2 (fun _ => ?_) (fun _ => hN _ _ ⟨r1, rfl, S5, o5.ex⟩)⟩
   refine ⟨_, rfl, _, _, rfl, rfl, ⟨by decide, by decide, by decide⟩, _, _, rfl, rfl, .inl ⟨by omega, by omega⟩, _, rfl, d, p, 7, rfl, S5, by decide, fun r2 H6 b0 b1 S6 o6 => ⟨_, _, rfl, rfl, hN _ _ ⟨_, rfl, S6, o5.ex.trans o6.ex⟩⟩⟩
  rintro σ' H6 ⟨nu, rfl, S6, E6⟩
  refine ⟨_, rfl, _, rfl, _, _, rfl, rfl, (by omega), ?_⟩
  obtain ⟨n0, en0, n00, n01⟩ : ∃ n0 : Int, n0 = nu % rv ∧ 0 ≤ n0 ∧ n0 < rv := ⟨_, rfl, Int.emod_nonneg _ (by omega), Int.emod_lt_of_pos _ (by omega)⟩
  dsimp only [gName, tSeq]
  obtain ⟨kvs, ks, k1, k2, k3, k4, k5⟩ := N4
  have k6 : H6 fa = some (.dK kvs) := E6 _ _ fd_ne k1
  have hkl : kvs.length = ks.length := by have := congrArg List.length k2; simpa using this
  rw [← en0]
  refine while_by2 (fun σ H' => ∃ m : Int, σ = [some (.ref d), some (.int many), some (.int way), none, none, some (.int rv), some (.ref fa), some (.int (0 + (i : Int))), some (.int m)] ∧ H' = H6 ∧ 0 ≤ m ∧ m + (above ks m : Int) ≤ n0 + (ks.length : Int))
   (fun σ _ => above ks (slotI 8 σ)) ⟨n0, rfl, rfl, n00, by unfold above; have := List.length_filter_le (fun y => decide (n0 ≤ y)) ks; omega⟩ ?_
  rintro σ H7 ⟨m, rfl, rfl, m0, mb⟩
  refine ⟨_, rfl, _, rfl, fa, _, rfl, DGet.k (k := Sum.inl m) k6, _, rfl, ?_⟩
  rw [valV_keys k2]
  refine ite2 (fun c => ?_) (fun c => ?_)
  ·have hm : m ∈ ks := of_decide_eq_true c
   have ab := above_next hm
   refine next_by (H := H7) (μ := fun σ _ => above ks (slotI 8 σ)) ⟨_, rfl, _, _, rfl, rfl, ⟨m + 1, rfl, rfl, by omega, by omega⟩, ab⟩
  ·have hm : m ∉ ks := fun z => c (decide_eq_true z)
   refine ⟨_, rfl, _, rfl, fa, _, rfl, DPut.k (k := Sum.inl m) k6 (small1000 (by omega)), ?_⟩
   refine ⟨_, _, rfl, S6.stay fun b o hb e => ?_, ?_, ⟨_, ks ++ [m], upd_same, by rw [putK_keys k2, if_neg hm], ?_, fun x hx => ?_, by rw [List.length_append, k5]; rfl⟩⟩
   ·have hne : b ≠ fa := fun z => by
     rcases hb with y | y
     ·exact fd_ne (z ▸ y)
     ·obtain ⟨xs, hx, h0, _⟩ := S6.pl
      rw [← y, z, k6] at hx
      cases hx
    rw [upd_ne hne]; exact e
   ·exact (E4.trans (E6.wide fun b h => .inl h)).trans (Ex.put _ (.inr rfl))
   ·exact List.nodup_append.mpr ⟨k3, List.nodup_cons.mpr ⟨(fun h => nomatch h), List.nodup_nil⟩, fun a ha b hb e => by rw [List.mem_singleton.mp hb] at e; exact hm (e ▸ ha)⟩
   ·rcases List.mem_append.mp hx with z | z
    ·exact k4 x z
    ·rw [List.mem_singleton.mp z]
     exact ⟨m0, by omega⟩
 ·rintro σ H4 ⟨x7, x8, rfl, S4, E4, kvs, ks, k1, k2, k3, k4, k5⟩
  refine ⟨_, rfl, fa, kvs, ks, rfl, k1, k2, by omega, fun l2 ys hl2 py ly => ?_⟩
  have s5 := Same.new hl2 (.lst (ys.map V.int))
  have EH : Ex (· = d) H H4 := fun c o nc hc => E4 c o (fun z => z.elim nc fun z => by rw [z, hfH] at hc; cases hc) (E3 c o nc hc)
  refine q l2 ys _ (EH.trans (Ex.same s5)) (S4.ex s5) (exN S4 EH hl2) upd_same ⟨strict ly (py.nodup_iff.mpr k3), fun x hx => (k4 x (py.mem_iff.mp hx)).1⟩ (by rw [py.length_eq, k5]; omega) fun x hx => ?_
  have := (k4 x (py.mem_iff.mp hx)).2
  omega
end
abbrev sSp : Stmt := top 45
def spSp : Sp := fun vs H Q _ => ∃ (d p : Addr), vs = [.ref d] ∧ Sto H d p ∧
 ∀ (t a b : Addr) (ns ss : List Int) (H' : Hp), Sto H' d p → Ex (· = d) H H' → H t = none → H a = none → H b = none → a ≠ b → H' t = some (.tup [.ref a, .ref b]) → H' a = some (.lst (ns.map V.int)) → H' b = some (.lst (ss.map V.int)) → PlanOk ns ss → (∀ x ∈ ns, x < 2 ^ 95) → (∀ x ∈ ss, x < 2 ^ 96) → Q (.ref t) H'
theorem Sto.outp {H : Hp} {d p x : Addr} (S : Sto H d p) (h : H x = none) : x ≠ p := fun z => by
 obtain ⟨xs, hx, _⟩ := S.pl
 rw [← z, h] at hx
 cases hx
theorem Sto.off2 {H : Hp} {d p x : Addr} {o : HO} (S : Sto H d p) (h1 : x ≠ d) (h2 : x ≠ p) : Sto (upd H x o) d p := S.stay fun b u hb e => by
 rw [upd_ne (fun z => by rcases hb with y | y; exact h1 (z ▸ y); exact h2 (z ▸ y))]
 exact e
theorem last_int {R : List Int} (h : R ≠ []) : ∃ x, atI (R.map V.int) (-1) = some (.int x) ∧ x ∈ R := by
 refine ⟨R.getLast h, ?_, List.getLast_mem h⟩
 have e : R = R.dropLast ++ [R.getLast h] := (List.dropLast_concat_getLast h).symm
 have e2 : R.map V.int = R.dropLast.map V.int ++ [.int (R.getLast h)] := by
  conv => lhs; rw [e, List.map_append]
  rfl
 rw [e2]
 exact atI_last _ _
section
variable {f tk nu : Addr} {fd tkd nud : FuncData}
theorem scSp : FnScope ["store", "x", "many", "numbers", "left", "row", "sums", "k", "one", "other"] ["store"] (defScope sSp) := ⟨rfl, rfl, rfl, by decide +kernel, rfl, by decide +kernel, by decide +kernel⟩
theorem ok_sp (F : Fun K "_law_plan" "_law_plan" sSp f fd) (B : Bt3 mg)
  (GT : FnOk P w K mg base CX0 2 tk tkd ["store", "many"] spTk) (bT : Binds K tkd ["store", "many"] []) (kT : Kee K tk) (mT : mg "_law_take" = some (.ref tk))
  (GN : FnOk P w K mg base CX0 2 nu nud ["store", "many"] spNu) (bN : Binds K nud ["store", "many"] []) (kN : Kee K nu) (mN : mg "_law_numbers" = some (.ref nu)) : FnOk P w K mg base CX0 3 f fd ["store"] spSp := by
 refine F.ok scSp (fun vs H Q E h => ?_) (fun cdv A outer s H vs Q E hr h => ?_)
 ·obtain ⟨d, p, rfl, _⟩ := h
  rfl
 obtain ⟨d, p, rfl, S0, q⟩ := h
 have hu := hu_of hr
 refine ⟨_, (@pss_cons _ _ _ _ _ (ps_set (i := 1) scSp.nd rfl (Or.inl rfl) (pe_call GT hr rfl mT kT bT .nil pass0 (pa_cons (pv 0) (pa_cons pe_int pa_nil)))) (@pss_cons _ _ _ _ _ (ps_set (i := 2) scSp.nd rfl (Or.inl rfl) (pe_ix ix_list (pe_lst (pa_cons (pe_op op_add pe_int (pe_op op_mod (pv 1) pe_int)) (pa_cons pe_int (pa_cons (pe_op op_add pe_int (pe_op op_mod (pv 1) pe_int)) (pa_cons (pe_op op_add pe_int (pe_op op_mod (pv 1) pe_int)) pa_nil))))) (pe_call GT hr rfl mT kT bT .nil pass0 (pa_cons (pv 0) (pa_cons pe_int pa_nil))) (fun _ _ => rfl))) (@pss_cons _ _ _ _ _ (ps_set (i := 3) scSp.nd rfl (Or.inl rfl) (pe_call GN hr rfl mN kN bN .nil pass0 (pa_cons (pv 0) (pa_cons (pv 2) pa_nil)))) (@pss_cons _ _ _ _ _ (ps_set (i := 4) scSp.nd rfl (Or.inr rfl) (pe_callTy call_list_of rfl B.list PyProof.Rows.boot_list (pa_cons (pv 3) pa_nil))) (@pss_cons _ _ _ _ _ (ps_comp ["one"] rfl (blk_ok (defScope sSp) ["store", "x", "many", "numbers", "left", "row", "sums", "k", "one", "other"] rfl rfl (by decide +kernel)) (pi_list (pv 3)) (fun pins C fp s3 H3 => ⟨(pg_name (i := 0) (show (blkN ["one"] ["store", "x", "many", "numbers", "left", "row", "sums", "k", "one", "other"]).Nodup by decide +kernel) rfl (Or.inl rfl)), pif_nil, (pe_bmK K PySem.F.plainAttrs_list PySem.F.slot_list_pop PySem.F.type_list_pop mt_popAt (pv 5) (pa_cons (pe_call GT hr rfl mT kT bT .nil pass0 (pa_cons (pv 1) (pa_cons (pe_callB (call_len_seqK K) rfl B.len PySem.boot_len (pa_cons (pv 5) pa_nil)) pa_nil))) pa_nil))⟩) (j := 5) scSp.nd rfl (Or.inl rfl) rfl) (@pss_cons _ _ _ _ _ (ps_set (i := 6) scSp.nd rfl (Or.inl rfl) pe_dnewK) (@pss_cons _ _ _ _ _ (ps_if (pt_cmpR op_eq (pe_call GT hr rfl mT kT bT .nil pass0 (pa_cons (pv 0) (pa_cons pe_int pa_nil))) pe_int (nomark _)) (@pss_one _ _ _ (ps_for PassesOwn.never rfl (pi_range2 rfl B.range (pa_cons pe_int (pa_cons (pv 2) pa_nil))) (pg_name (i := 7) scSp.nd rfl (Or.inl rfl)) (@pss_one _ _ _ (ps_dput hu (pv 6) (pe_op op_add (pe_ix ix_list (pv 5) (pe_op op_sub (pv 7) pe_int) (fun _ _ => rfl)) (pe_ix ix_list (pv 5) (pv 7) (fun _ _ => rfl))) pe_bl rfl)))) pss_nil) (@pss_cons _ _ _ _ _ (ps_if (PW.pt (pw_and (pt_cmpR op_eq (pe_call GT hr rfl mT kT bT .nil pass0 (pa_cons (pv 0) (pa_cons pe_int pa_nil))) pe_int (nomark _)) (pw_and1 (pt_cmpR op_gt (pv 2) pe_int (nomark _))))) (@pss_one _ _ _ (ps_dput hu (pv 6) (pe_op op_add (pe_ix ix_list (pv 5) pe_int (fun _ _ => rfl)) (pe_ix ix_list (pv 5) (pe_un un_neg pe_int) (fun _ _ => rfl))) pe_bl rfl)) pss_nil) (@pss_cons _ _ _ _ _ (ps_set (i := 1) scSp.nd rfl (Or.inl rfl) (pe_call GT hr rfl mT kT bT .nil pass0 (pa_cons (pv 0) (pa_cons pe_int pa_nil)))) (@pss_cons _ _ _ _ _ (ps_for PassesOwn.never rfl (pi_range1 rfl B.range (pa_cons (pe_ix ix_list (pe_lst (pa_cons pe_int (pa_cons (pe_op op_mod (pv 1) pe_int) (pa_cons (pe_op op_mod (pv 1) pe_int) pa_nil)))) (pe_call GT hr rfl mT kT bT .nil pass0 (pa_cons (pv 0) (pa_cons pe_int pa_nil))) (fun _ _ => rfl)) pa_nil)) (pg_name (i := 7) scSp.nd rfl (Or.inl rfl)) (@pss_cons _ _ _ _ _ (ps_set (i := 8) scSp.nd rfl (Or.inl rfl) (pe_ix ix_list (pv 3) (pe_call GT hr rfl mT kT bT .nil pass0 (pa_cons (pv 0) (pa_cons (pv 2) pa_nil))) (fun _ _ => rfl))) (@pss_cons _ _ _ _ _ (ps_set (i := 9) scSp.nd rfl (Or.inl rfl) (pe_ix ix_list (pv 3) (pe_call GT hr rfl mT kT bT .nil pass0 (pa_cons (pv 0) (pa_cons (pv 2) pa_nil))) (fun _ _ => rfl))) (@pss_cons _ _ _ _ _ (ps_if (pt_cmpR op_eq (pe_call GT hr rfl mT kT bT .nil pass0 (pa_cons (pv 0) (pa_cons pe_int pa_nil))) pe_int (nomark _)) (@pss_one _ _ _ (ps_set (i := 9) scSp.nd rfl (Or.inl rfl) (pe_call GT hr rfl mT kT bT .nil pass0 (pa_cons (pv 0) (pa_cons pe_int pa_nil))))) pss_nil) (@pss_one _ _ _ (ps_if (pt_cmpR op_lt (pe_callB call_lenD rfl B.len PySem.boot_len (pa_cons (pv 6) pa_nil)) pe_int (nomark _)) (@pss_one _ _ _ (ps_dput hu (pv 6) (pe_op op_add (pv 8) (pv 9)) pe_bl rfl)) pss_nil)))))) (@pss_one _ _ _ (ps_ret (pe_tup (pa_cons (pv 3) (pa_cons (pe_callB (call_sorted_dict rfl) rfl B.sorted boot_sorted (pa_cons (pv 6) pa_nil)) pa_nil))))))))))))))), ?_⟩
 refine ⟨_, rfl, d, p, 10007, rfl, S0, by decide, fun x H1 x0 x1 S1 o1 => ?_⟩
 refine ⟨_, rfl, _, _, rfl, rfl, (by show (0 : Int) < 10; decide), _, _, rfl, rfl, _, rfl, _, _, rfl, rfl, (by show (0 : Int) < 5; decide), _, _, rfl, rfl, _, rfl, _, _, rfl, rfl, (by show (0 : Int) < 5; decide), _, _, rfl, rfl, (by show 4 ≤ sizeLine; decide), fun l hl => ?_⟩
 refine ⟨_, rfl, d, p, 4, rfl, S1.ex (Same.new hl _), by decide, fun r2 H2 a2 b2 S2 o2 => ?_⟩
 obtain ⟨nv, hnv, mnv⟩ := pick_int [1 + x % 10, 10, 1 + x % 5, 6 + x % 5] a2 b2
 refine ⟨l, _, _, _, rfl, rfl, SqL.of ((o2 l (S1.out hl)).trans upd_same), hnv, ?_⟩
 have nb : 1 ≤ nv ∧ nv ≤ 10 := by
  simp only [List.mem_cons, List.not_mem_nil, or_false] at mnv
  omega
 have E2 : Ex (· = d) H H2 := o1.ex.trans ((Ex.new _ hl).trans o2.ex)
 clear o1 o2 hl hnv mnv S1 a2 b2 r2
 refine ⟨_, rfl, _, rfl, d, p, nv, rfl, S2, nb.1, nb.2, fun a ns H3 E3 S3 na ea rise hlen hbd => ?_⟩
 have EH3 : Ex (· = d) H H3 := E2.trans E3
 have naH : H a = none := exN S2 E2 na
 have oa : a ≠ d := S2.out na
 have nlen : ns.length = nv.toNat := by omega
 refine ⟨_, rfl, a, _, rfl, .inl (SqL.of ea), fun lf hlf => ?_⟩
 have olf : lf ≠ d := S3.out hlf
 have olp : lf ≠ p := S3.outp hlf
 have alf : a ≠ lf := ne_of_none ea hlf
 have s4 := Same.new hlf (.lst (ns.map V.int))
 have e4 : upd H3 lf (.lst (ns.map V.int)) lf = some (.lst (ns.map V.int)) := upd_same
 have ea4 := s4 _ _ ea
 have S4 := S3.ex s4
 have E4 : Ex (· = d) H3 (upd H3 lf (.lst (ns.map V.int))) := Ex.same s4
 generalize upd H3 lf (.lst (ns.map V.int)) = H4 at s4 e4 ea4 S4 E4 ⊢
 refine ⟨_, rfl, a, rfl, ⟨_, SqL.of ea4⟩, fun D hD => ?_⟩
 have oD : D ≠ d := S4.out hD
 have oDp : D ≠ p := S4.outp hD
 have lfD : lf ≠ D := ne_of_none e4 hD
 have aD : a ≠ D := ne_of_none ea4 hD
 have nml : (ns.map V.int).length = ns.length := List.length_map _
 refine turns_any (n := ns.length) (fun i σ' H' => ∃ (y : Option V) (rs ls : List Int), σ' = y :: [some (.ref d), some (.int x), some (.int nv), some (.ref a), some (.ref lf), none, none, none, none, none] ∧ Sto H' d p ∧
   Ex (fun b => b = d ∨ b = lf ∨ b = D) H4 H' ∧ H' lf = some (.lst (ls.map V.int)) ∧ H' D = some (.lst (rs.map V.int)) ∧ rs.length = i ∧ (rs ++ ls).Perm ns)
  ⟨none, [], ns, rfl, S4.ex (Same.new hD _), Ex.new _ hD, by rw [upd_ne lfD]; exact e4, upd_same, rfl, List.Perm.refl _⟩ ?_ ?_
 ·rintro i σ' HE hi ⟨y, rs, ls, rfl, SE, EE, lE, dE, hrs, hperm⟩
  have aE : HE a = some (.lst (ns.map V.int)) := EE _ _ (fun z => z.elim oa fun z => z.elim alf aD) ea4
  refine ⟨⟨_, .int ns[i], SqL.of aE, by rw [List.getElem?_map, List.getElem?_eq_getElem hi]; rfl⟩, fun x' H' yl => ?_⟩
  obtain ⟨rfl, _⟩ := yl
  refine comp_true ?_
  have hNl : rs.length + ls.length = ns.length := by
   have := hperm.length_eq
   rw [List.length_append] at this
   exact this
  have hml : (ls.map V.int).length = ls.length := List.length_map _
  refine ⟨_, rfl, .inl ⟨rfl, _, SqL.of lE⟩, _, rfl, _, rfl, lf, _, rfl, .inl (SqL.of lE), d, p, _, rfl, SE, by rw [hml]; omega, fun r HF r0 r1 SF oF => ?_⟩
  rw [hml] at r1
  have lF : HF lf = some (.lst (ls.map V.int)) := (oF lf olf).trans lE
  have dF : HF D = some (.lst (rs.map V.int)) := (oF D oD).trans dE
  have hrn : r.toNat < ls.length := by omega
  obtain ⟨wv, hwv⟩ : ∃ wv, wv = ls[r.toNat] := ⟨_, rfl⟩
  refine ⟨lf, _, r, r.toNat, .int wv, rfl, rfl, lF, by omega, by omega, by rw [hml]; exact seqIndex_of r0 (by omega), by rw [List.getElem?_map, List.getElem?_eq_getElem hrn, hwv]; rfl, ?_⟩
  rw [erase_map V.int ls r.toNat]
  refine ⟨rs.map V.int, by rw [upd_ne (Ne.symm lfD)]; exact dF, ?_, ?_⟩
  ·rw [List.length_map, hrs]; exact small1000 (by omega)
  ·refine ⟨_, rs ++ [wv], ls.eraseIdx r.toNat, rfl, ?_, ?_, ?_, ?_, by rw [List.length_append, List.length_singleton, hrs], ?_⟩
   ·exact (SF.off2 olf olp).off2 oD oDp
   ·exact EE.trans ((oF.ex.wide fun b h => .inl h).trans ((Ex.put _ (.inr (.inl rfl))).trans (Ex.put _ (.inr (.inr rfl)))))
   ·rw [upd_ne lfD, upd_same]
   ·rw [upd_same, List.map_append]; rfl
   ·refine List.Perm.trans ?_ hperm
    rw [List.append_assoc]
    refine List.Perm.append_left rs ?_
    show (wv :: ls.eraseIdx r.toNat).Perm ls
    rw [hwv]
    exact perm_erase hrn
 rintro σ' HE ⟨y, R, ls, rfl, SE, EE, _, dE, hrs, hperm⟩
 have aE : HE a = some (.lst (ns.map V.int)) := EE _ _ (fun z => z.elim oa fun z => z.elim alf aD) ea4
 refine ⟨⟨_, SqL.of aE, by rw [nml]; exact Nat.le_refl _⟩, ?_⟩
 have Rb : ∀ x ∈ R, 0 ≤ x ∧ x < 2 ^ 95 := fun x hx => by
  have hm := (hperm.mem_iff (a := x)).mp (List.mem_append_left _ hx)
  exact ⟨rise.bd x hm, hbd x hm⟩
 have Nb : ∀ x ∈ ns, 0 ≤ x ∧ x < 2 ^ 95 := fun x hm => ⟨rise.bd x hm, hbd x hm⟩
 have E34 : Ex (· = d) H3 HE := fun b o nb' hb => by
  have hbl : b ≠ lf := fun z => by rw [z, hlf] at hb; cases hb
  have h1 := E4 b o nb' hb
  have hbD : b ≠ D := fun z => by rw [z, hD] at h1; cases h1
  exact EE b o (fun z => z.elim nb' fun z => z.elim hbl hbD) h1
 have E9 : Ex (· = d) H HE := EH3.trans E34
 clear hperm EE E4 E34 s4 e4 ea4 lfD olf olp alf hlf
 refine fun sd hsd => ?_
 have oS : sd ≠ d := SE.out hsd
 have oSp : sd ≠ p := SE.outp hsd
 have hsH : H sd = none := exN SE E9 hsd
 have DS : D ≠ sd := ne_of_none dE hsd
 have aS : a ≠ sd := ne_of_none aE hsd
 have s10 := Same.new hsd (.dK [])
 have S10 := SE.ex s10
 have d10 := s10 _ _ dE
 have a10 := s10 _ _ aE
 have E10 : Ex (· = d) H (upd HE sd (.dK [])) := E9.trans (Ex.same s10)
 have so10 : SumsOk (upd HE sd (.dK [])) sd 0 := ⟨[], [], upd_same, rfl, List.nodup_nil, (fun _ h => nomatch h), Nat.le_refl _⟩
 generalize upd HE sd (.dK []) = HS at s10 S10 d10 a10 E10 so10 ⊢
 have exS : ∀ {H' : Hp}, Ex (fun b => b = d ∨ b = sd) HS H' → H' D = some (.lst (R.map V.int)) ∧ H' a = some (.lst (ns.map V.int)) := fun E' => ⟨E' _ _ (fun z => z.elim oD fun z => DS z) d10, E' _ _ (fun z => z.elim oa fun z => aS z) a10⟩
 dsimp only [gName]
 refine seq_post (fun σ' H' => ∃ x7, σ' = [some (.ref d), some (.int x), some (.int nv), some (.ref a), some (.ref lf), some (.ref D), some (.ref sd), x7, none, none] ∧ Sto H' d p ∧ Ex (fun b => b = d ∨ b = sd) HS H' ∧ SumsOk H' sd 9) (fun N hN => ?_) ?_
 ·refine ⟨_, rfl, d, p, 2, rfl, S10, by decide, fun r11 H11 _ _ S11 o11 => ⟨rfl, _, rfl, ?_⟩⟩
  have E11 : Ex (fun b => b = d ∨ b = sd) HS H11 := o11.ex.wide fun b h => .inl h
  have so11 : SumsOk H11 sd 0 := so10.stay fun h => (o11 _ oS).trans h
  refine ite2 (fun _ => ?_) (fun _ => hN _ _ ⟨none, rfl, S11, E11, so11.upto (by omega)⟩)
  refine ⟨_, rfl, 1, nv, rfl, ⟨by decide, by decide, by omega, by omega⟩, ?_⟩
  refine for_range (lo := 1) (n := (nv - 1).toNat) (fun i σ H' => ∃ x7, σ = [some (.ref d), some (.int x), some (.int nv), some (.ref a), some (.ref lf), some (.ref D), some (.ref sd), x7, none, none] ∧ Sto H' d p ∧ Ex (fun b => b = d ∨ b = sd) HS H' ∧ SumsOk H' sd i) ⟨_, rfl, S11, E11, so11⟩ ?_ ?_
  ·rintro i σ H1 hi ⟨x7, rfl, S12, E12, so12⟩
   have d2 := (exS E12).1
   obtain ⟨x1, h1, m1⟩ := pick_int R (r := 1 + (i : Int) - 1) (by omega) (by omega)
   obtain ⟨x2, h2, m2⟩ := pick_int R (r := 1 + (i : Int)) (by omega) (by omega)
   have b1 := Rb x1 m1
   have b2 := Rb x2 m2
   obtain ⟨kvs, e2, len2, so13⟩ := so12.put (x := x1 + x2) (by omega) (by omega)
   exact ⟨_, rfl, _, rfl, _, rfl, _, _, rfl, rfl, D, _, _, _, rfl, rfl, SqL.of d2, h1, _, rfl, _, rfl, D, _, _, _, rfl, rfl, SqL.of d2, h2, _, _, rfl, rfl, sd, _, rfl, DPut.k (k := Sum.inl (x1 + x2)) e2 (small1000 (by omega)), _, rfl, S12.off2 oS oSp, E12.trans (Ex.put _ (.inr rfl)), so13⟩
  ·rintro σ H1 ⟨x7, rfl, S12, E12, so12⟩
   exact hN _ _ ⟨_, rfl, S12, E12, so12.upto (by omega)⟩
 rintro σ' H12 ⟨x7, rfl, S12, E12, so12⟩
 refine seq_post (fun σ' H' => σ' = [some (.ref d), some (.int x), some (.int nv), some (.ref a), some (.ref lf), some (.ref D), some (.ref sd), x7, none, none] ∧ Sto H' d p ∧ Ex (fun b => b = d ∨ b = sd) HS H' ∧ SumsOk H' sd 10) (fun N hN => ?_) ?_
 ·refine ⟨_, rfl, d, p, 4, rfl, S12, by decide, fun r13 H13 _ _ S13 o13 => ⟨rfl, _, rfl, ?_⟩⟩
  have E13 : Ex (fun b => b = d ∨ b = sd) HS H13 := E12.trans (o13.ex.wide fun b h => .inl h)
  have so13 : SumsOk H13 sd 9 := so12.stay fun h => (o13 _ oS).trans h
  refine ite2 (fun _ => ?_) (fun _ => iteF (hN _ _ ⟨rfl, S13, E13, so13.more⟩))
  refine ⟨_, rfl, _, _, rfl, rfl, _, rfl, ite2 (fun _ => ?_) (fun _ => hN _ _ ⟨rfl, S13, E13, so13.more⟩)⟩
  have d2 := (exS E13).1
  have Rne : R ≠ [] := fun z => by rw [z] at hrs; simp at hrs; omega
  obtain ⟨x1, h1, m1⟩ := pick_int R (r := 0) (by omega) (by omega)
  obtain ⟨x2, h2, m2⟩ := last_int Rne
  have b1 := Rb x1 m1
  have b2 := Rb x2 m2
  obtain ⟨kvs, e2, len2, so14⟩ := so13.put (x := x1 + x2) (by omega) (by omega)
  exact ⟨_, rfl, _, rfl, D, _, _, _, rfl, rfl, SqL.of d2, h1, _, rfl, _, rfl, D, _, _, _, rfl, rfl, SqL.of d2, h2, _, _, rfl, rfl, sd, _, rfl, DPut.k (k := Sum.inl (x1 + x2)) e2 (small1000 (by omega)), hN _ _ ⟨rfl, S13.off2 oS oSp, E13.trans (Ex.put _ (.inr rfl)), so14⟩⟩
 rintro σ' H14 ⟨rfl, S14, E14, so14⟩
 refine ⟨_, rfl, d, p, 10007, rfl, S14, by decide, fun z H15 z0 z1 S15 o15 => ?_⟩
 have E15 : Ex (fun b => b = d ∨ b = sd) HS H15 := E14.trans (o15.ex.wide fun b h => .inl h)
 have so15 : SumsOk H15 sd 10 := so14.stay fun h => (o15 _ oS).trans h
 refine ⟨_, rfl, _, _, rfl, rfl, (by show (0 : Int) < 4; decide), _, rfl, _, _, rfl, rfl, (by show (0 : Int) < 11; decide), (by show 3 ≤ sizeLine; decide), fun l hl => ?_⟩
 have s16 := Same.new hl (.lst [.int 0, .int (z % 4), .int (z % 11)])
 refine ⟨_, rfl, d, p, 3, rfl, S15.ex s16, by decide, fun r17 H17 c0 c1 S17 o17 => ?_⟩
 obtain ⟨cv, hcv, mcv⟩ := pick_int [0, z % 4, z % 11] c0 c1
 have cb : 0 ≤ cv ∧ cv ≤ 10 := by
  simp only [List.mem_cons, List.not_mem_nil, or_false] at mcv
  omega
 refine ⟨l, _, _, .int cv, rfl, rfl, SqL.of ((o17 l (S15.out hl)).trans upd_same), hcv, _, rfl, by omega, by omega, ?_⟩
 have E17 : Ex (fun b => b = d ∨ b = sd) HS H17 := E15.trans ((Ex.trans (Ex.same s16) o17.ex).wide fun b h => .inl h)
 have so17 : SumsOk H17 sd 10 := (so15.stay fun h => s16 _ _ h).stay fun h => (o17 _ oS).trans h
 refine for_range (lo := 0) (n := cv.toNat) (fun i σ H' => ∃ (x7 x8 x9 : Option V), σ = [some (.ref d), some (.int z), some (.int nv), some (.ref a), some (.ref lf), some (.ref D), some (.ref sd), x7, x8, x9] ∧ Sto H' d p ∧ Ex (fun b => b = d ∨ b = sd) HS H' ∧ SumsOk H' sd 10)
  ⟨_, _, _, rfl, S17, E17, so17⟩ ?_ ?_
 ·rintro i σ H18 hi ⟨x7, x8, x9, rfl, S18, E18, so18⟩
  refine ⟨_, rfl, _, rfl, _, rfl, d, p, nv, rfl, S18, by omega, fun r1 H19 r10 r11 S19 o19 => ?_⟩
  have E19 : Ex (fun b => b = d ∨ b = sd) HS H19 := E18.trans (o19.ex.wide fun b h => .inl h)
  obtain ⟨x1, h1, m1⟩ := pick_int ns (r := r1) r10 (by omega)
  refine ⟨a, _, _, _, rfl, rfl, SqL.of (exS E19).2, h1, ?_⟩
  refine ⟨_, rfl, _, rfl, _, rfl, d, p, nv, rfl, S19, by omega, fun r2 H20 r20 r21 S20 o20 => ?_⟩
  have E20 : Ex (fun b => b = d ∨ b = sd) HS H20 := E19.trans (o20.ex.wide fun b h => .inl h)
  obtain ⟨x2, h2, m2⟩ := pick_int ns (r := r2) r20 (by omega)
  refine ⟨a, _, _, _, rfl, rfl, SqL.of (exS E20).2, h2, ?_⟩
  have b1 := Nb x1 m1
  have b2 := Nb x2 m2
  have so20 : SumsOk H20 sd 10 := (so18.stay fun h => (o19 _ oS).trans h).stay fun h => (o20 _ oS).trans h
  dsimp only [gName]
  refine seq_post (fun σ' H' => ∃ ov : Int, σ' = [some (.ref d), some (.int z), some (.int nv), some (.ref a), some (.ref lf), some (.ref D), some (.ref sd), some (.int (0 + (i : Int))), some (.int x1), some (.int ov)] ∧ 0 ≤ ov ∧ ov < 2 ^ 95 ∧ Sto H' d p ∧ Ex (fun b => b = d ∨ b = sd) HS H' ∧ SumsOk H' sd 10) (fun N hN => ?_) ?_
  ·refine ⟨_, rfl, d, p, 6, rfl, S20, by decide, fun r3 H21 _ _ S21 o21 => ⟨rfl, _, rfl, ?_⟩⟩
   have E21 : Ex (fun b => b = d ∨ b = sd) HS H21 := E20.trans (o21.ex.wide fun b h => .inl h)
   have so21 : SumsOk H21 sd 10 := so20.stay fun h => (o21 _ oS).trans h
   refine ite2 (fun _ => ?_) (fun _ => hN _ _ ⟨x2, rfl, b2.1, b2.2, S21, E21, so21⟩)
   exact ⟨_, rfl, d, p, 40, rfl, S21, by decide, fun r4 H22 r40 r41 S22 o22 => hN _ _ ⟨r4, rfl, r40, by omega, S22, E21.trans (o22.ex.wide fun b h => .inl h), so21.stay fun h => (o22 _ oS).trans h⟩⟩
  rintro σ' H23 ⟨ov, rfl, v0, v1, S23, E23, so23⟩
  obtain ⟨kvs, ks, k1, k2, k3, k4, k5⟩ := id so23
  have hkl : kvs.length = ks.length := by have := congrArg List.length k2; simpa using this
  refine ⟨_, rfl, sd, kvs, rfl, k1, _, _, rfl, rfl, _, rfl, ite2 (fun c => ?_) (fun _ => ⟨_, _, _, rfl, S23, E23, so23⟩)⟩
  have c' : (kvs.length : Int) < 10 := of_decide_eq_true c
  have so24 : SumsOk H23 sd 9 := ⟨kvs, ks, k1, k2, k3, k4, by omega⟩
  obtain ⟨kvs', e2, len2, so25⟩ := so24.put (x := x1 + ov) (by omega) (by omega)
  exact ⟨_, rfl, _, rfl, _, rfl, _, _, rfl, rfl, sd, _, rfl, DPut.k (k := Sum.inl (x1 + ov)) e2 (small1000 (by omega)), _, _, _, rfl, S23.off2 oS oSp, E23.trans (Ex.put _ (.inr rfl)), so25⟩
 ·rintro σ H18 ⟨x7, x8, x9, rfl, S18, E18, kvs, ks, k1, k2, k3, k4, k5⟩
  refine ⟨_, rfl, _, rfl, sd, kvs, ks, rfl, k1, k2, by omega, fun b ss hb ps ss' => ⟨two_le, fun t ht => ?_⟩⟩
  have sb := Same.new hb (.lst (ss.map V.int))
  have st := Same.new ht (.tup [.ref a, .ref b])
  have a18 := (exS E18).2
  have EH : Ex (· = d) H H18 := fun c o nc hc => E18 c o (fun z => z.elim nc fun z => by rw [z, hsH] at hc; cases hc) (E10 c o nc hc)
  have fr : ∀ x, H18 x = none → H x = none := fun x hx => exN S18 EH hx
  refine q t a b ns ss _ (S18.ex (sb.trans st)) (EH.trans (Ex.same (sb.trans st))) (fr t (none_of_same sb ht)) naH (fr b hb) (ne_of_none a18 hb) upd_same (st _ _ (sb _ _ a18)) (st _ _ upd_same) ⟨rise, ⟨strict ss' (ps.nodup_iff.mpr k3), fun x hx => (k4 x (ps.mem_iff.mp hx)).1⟩, by omega, by omega, by rw [ps.length_eq]; exact k5⟩ (fun x hx => (Nb x hx).2) fun x hx => (k4 x (ps.mem_iff.mp hx)).2
end
structure BtR (mg : Str → Option Value) : Prop extends Bt2 mg where
 repr : mg "repr" = none
abbrev sWhole : Stmt := top 16
abbrev sRise : Stmt := top 18
abbrev sIsP : Stmt := top 19
structure IsPl (H : Hp) (t a b : Addr) (ns ss : List Int) : Prop where
 t : H t = some (.tup [.ref a, .ref b])
 a : H a = some (.lst (ns.map V.int))
 b : H b = some (.lst (ss.map V.int))
 ok : PlanOk ns ss
theorem IsPl.same {H H' : Hp} {t a b : Addr} {ns ss : List Int} (h : IsPl H t a b ns ss) (g : Same H H') : IsPl H' t a b ns ss := ⟨g _ _ h.t, g _ _ h.a, g _ _ h.b, h.ok⟩
def spWholeD : Sp := fun vs H Q _ => ∃ v d, vs = [v] ∧ Dat H v d ∧ Q (.bl (isW d)) H
def spRiseD : Sp := fun vs H Q _ => ∃ v d few, vs = [v, .int few] ∧ Dat H v d ∧ Q (.bl (riseD few d)) H
def spIsPD : Sp := fun vs H Q _ => ∃ v d, vs = [v] ∧ Dat H v d ∧ Q (.bl (planD d)) H
theorem rise_step {ds : List PyData} {i : Nat} {d : PyData} {b : Int} (e : ds[i]? = some d) : riseGo b (ds.drop i) = riseGo b (d :: ds.drop (i + 1)) := by
 obtain ⟨hi, hv⟩ := List.getElem?_eq_some_iff.mp e
 rw [List.drop_eq_getElem_cons hi, hv]
theorem rise_ints : ∀ {xs : List Int} {b : Int}, xs.Pairwise (· < ·) → (∀ x ∈ xs, b < x) → riseGo b (xs.map PyData.int) = true
 | [], _, _, _ => rfl
 | x :: r, b, h, hb => by
  rw [List.pairwise_cons] at h
  show (decide (b < x) && riseGo x (r.map PyData.int)) = true
  rw [decide_eq_true (hb x List.mem_cons_self), rise_ints h.2 h.1]
  rfl
theorem rise_of {xs : List Int} (h : Rise xs) {few : Int} (l1 : few ≤ (xs.length : Int)) (l2 : xs.length ≤ 10) : riseD few (.list (xs.map PyData.int)) = true := by
 show (decide (few ≤ (((xs.map PyData.int).length : Nat) : Int)) && (decide ((xs.map PyData.int).length ≤ 10) && riseGo (-1) (xs.map PyData.int))) = true
 rw [List.length_map, decide_eq_true l1, decide_eq_true l2, rise_ints h.up fun x hx => by have := h.bd x hx; omega]
 rfl
theorem IsPl.dat {H : Hp} {t a b : Addr} {ns ss : List Int} (h : IsPl H t a b ns ss) : ∃ d, Dat H (.ref t) d ∧ planD d = true := by
 refine ⟨_, .tup h.t (.cons (.lst h.a (DatAll.ints ns)) (.cons (.lst h.b (DatAll.ints ss)) .nil)), ?_⟩
 show (riseD 1 (.list (ns.map PyData.int)) && riseD 0 (.list (ss.map PyData.int))) = true
 have n1 := h.ok.n1
 rw [rise_of h.ok.n (by omega) h.ok.n2, rise_of h.ok.s (by omega) h.ok.s2]
 rfl
section
variable {f wh ri : Addr} {fd whd rid : FuncData} {t10 : Tok}
theorem scWhole : FnScope ["thing"] ["thing"] (defScope sWhole) := ⟨rfl, rfl, rfl, by decide +kernel, rfl, by decide +kernel, by decide +kernel⟩
theorem ok_wholeD (F : Fun K "is_whole" "is_whole" sWhole f fd) (B : Bt2 mg) : FnOk P w K mg base CX0 1 f fd ["thing"] spWholeD := by
 refine F.ok scWhole (fun vs H Q E h => ?_) (fun cdv A outer s H vs Q E hr h => ?_)
 ·obtain ⟨v, d, rfl, _⟩ := h
  rfl
 obtain ⟨v, d, rfl, hd, q⟩ := h
 refine ⟨_, (@pss_one _ _ _ (ps_ret (pe_and (pe_callB (call_isi "int") rfl B.isinstance boot_isinstance (pa_cons (pv 0) (pa_cons (pe_bltn (v := .ty "int") rfl B.int PyProof.Rows.boot_int rfl) pa_nil))) (pe_one (pe_not (pe_callB (call_isi "bool") rfl B.isinstance boot_isinstance (pa_cons (pv 0) (pa_cons (pe_bltn (v := .ty "bool") rfl B.bool PyProof.Rows.boot_bool rfl) pa_nil)))))))), ?_⟩
 refine ⟨_, rfl, _, _, isI d, rfl, hd.ty, kit_i _ d, _, rfl, ite2 (fun c => ?_) (fun c => ?_)⟩
 ·refine ⟨_, rfl, _, _, isB d, rfl, hd.ty, kit_b _ d, _, rfl, ?_⟩
  have e : (!isB d) = isW d := by cases d <;> first | rfl | cases c
  rw [← e] at q
  exact q
 ·have e : isW d = false := by cases d <;> first | rfl | exact absurd rfl c
  rw [e] at q
  exact q
theorem scRise : FnScope ["thing", "fewest", "below", "number"] ["thing", "fewest"] (defScope sRise) := ⟨rfl, rfl, rfl, by decide +kernel, rfl, by decide +kernel, by decide +kernel⟩
theorem ok_riseD (F : Fun K "is_rising_list" "is_rising_list" sRise f fd) (B : Bt2 mg) (m10 : mg "MOST" = some (.int 10 t10))
  (GW : FnOk P w K mg base CX0 1 wh whd ["thing"] spWholeD) (bW : Binds K whd ["thing"] []) (kW : Kee K wh) (mW : mg "is_whole" = some (.ref wh)) : FnOk P w K mg base CX0 2 f fd ["thing", "fewest"] spRiseD := by
 refine F.ok scRise (fun vs H Q E h => ?_) (fun cdv A outer s H vs Q E hr h => ?_)
 ·obtain ⟨v, d, few, rfl, _⟩ := h
  rfl
 obtain ⟨v, d, few, rfl, hd, q⟩ := h
 refine ⟨_, (@pss_cons _ _ _ _ _ (ps_if (PW.pt (pw_or (pt_not (pt_val (pe_callB (call_isi "list") rfl B.isinstance boot_isinstance (pa_cons (pv 0) (pa_cons (pe_bltn (v := .ty "list") rfl B.list PyProof.Rows.boot_list rfl) pa_nil))))) (pw_or1 (pt_not (pt_chain op_le op_le (pv 1) (pe_callB call_len_seq rfl B.len PySem.boot_len (pa_cons (pv 0) pa_nil)) (pe_glob (v := .int 10) rfl m10 ⟨_, rfl⟩)))))) (@pss_one _ _ _ (ps_ret pe_bl)) pss_nil) (@pss_cons _ _ _ _ _ (ps_set (i := 2) scRise.nd rfl (Or.inl rfl) (pe_un un_neg pe_int)) (@pss_cons _ _ _ _ _ (ps_for PassesOwn.never rfl (pi_list (pv 0)) (pg_name (i := 3) scRise.nd rfl (Or.inl rfl)) (@pss_cons _ _ _ _ _ (ps_if (PW.pt (pw_or (pt_not (pt_val (pe_call GW hr rfl mW kW bW .nil pass0 (pa_cons (pv 3) pa_nil)))) (pw_or1 (pt_cmpR op_le (pv 3) (pv 2) (nomark _))))) (@pss_one _ _ _ (ps_ret pe_bl)) pss_nil) (@pss_one _ _ _ (ps_set (i := 2) scRise.nd rfl (Or.inl rfl) (pv 3))))) (@pss_one _ _ _ (ps_ret pe_bl))))), ?_⟩
 refine ⟨_, rfl, _, _, isL d, rfl, hd.ty, kit_l _ d, _, rfl, ite2 (fun c => ?_) (fun c => ?_)⟩
 ·have e : riseD few d = false := by cases d <;> first | rfl | cases c
  rw [e] at q
  exact q
 cases hd with
 | lst ha hx =>
  rename_i a xs ds
  have hl := hx.len
  have eq : riseD few (.list ds) = (decide (few ≤ (ds.length : Int)) && (decide (ds.length ≤ 10) && riseGo (-1) ds)) := rfl
  rw [eq] at q
  refine ⟨_, rfl, _, rfl, a, _, rfl, .inl (SqL.of ha), _, _, rfl, rfl, _, rfl, ite2 (fun c1 => ?_) (fun c1 => ?_)⟩
  ·refine ⟨_, _, rfl, rfl, _, rfl, ite2 (fun c2 => ?_) (fun c2 => ?_)⟩
   ·have e : decide (ds.length ≤ 10) = false := by
     have c3 : (!decide (((xs.length : Nat) : Int) ≤ 10)) = true := c2
     rw [Bool.not_eq_true', decide_eq_false_iff_not] at c3
     exact decide_eq_false (by omega)
    rw [e, Bool.false_and, Bool.and_false] at q
    exact q
   ·have e1 : decide (few ≤ (ds.length : Int)) = true := by rw [← hl]; exact c1
    have e2 : decide (ds.length ≤ 10) = true := by
     have c3 : ¬ (!decide (((xs.length : Nat) : Int) ≤ 10)) = true := c2
     rw [Bool.not_eq_true', decide_eq_false_iff_not] at c3
     exact decide_eq_true (by omega)
    rw [e1, e2, Bool.true_and, Bool.true_and] at q
    refine ⟨_, rfl, _, rfl, a, rfl, ⟨_, SqL.of ha⟩, ?_⟩
    refine for_list (xs := xs) (fun i σ H' => ∃ (bl : Int) (y : Option V), σ = [some (.ref a), some (.int few), some (.int bl), y] ∧ H' = H ∧ riseGo bl (ds.drop i) = riseGo (-1) ds)
     ⟨-1, none, rfl, rfl, rfl⟩ (fun i σ H' _ ⟨_, _, _, e, _⟩ => by rw [e]; exact SqL.of ha) ?_ ?_
    ·rintro i x σ H' hxi ⟨bl, y, rfl, rfl, hb⟩
     obtain ⟨d', ed, hd'⟩ := hx.at hxi
     rw [rise_step ed] at hb
     refine ⟨_, rfl, x, d', rfl, hd', _, rfl, ite2 (fun c3 => ?_) (fun c3 => ?_)⟩
     ·have e : riseGo bl (d' :: ds.drop (i + 1)) = false := by cases d' <;> first | rfl | cases c3
      rw [← hb, e] at q
      exact q
     ·cases d' with
      | int n =>
       cases hd'
       refine ⟨_, rfl, _, rfl, _, _, rfl, rfl, _, rfl, ite2 (fun c4 => ?_) (fun c4 => ?_)⟩
       ·have e : riseGo bl (.int n :: ds.drop (i + 1)) = false := by
         have c5 : n ≤ bl := of_decide_eq_true c4
         show (decide (bl < n) && riseGo n (ds.drop (i + 1))) = false
         rw [decide_eq_false (by omega), Bool.false_and]
        rw [← hb, e] at q
        exact q
       ·refine ⟨_, rfl, n, _, rfl, rfl, ?_⟩
        rw [← hb]
        have c5 : ¬ n ≤ bl := fun z => c4 (decide_eq_true z)
        show riseGo n (ds.drop (i + 1)) = (decide (bl < n) && riseGo n (ds.drop (i + 1)))
        rw [decide_eq_true (by omega), Bool.true_and]
      | _ => exact absurd rfl c3
    ·rintro σ H' ⟨bl, y, rfl, rfl, hb⟩
     rw [← hb, hl, List.drop_length] at q
     exact q
  ·have e : decide (few ≤ (ds.length : Int)) = false := by
    rw [← hl]
    exact Bool.eq_false_iff.mpr c1
   rw [e, Bool.false_and] at q
   exact ⟨_, rfl, q⟩
 | _ => exact absurd rfl c
theorem scIsP : FnScope ["thing"] ["thing"] (defScope sIsP) := ⟨rfl, rfl, rfl, by decide +kernel, rfl, by decide +kernel, by decide +kernel⟩
theorem two_of {H : Hp} {xs : List V} {ds : List PyData} (h : DatAll H xs ds) (e : xs.length = 2) : ∃ x y dx dy, xs = [x, y] ∧ ds = [dx, dy] ∧ Dat H x dx ∧ Dat H y dy := by
 cases h with
 | nil => cases e
 | cons h1 h2 =>
  cases h2 with
  | nil => cases e
  | cons h3 h4 =>
   cases h4 with
   | nil => exact ⟨_, _, _, _, rfl, rfl, h1, h3⟩
   | cons _ _ => simp at e
theorem plan_no {ds : List PyData} (e : ds.length ≠ 2) : planD (.tuple ds) = false := by
 match ds with
 | [] => rfl
 | [_] => rfl
 | [_, _] => exact absurd rfl e
 | _ :: _ :: _ :: _ => rfl
theorem ok_isPD (F : Fun K "is_plan" "is_plan" sIsP f fd) (B : Bt2 mg) (GI : FnOk P w K mg base CX0 2 ri rid ["thing", "fewest"] spRiseD) (bI : Binds K rid ["thing", "fewest"] []) (kI : Kee K ri) (mI : mg "is_rising_list" = some (.ref ri)) : FnOk P w K mg base CX0 3 f fd ["thing"] spIsPD := by
 refine F.ok scIsP (fun vs H Q E h => ?_) (fun cdv A outer s H vs Q E hr h => ?_)
 ·obtain ⟨v, d, rfl, _⟩ := h
  rfl
 obtain ⟨v, d, rfl, hd, q⟩ := h
 refine ⟨_, (@pss_cons _ _ _ _ _ (ps_if (PW.pt (pw_or (pt_not (pt_val (pe_callB (call_isi "tuple") rfl B.isinstance boot_isinstance (pa_cons (pv 0) (pa_cons (pe_bltn (v := .ty "tuple") rfl B.tuple PyProof.Rows.boot_tuple rfl) pa_nil))))) (pw_or1 (pt_cmpR op_ne (pe_callB call_len_seq rfl B.len PySem.boot_len (pa_cons (pv 0) pa_nil)) pe_int (nomark _))))) (@pss_one _ _ _ (ps_ret pe_bl)) pss_nil) (@pss_one _ _ _ (ps_ret (pe_and (pe_call GI hr rfl mI kI bI .nil pass0 (pa_cons (pe_ix ix_tup (pv 0) pe_int (fun _ _ => rfl)) (pa_cons pe_int pa_nil))) (pe_one (pe_call GI hr rfl mI kI bI .nil pass0 (pa_cons (pe_ix ix_tup (pv 0) pe_int (fun _ _ => rfl)) (pa_cons pe_int pa_nil)))))))), ?_⟩
 refine ⟨_, rfl, _, _, isT d, rfl, hd.ty, kit_t _ d, _, rfl, ite2 (fun c => ?_) (fun c => ?_)⟩
 ·have e : planD d = false := by cases d <;> first | rfl | cases c
  rw [e] at q
  exact q
 cases hd with
 | tup ha hx =>
  rename_i a xs ds
  have hl := hx.len
  refine ⟨_, rfl, a, _, rfl, .inr (SqT.of ha), rfl, _, rfl, ite2 (fun c1 => ?_) (fun c1 => ?_)⟩
  ·have e : planD (.tuple ds) = false := plan_no fun z => by
    have c2 : (!decide (V.int ((xs.length : Nat) : Int) = V.int 2)) = true := c1
    rw [hl, z] at c2
    exact absurd c2 (by decide)
   rw [e] at q
   exact q
  ·have c2 : ¬ (!decide (V.int ((xs.length : Nat) : Int) = V.int 2)) = true := c1
   rw [Bool.not_eq_true', decide_eq_false_iff_not, Decidable.not_not] at c2
   have c3 := V.int.inj c2
   obtain ⟨x, y, dx, dy, rfl, rfl, h1, h2⟩ := two_of hx (by omega)
   have e : planD (.tuple [dx, dy]) = (riseD 1 dx && riseD 0 dy) := rfl
   rw [e] at q
   refine ⟨_, rfl, a, _, 0, _, rfl, rfl, SqT.of ha, rfl, x, dx, 1, rfl, h1, _, rfl, ite2 (fun c4 => ?_) (fun c4 => ?_)⟩
   ·rw [c4, Bool.true_and] at q
    exact ⟨_, rfl, a, _, 1, _, rfl, rfl, SqT.of ha, rfl, y, dy, 0, rfl, h2, q⟩
   ·rw [Bool.eq_false_iff.mpr c4, Bool.false_and] at q
    exact q
 | _ => exact absurd rfl c
end
structure Bt4 (mg : Str → Option Value) : Prop extends Bt3 mg where
 zip : mg "zip" = none
 sum : mg "sum" = none
abbrev sCkP : Stmt := top 20
abbrev sAdd : Stmt := top 22
abbrev bmV : List Value := [.type "ValueError", .type "Exception", .type "BaseException", .type "object"]
def addUp (ss : List Int) (x y : Int) : Bool := decide (x ≠ y) && ss.contains (x + y)
def spAdd : Sp := fun vs H Q _ => ∃ (t a b : Addr) (ns ss : List Int) (x y : Int), vs = [.ref t, .int x, .int y] ∧ IsPl H t a b ns ss ∧ Q (.bl (addUp ss x y)) H
abbrev sNb : Stmt := top 30
abbrev sLw : Stmt := top 17
abbrev sHo : Stmt := top 31
abbrev sIsR : Stmt := top 32
def nbB (ss : List Int) (zs : List Int) : Bool := (List.range (zs.length - 1)).all fun i => addUp ss (zs.getD i 0) (zs.getD (i + 1) 0)
def rowB (ns ss zs : List Int) : Bool := zs.isPerm ns && nbB ss zs
def spNb : Sp := fun vs H Q _ => ∃ (t a b p : Addr) (ns ss zs : List Int), vs = [.ref t, .ref p] ∧ IsPl H t a b ns ss ∧ H p = some (.lst (zs.map V.int)) ∧ zs.length < 64 ∧ ∀ H', Same H H' → Q (.bl (nbB ss zs)) H'
theorem cut1 (zs : List Int) : cutV (zs.map V.int) (some 1) none = (zs.drop 1).map V.int := by
 unfold cutV
 have h1 : HT.sIx (zs.map V.int).length 0 (some 1) = min 1 zs.length := by
  unfold HT.sIx
  rw [List.length_map]
  simp
 have h2 : HT.sIx (zs.map V.int).length (zs.map V.int).length none = zs.length := by
  unfold HT.sIx
  rw [List.length_map]
 rw [h1, h2]
 cases zs with
 | nil => rfl
 | cons x r =>
  have e : min 1 (x :: r).length = 1 := by rw [List.length_cons]; omega
  rw [e, List.map_cons, List.drop_succ_cons, List.drop_zero, List.drop_succ_cons, List.drop_zero, List.length_cons, Nat.add_sub_cancel, ← List.length_map (f := V.int), List.take_length]
theorem sorted_uniq : ∀ {xs ys : List Int}, xs.Perm ys → xs.Pairwise (· ≤ ·) → ys.Pairwise (· ≤ ·) → xs = ys
 | [], ys, h, _, _ => by rw [List.nil_perm.mp h]
 | x :: xs, ys, h, hx, hy => by
  cases ys with
  | nil => exact absurd h.length_eq (by simp)
  | cons y ys =>
   have hx' := List.pairwise_cons.mp hx
   have hy' := List.pairwise_cons.mp hy
   have e : x = y := by
    have m1 : y ∈ x :: xs := h.mem_iff.mpr List.mem_cons_self
    have m2 : x ∈ y :: ys := h.mem_iff.mp List.mem_cons_self
    rcases List.mem_cons.mp m1 with z | z
    ·exact z.symm
    ·rcases List.mem_cons.mp m2 with z' | z'
     ·exact z'
     ·have := hx'.1 y z
      have := hy'.1 x z'
      omega
   subst e
   rw [sorted_uniq h.cons_inv hx'.2 hy'.2]
theorem sort_is {ns zs ys : List Int} (hn : ns.Pairwise (· < ·)) (hp : ys.Perm zs) (hs : ys.Pairwise (· ≤ ·)) : (ys == ns) = zs.isPerm ns := by
 rw [Bool.eq_iff_iff, beq_iff_eq, List.isPerm_iff]
 constructor
 ·intro e
  rw [← e]
  exact hp.symm
 ·intro h
  exact sorted_uniq (hp.trans h) hs (hn.imp fun h => Int.le_of_lt h)
def intsL : List PyData → Option (List Int)
 | [] => some []
 | .int n :: r => (intsL r).map (n :: ·)
 | _ :: _ => none
def intsD : PyData → Option (List Int)
 | .list ds => intsL ds
 | _ => none
theorem intsL_all : ∀ ds : List PyData, (intsL ds).isSome = ds.all isW
 | [] => rfl
 | .int n :: r => by
  show ((intsL r).map (n :: ·)).isSome = (true && r.all isW)
  rw [Option.isSome_map, intsL_all r, Bool.true_and]
 | .none :: _ => rfl
 | .bool _ :: _ => rfl
 | .str _ :: _ => rfl
 | .list _ :: _ => rfl
 | .tuple _ :: _ => rfl
 | .dict _ :: _ => rfl
theorem intsL_vals {H : Hp} : ∀ {xs : List V} {ds : List PyData} {zs : List Int}, DatAll H xs ds → intsL ds = some zs → xs = zs.map V.int
 | _, _, _, .nil, e => by cases e; rfl
 | _, _, zs, .cons (d := d) (ds := ds) h t, e => by
  cases h with
  | int n =>
   change (intsL ds).map (n :: ·) = some zs at e
   cases hh : intsL ds with
   | none => rw [hh] at e; cases e
   | some ys =>
    rw [hh] at e
    cases e
    rw [intsL_vals t hh]
    rfl
  | _ => cases e
def rowD (ns ss : List Int) (d : PyData) : Bool := match intsD d with
 | some zs => rowB ns ss zs
 | none => false
def holdD (ns : List Int) (d : PyData) : Bool := match intsD d with
 | some zs => zs.isPerm ns
 | none => false
def shortD : PyData → Prop
 | .list ds => ds.length < 64
 | _ => True
def spLwD : Sp := fun vs H Q _ => ∃ v d, vs = [v] ∧ Dat H v d ∧ shortD d ∧ ∀ H', Same H H' → Q (.bl (intsD d).isSome) H'
def spHoD : Sp := fun vs H Q _ => ∃ (t a b : Addr) (ns ss : List Int) (v : V) (d : PyData), vs = [.ref t, v] ∧ IsPl H t a b ns ss ∧ Dat H v d ∧ shortD d ∧ ∀ H', Same H H' → Q (.bl (holdD ns d)) H'
theorem ints_of {H : Hp} {v : V} {d : PyData} {zs : List Int} (h : Dat H v d) (sh : shortD d) (e : intsD d = some zs) : ∃ p, v = .ref p ∧ H p = some (.lst (zs.map V.int)) ∧ zs.length < 64 := by
 cases h with
 | lst ha hx =>
  have e1 := intsL_vals hx e
  have e2 := hx.len
  change _ < 64 at sh
  rw [e1] at ha e2
  refine ⟨_, rfl, ha, ?_⟩
  rw [List.length_map] at e2
  omega
 | _ => cases e
def intsOf : PyData → List Int
 | .list ds => ds.filterMap fun d => match d with | .int n => some n | _ => none
 | _ => []
def numsD : PyData → List Int
 | .tuple [x, _] => intsOf x
 | _ => []
theorem rise_back {H : Hp} : ∀ {xs : List V} {ds : List PyData} {b : Int}, DatAll H xs ds → riseGo b ds = true → ∃ ns : List Int, xs = ns.map V.int ∧ ds = ns.map PyData.int ∧ ns.Pairwise (· < ·) ∧ ∀ x ∈ ns, b < x
 | _, _, _, .nil, _ => ⟨[], rfl, rfl, List.Pairwise.nil, fun x hx => nomatch hx⟩
 | _, _, b, .cons (d := d) (ds := ds) h t, e => by
  cases h with
  | int n =>
   change (decide (b < n) && riseGo n ds) = true at e
   rw [Bool.and_eq_true, decide_eq_true_eq] at e
   obtain ⟨ns, rfl, rfl, up, lo⟩ := rise_back t e.2
   refine ⟨n :: ns, rfl, rfl, List.pairwise_cons.mpr ⟨lo, up⟩, fun x hx => ?_⟩
   rcases List.mem_cons.mp hx with z | z
   ·rw [z]; exact e.1
   ·have := lo x z; omega
  | _ => cases e
theorem riseD_back {H : Hp} {v : V} {d : PyData} {few : Int} (hd : Dat H v d) (e : riseD few d = true) : ∃ (a : Addr) (ns : List Int), v = .ref a ∧ H a = some (.lst (ns.map V.int)) ∧ d = .list (ns.map PyData.int) ∧ Rise ns ∧ few ≤ (ns.length : Int) ∧ ns.length ≤ 10 := by
 cases hd with
 | lst ha hx =>
  rename_i a xs ds
  change (decide (few ≤ (ds.length : Int)) && (decide (ds.length ≤ 10) && riseGo (-1) ds)) = true at e
  rw [Bool.and_eq_true, Bool.and_eq_true, decide_eq_true_eq, decide_eq_true_eq] at e
  obtain ⟨ns, rfl, rfl, up, lo⟩ := rise_back hx e.2.2
  rw [List.length_map] at e
  exact ⟨a, ns, rfl, ha, rfl, ⟨up, fun x hx => by have := lo x hx; omega⟩, e.1, e.2.1⟩
 | _ => cases e
theorem intsOf_ints (ns : List Int) : intsOf (.list (ns.map PyData.int)) = ns := by
 induction ns with
 | nil => rfl
 | cons n r ih => exact congrArg (n :: ·) ih
theorem plan_back {H : Hp} {v : V} {d : PyData} (hd : Dat H v d) (e : planD d = true) : ∃ (t a b : Addr) (ns ss : List Int), v = .ref t ∧ IsPl H t a b ns ss ∧ numsD d = ns := by
 cases hd with
 | tup ht hx =>
  rename_i t xs ds
  match ds, hx, e with
  | [x, y], .cons h1 (.cons h2 .nil), e =>
   change (riseD 1 x && riseD 0 y) = true at e
   rw [Bool.and_eq_true] at e
   obtain ⟨a, ns, rfl, ha, rfl, rn, n1, n2⟩ := riseD_back h1 e.1
   obtain ⟨b, ss, rfl, hb, rfl, rs, s1, s2⟩ := riseD_back h2 e.2
   exact ⟨t, a, b, ns, ss, rfl, ⟨ht, ha, hb, ⟨rn, rs, by omega, n2, s2⟩⟩, intsOf_ints ns⟩
  | [], _, e => cases e
  | [_], _, e => cases e
  | _ :: _ :: _ :: _, _, e => cases e
 | _ => cases e
def spCkX (XP : Addr) : Sp := fun vs H Q E => ∃ v d, vs = [v] ∧ Dat H v d ∧ (planD d = true → Q .non H) ∧ (planD d = false → E (.ref XP) none H)
def spIsRX (XP : Addr) : Sp := fun vs H Q E => ∃ (v0 : V) (d0 : PyData) (v : V) (d : PyData), vs = [v0, v] ∧ Dat H v0 d0 ∧ Dat H v d ∧ shortD d ∧ (planD d0 = true → ∀ (t a b : Addr) (ns ss : List Int), v0 = .ref t → IsPl H t a b ns ss → ∀ H', Same H H' → Q (.bl (rowD ns ss d)) H') ∧ (planD d0 = false → E (.ref XP) none H)
section
variable {f g1 g2 g3 ip XP : Addr} {fd gd1 gd2 gd3 ipd : FuncData} {t3 : Tok}
theorem scCkP : FnScope ["plan"] ["plan"] (defScope sCkP) := ⟨rfl, rfl, rfl, by decide +kernel, rfl, by decide +kernel, by decide +kernel⟩
theorem ok_ckX (F : Fun K "check_plan" "check_plan" sCkP f fd) (eXP : PySem.W.excIn K XP bmV "ValueError.__new__" = true) (mXP : mg "NoPlan" = some (.ref XP))
  (GP : FnOk P w K mg base CX0 3 ip ipd ["thing"] spIsPD) (bP : Binds K ipd ["thing"] []) (kP : Kee K ip) (mP : mg "is_plan" = some (.ref ip)) : FnOk P w K mg base (CX1 P w) 4 f fd ["plan"] (spCkX XP) := by
 refine F.ok1 scCkP (fun vs H Q E h => ?_) (fun cdv A outer s H vs Q E hr h => ?_)
 ·obtain ⟨v, d, rfl, _⟩ := h
  rfl
 obtain ⟨v, d, rfl, hd, q, qe⟩ := h
 refine ⟨_, (@pss_one _ _ _ (ps_if (pt_not (pt_val (pe_call GP hr rfl mP kP bP .nil pass0 (pa_cons (pv 0) pa_nil)))) (@pss_one _ _ _ (ps_raise raises1 rfl PySem.F.excBase_ValueError eXP rfl mXP (pa_cons pe_str pa_nil))) pss_nil)), ?_⟩
 refine ⟨_, rfl, v, d, rfl, hd, _, rfl, ?_⟩
 cases c : planD d with
 | true => exact iteF (q c)
 | false => exact iteT ⟨by decide, qe c⟩
theorem scAdd : FnScope ["plan", "one", "other"] ["plan", "one", "other"] (defScope sAdd) := ⟨rfl, rfl, rfl, by decide +kernel, rfl, by decide +kernel, by decide +kernel⟩
theorem ok_add (F : Fun K "add_up" "add_up" sAdd f fd) : FnOk P w K mg base CX0 1 f fd ["plan", "one", "other"] spAdd := by
 refine F.ok scAdd (fun vs H Q E h => ?_) (fun cdv A outer s H vs Q E hr h => ?_)
 ·obtain ⟨t, a, b, ns, ss, x, y, rfl, _⟩ := h
  rfl
 obtain ⟨t, a, b, ns, ss, x, y, rfl, pl, q⟩ := h
 refine ⟨_, (@pss_one _ _ _ (ps_ret (pe_and (pe_cmpR op_ne (pv 1) (pv 2) (nomark _)) (pe_one (pe_cmpR (op_inI K) (pe_op op_add (pv 1) (pv 2)) (pe_ix ix_tup (pv 0) pe_int (fun _ _ => rfl)) rfl))))), ?_⟩
 have e1 : (!decide (V.int x = V.int y)) = decide (x ≠ y) := by
  rw [← decide_not]
  exact decide_eq_decide.mpr (not_congr ⟨fun h => V.int.inj h, fun h => by rw [h]⟩)
 unfold addUp at q
 refine ⟨_, rfl, _, rfl, rfl, _, rfl, ?_⟩
 rw [e1]
 refine ite2 (fun c => ?_) (fun c => ?_)
 ·rw [c, Bool.true_and] at q
  exact ⟨_, rfl, _, rfl, _, _, rfl, rfl, _, rfl, t, _, 1, _, rfl, rfl, SqT.of pl.t, rfl, b, x + y, ss, rfl, rfl, SqL.of pl.b, q⟩
 ·rw [Bool.eq_false_iff.mpr c, Bool.false_and] at q
  exact q
theorem scNb : FnScope ["plan", "numbers"] ["plan", "numbers"] (defScope sNb) := ⟨rfl, rfl, rfl, by decide +kernel, rfl, by decide +kernel, by decide +kernel⟩
theorem ok_nb (F : Fun K "are_neighbours" "are_neighbours" sNb f fd) (B : Bt4 mg)
  (GA : FnOk P w K mg base CX0 1 g1 gd1 ["plan", "one", "other"] spAdd) (bA : Binds K gd1 ["plan", "one", "other"] []) (kA : Kee K g1) (mA : mg "add_up" = some (.ref g1)) : FnOk P w K mg base CX0 2 f fd ["plan", "numbers"] spNb := by
 refine F.ok scNb (fun vs H Q E h => ?_) (fun cdv A outer s H vs Q E hr h => ?_)
 ·obtain ⟨t, a, b, p, ns, ss, zs, rfl, _⟩ := h
  rfl
 obtain ⟨t, a, b, p, ns, ss, zs, rfl, pl, hp, h64, q⟩ := h
 refine ⟨_, (@pss_one _ _ _ (ps_ret (pe_callB (call_allB rfl) rfl B.all boot_all (pa_cons (pe_comp ["one", "other"] rfl (blk_ok (defScope sNb) ["plan", "numbers"] rfl rfl (by decide +kernel)) (pi_zip rfl B.zip (pa_cons (pv 1) (pa_cons (pe_slice sl_list (pv 1) (po_some pe_int) po_none) pa_nil))) (fun pins C fp s3 H3 => ⟨(pg_tupK (n := 2) K rfl (pgs_cons (pg_name (i := 0) (show (blkN ["one", "other"] ["plan", "numbers"]).Nodup by decide +kernel) rfl (Or.inl rfl)) (pgs_cons (pg_name (i := 1) (show (blkN ["one", "other"] ["plan", "numbers"]).Nodup by decide +kernel) rfl (Or.inl rfl)) pgs_nil))), pif_nil, (pe_call GA hr rfl mA kA bA .nil pass0 (pa_cons (pv 2) (pa_cons (pv 0) (pa_cons (pv 1) pa_nil))))⟩)) pa_nil)))), ?_⟩
 refine ⟨_, rfl, _, rfl, 1, rfl, p, _, rfl, SqL.of hp, fun l2 hl2 => ?_⟩
 rw [cut1]
 have g2 : Same H (upd H l2 (.lst ((zs.drop 1).map V.int))) := Same.new hl2 _
 have e2 : (upd H l2 (.lst ((zs.drop 1).map V.int))) l2 = some (.lst ((zs.drop 1).map V.int)) := upd_same
 generalize upd H l2 (.lst ((zs.drop 1).map V.int)) = H2 at g2 e2 ⊢
 refine ⟨p, l2, _, _, rfl, g2 _ _ hp, e2, fun D hD => ?_⟩
 refine turns_zip (n := zs.length - 1) (σ := [some (.ref t), some (.ref p)]) (xs := zs.map V.int) (ys := (zs.drop 1).map V.int) (fun _ => true) (fun i => .bl (addUp ss (zs.getD i 0) (zs.getD (i + 1) 0))) (g2 _ _ hp) e2 (by rw [List.length_map, List.length_map, List.length_drop]; omega) hD (by omega) (fun i H' hi g P hP => ?_) (fun i H' hi _ g P hP => ?_) fun H3 g3 e3 => ?_
 ·exact hP _ Same.rfl'
 ·have d1 : (zs.map V.int).getD i .non = .int (zs.getD i 0) := getD_map_int _ (by omega)
  have d2 : ((zs.drop 1).map V.int).getD i .non = .int (zs.getD (i + 1) 0) := by
   rw [getD_map_int _ (by rw [List.length_drop]; omega)]
   congr 1
   rw [List.getD_eq_getElem?_getD, List.getD_eq_getElem?_getD, List.getElem?_drop, Nat.add_comm]
  rw [d1, d2]
  exact ⟨_, rfl, _, rfl, _, rfl, t, a, b, ns, ss, _, _, rfl, (pl.same g2).same g, hP _ Same.rfl'⟩
 ·refine ⟨D, (List.range (zs.length - 1)).map fun i => addUp ss (zs.getD i 0) (zs.getD (i + 1) 0), rfl, SqL.of (by rw [e3, fltT, List.map_map]; rfl), ?_⟩
  have e : ((List.range (zs.length - 1)).map fun i => addUp ss (zs.getD i 0) (zs.getD (i + 1) 0)).all id = nbB ss zs := by
   unfold nbB
   rw [List.all_map]
   rfl
  rw [e]
  exact q H3 (g2.trans g3)
theorem scLw : FnScope ["thing"] ["thing"] (defScope sLw) := ⟨rfl, rfl, rfl, by decide +kernel, rfl, by decide +kernel, by decide +kernel⟩
theorem ok_lwD (F : Fun K "is_list_of_wholes" "is_list_of_wholes" sLw f fd) (B : Bt2 mg)
  (GW : FnOk P w K mg base CX0 1 g1 gd1 ["thing"] spWholeD) (bW : Binds K gd1 ["thing"] []) (kW : Kee K g1) (mW : mg "is_whole" = some (.ref g1)) : FnOk P w K mg base CX0 2 f fd ["thing"] spLwD := by
 refine F.ok scLw (fun vs H Q E h => ?_) (fun cdv A outer s H vs Q E hr h => ?_)
 ·obtain ⟨v, d, rfl, _⟩ := h
  rfl
 obtain ⟨v, d, rfl, hd, sh, q⟩ := h
 refine ⟨_, (@pss_one _ _ _ (ps_ret (pe_and (pe_callB (call_isi "list") rfl B.isinstance boot_isinstance (pa_cons (pv 0) (pa_cons (pe_bltn (v := .ty "list") rfl B.list PyProof.Rows.boot_list rfl) pa_nil))) (pe_one (pe_callB (call_allB rfl) rfl B.all boot_all (pa_cons (pe_comp ["number"] rfl (blk_ok (defScope sLw) ["thing"] rfl rfl (by decide +kernel)) (pi_list (pv 0)) (fun pins C fp s3 H3 => ⟨(pg_name (i := 0) (show (blkN ["number"] ["thing"]).Nodup by decide +kernel) rfl (Or.inl rfl)), pif_nil, (pe_call GW hr rfl mW kW bW .nil pass0 (pa_cons (pv 0) pa_nil))⟩)) pa_nil)))))), ?_⟩
 refine ⟨_, rfl, _, _, isL d, rfl, hd.ty, kit_l _ d, _, rfl, ite2 (fun c => ?_) (fun c => ?_)⟩
 ·cases hd with
  | lst ha hx =>
   rename_i p xs ds
   have hl := hx.len
   change ds.length < 64 at sh
   refine ⟨_, rfl, p, rfl, ⟨_, SqL.of ha⟩, fun D hD => ?_⟩
   refine turns_list (σ := [some (.ref p)]) (xs := xs) (fun _ => true) (fun i => .bl (isW (ds.getD i .none))) (SqL.of ha) hD (by omega) (fun i H' hi g P hP => ?_) (fun i H' hi _ g P hP => ?_) fun H2 g2 e2 => ?_
   ·exact hP _ Same.rfl'
   ·have ex : xs[i]? = some (xs.getD i .non) := by rw [List.getD_eq_getElem?_getD, List.getElem?_eq_getElem hi]; rfl
    obtain ⟨d', ed, hd'⟩ := hx.at ex
    have e3 : ds.getD i .none = d' := by rw [List.getD_eq_getElem?_getD, ed]; rfl
    have hP' := hP
    rw [e3] at hP'
    exact ⟨_, rfl, _, d', rfl, hd'.same g, hP' _ Same.rfl'⟩
   refine ⟨D, (List.range ds.length).map fun i => isW (ds.getD i .none), rfl, SqL.of (by rw [e2, fltT, List.map_map, hl]; rfl), ?_⟩
   have et : ((List.range ds.length).map fun i => isW (ds.getD i .none)).all id = (intsD (.list ds)).isSome := by
    show _ = (intsL ds).isSome
    rw [intsL_all, List.all_map, Bool.eq_iff_iff, List.all_eq_true, List.all_eq_true]
    constructor
    ·intro h x hx
     obtain ⟨i, hi, e⟩ := List.mem_iff_getElem.mp hx
     have z := h i (List.mem_range.mpr hi)
     change isW (ds.getD i .none) = true at z
     rw [List.getD_eq_getElem?_getD, List.getElem?_eq_getElem hi, e] at z
     exact z
    ·intro h i hi
     have hi' := List.mem_range.mp hi
     show isW (ds.getD i .none) = true
     rw [List.getD_eq_getElem?_getD, List.getElem?_eq_getElem hi']
     exact h _ (List.getElem_mem hi')
   rw [et]
   exact q _ g2
  | _ => cases c
 ·have e : (intsD d).isSome = false := by cases d <;> first | rfl | exact absurd rfl c
  rw [e] at q
  exact q _ Same.rfl'
theorem scHo : FnScope ["plan", "thing"] ["plan", "thing"] (defScope sHo) := ⟨rfl, rfl, rfl, by decide +kernel, rfl, by decide +kernel, by decide +kernel⟩
theorem ok_hoD (F : Fun K "holds_all" "holds_all" sHo f fd) (B : Bt2 mg)
  (GL : FnOk P w K mg base CX0 2 g1 gd1 ["thing"] spLwD) (bL : Binds K gd1 ["thing"] []) (kL : Kee K g1) (mL : mg "is_list_of_wholes" = some (.ref g1)) : FnOk P w K mg base CX0 3 f fd ["plan", "thing"] spHoD := by
 refine F.ok scHo (fun vs H Q E h => ?_) (fun cdv A outer s H vs Q E hr h => ?_)
 ·obtain ⟨t, a, b, ns, ss, v, d, rfl, _⟩ := h
  rfl
 obtain ⟨t, a, b, ns, ss, v, d, rfl, pl, hd, sh, q⟩ := h
 refine ⟨_, (@pss_one _ _ _ (ps_ret (pe_and (pe_call GL hr rfl mL kL bL .nil pass0 (pa_cons (pv 1) pa_nil)) (pe_one (pe_cmpR (op_eqD hr.units) (pe_callB call_sorted rfl B.sorted boot_sorted (pa_cons (pv 1) pa_nil)) (pe_ix ix_tup (pv 0) pe_int (fun _ _ => rfl)) (nomark _)))))), ?_⟩
 refine ⟨_, rfl, v, d, rfl, hd, sh, fun H2 g2 => ⟨_, rfl, ite2 (fun c => ?_) (fun c => ?_)⟩⟩
 ·obtain ⟨zs, ez⟩ := Option.isSome_iff_exists.mp c
  obtain ⟨p, rfl, hp, h64⟩ := ints_of hd sh ez
  have eh : holdD ns d = zs.isPerm ns := by unfold holdD; rw [ez]
  rw [eh] at q
  refine ⟨_, rfl, p, zs, rfl, SqL.of (g2 _ _ hp), h64, fun l ys hl hperm hle => ?_⟩
  have g3 : Same H2 (upd H2 l (.lst (ys.map V.int))) := Same.new hl _
  have px := (pl.same g2).same g3
  refine ⟨_, rfl, t, _, 0, _, rfl, rfl, SqT.of px.t, rfl, _, rcv_ints (SqL.of upd_same) (SqL.of px.a), ?_⟩
  rw [sort_is pl.ok.n.up hperm hle]
  exact q _ (g2.trans g3)
 ·have e : holdD ns d = false := by
   unfold holdD
   cases hh : intsD d with
   | none => rfl
   | some zs => rw [hh] at c; exact absurd rfl c
  rw [e] at q
  exact q _ g2
theorem scIsR : FnScope ["plan", "thing"] ["plan", "thing"] (defScope sIsR) := ⟨rfl, rfl, rfl, by decide +kernel, rfl, by decide +kernel, by decide +kernel⟩
theorem ok_isRX (F : Fun K "is_row" "is_row" sIsR f fd)
  (GC : FnOk P w K mg base (CX1 P w) 4 g1 gd1 ["plan"] (spCkX XP)) (bC : Binds K gd1 ["plan"] []) (kC : Kee K g1) (mC : mg "check_plan" = some (.ref g1))
  (GH : FnOk P w K mg base CX0 4 g2 gd2 ["plan", "thing"] spHoD) (bH : Binds K gd2 ["plan", "thing"] []) (kH : Kee K g2) (mH : mg "holds_all" = some (.ref g2))
  (GN : FnOk P w K mg base CX0 4 g3 gd3 ["plan", "numbers"] spNb) (bN : Binds K gd3 ["plan", "numbers"] []) (kN : Kee K g3) (mN : mg "are_neighbours" = some (.ref g3)) : FnOk P w K mg base (CX1 P w) 5 f fd ["plan", "thing"] (spIsRX XP) := by
 refine F.ok1 scIsR (fun vs H Q E h => ?_) (fun cdv A outer s H vs Q E hr h => ?_)
 ·obtain ⟨v0, d0, v, d, rfl, _⟩ := h
  rfl
 obtain ⟨v0, d0, v, d, rfl, hd0, hd, sh, q, qe⟩ := h
 refine ⟨_, (@pss_cons _ _ _ _ _ (ps_expr (pe_call GC hr rfl mC kC bC .nil pass1 (pa_cons (pv 0) pa_nil))) (@pss_one _ _ _ (ps_ret (pe_and (pe_call GH hr rfl mH kH bH .nil pass0 (pa_cons (pv 0) (pa_cons (pv 1) pa_nil))) (pe_one (pe_call GN hr rfl mN kN bN .nil pass0 (pa_cons (pv 0) (pa_cons (pv 1) pa_nil)))))))), ?_⟩
 refine ⟨_, rfl, v0, d0, rfl, hd0, fun c0 => ?_, qe⟩
 obtain ⟨t, a, b, ns, ss, rfl, pl, _⟩ := plan_back hd0 c0
 have q := q c0 t a b ns ss rfl pl
 refine ⟨_, rfl, _, rfl, t, a, b, ns, ss, v, d, rfl, pl, hd, sh, fun H1 g1 => ⟨_, rfl, ite2 (fun c => ?_) (fun c => ?_)⟩⟩
 ·unfold holdD at c
  cases ez : intsD d with
  | none => rw [ez] at c; cases c
  | some zs =>
   rw [ez] at c
   change zs.isPerm ns = true at c
   obtain ⟨p, rfl, hp, h64⟩ := ints_of hd sh ez
   refine ⟨_, rfl, _, rfl, t, a, b, p, ns, ss, zs, rfl, pl.same g1, g1 _ _ hp, h64, fun H2 g2 => ?_⟩
   have e : rowD ns ss d = nbB ss zs := by
    unfold rowD
    rw [ez]
    show rowB ns ss zs = _
    unfold rowB
    rw [c]
    rfl
   rw [← e]
   exact q _ (g1.trans g2)
 ·have e : rowD ns ss d = false := by
   unfold rowD
   unfold holdD at c
   cases ez : intsD d with
   | none => rfl
   | some zs =>
    rw [ez] at c
    change ¬ zs.isPerm ns = true at c
    show rowB ns ss zs = false
    unfold rowB
    rw [Bool.eq_false_iff.mpr c]
    rfl
  rw [e] at q
  exact q _ g1
end
def cnt (m : Nat) : Nat := ((List.range 10).filter fun k => m.testBit k).length
theorem cnt_dec : ∀ m < 1024, ∀ k < 10, m.testBit k = true → cnt (m - 2 ^ k) + 1 = cnt m ∧ m - 2 ^ k < m ∧ (m - 2 ^ k).testBit k = false := by decide +kernel
theorem cnt_zero : ∀ m < 1024, cnt m = 0 → m = 0 := by decide +kernel
theorem cnt_le : ∀ m < 1024, cnt m ≤ 10 := by decide +kernel
theorem bit_lt {n m k : Nat} (h : m < 2 ^ n) (hb : m.testBit k = true) : k < n := by
 rcases Nat.lt_or_ge k n with z | z
 ·exact z
 ·rw [Nat.testBit_lt_two_pow (Nat.lt_of_lt_of_le h (Nat.pow_le_pow_right (by decide) z))] at hb
  cases hb
theorem whole_bit {n k : Nat} (h : k < n) : (2 ^ n - 1).testBit k = true := by rw [Nat.testBit_two_pow_sub_one]; exact decide_eq_true h
theorem pow_le : ∀ n < 11, 2 ^ n ≤ 1024 := by decide +kernel
theorem bits_and : ∀ m < 1024, ∀ k < 10, ((m &&& 2 ^ k) != 0) = m.testBit k := by decide +kernel
section
variable (near : Nat → List Nat) (ends : Nat → Bool)
structure NearOk (n : Nat) : Prop where
 n10 : n ≤ 10
 lt : ∀ e ≤ n, ∀ k ∈ near e, k < n
 up : ∀ e ≤ n, (near e).Pairwise (· < ·)
variable {near ends}
end
theorem pigeon : ∀ (N : Nat) (l : List Nat), l.Nodup → (∀ x ∈ l, x < N) → l.length ≤ N
 | 0, l, _, h => by
  cases l with
  | nil => exact Nat.le_refl _
  | cons a r => exact absurd (h a List.mem_cons_self) (Nat.not_lt_zero _)
 | N + 1, l, nd, h => by
  by_cases hm : N ∈ l
  ·have h1 := pigeon N (l.erase N) (nd.erase N) fun x hx => by
    have hx' := (List.Nodup.mem_erase_iff nd).mp hx
    have := h x hx'.2
    have hne := hx'.1
    omega
   rw [List.length_erase_of_mem hm] at h1
   omega
  ·have h1 := pigeon N l nd fun x hx => by
    have := h x hx
    have hne : x ≠ N := fun e => hm (e ▸ hx)
    omega
   omega
abbrev sNear : Stmt := top 25
abbrev sNums : Stmt := top 26
abbrev sIni0 : Stmt := inClass (top 27) 0
abbrev sSteps : Stmt := inClass (top 27) 1
def iv (l : List Nat) : List Int := l.map fun k : Nat => (k : Int)
theorem iv_len (l : List Nat) : (iv l).length = l.length := List.length_map _
theorem iv_V (l : List Nat) : (iv l).map V.int = l.map fun k : Nat => V.int (k : Int) := List.map_map
theorem iv_contains (l : List Nat) (e : Nat) : (iv l).contains (e : Int) = l.contains e := by
 rw [Bool.eq_iff_iff, List.contains_iff_mem, List.contains_iff_mem]
 unfold iv
 rw [List.mem_map]
 constructor
 ·rintro ⟨k, hk, h⟩
  have h' : k = e := by omega
  exact h' ▸ hk
 ·exact fun h => ⟨e, h, rfl⟩
def nearP (ns ss : List Int) (x : Int) : List Nat := (List.range ns.length).filter fun k => addUp ss x (ns.getD k 0)
def nearX (ns ss : List Int) (fs : List Nat) (e : Nat) : List Nat := if e < ns.length then nearP ns ss (ns.getD e 0) else fs
def spNear : Sp := fun vs H Q _ => ∃ (t a b : Addr) (ns ss : List Int) (x : Int), vs = [.ref t, .int x] ∧ IsPl H t a b ns ss ∧ ∀ (l : Addr) (H' : Hp), Same H H' → H l = none → H' l = some (.lst ((iv (nearP ns ss x)).map V.int)) → Q (.ref l) H'
def NearAt (H : Hp) (nr : Addr) (n : Nat) (near : Nat → List Nat) : Prop := ∃ rs : List Addr, rs.length = n + 1 ∧ H nr = some (.lst (rs.map V.ref)) ∧ ∀ e ≤ n, ∃ r, rs[e]? = some r ∧ H r = some (.lst ((iv (near e)).map V.int))
structure SrT (K : PySem.W.Frag) (C : Addr) : Prop where
 cl : Cls K C
 nA : NoAttr K C "ahead"
 nN : NoAttr K C "near"
 nW : NoAttr K C "whole"
def fs0 (n : Nat) (nr : Addr) : List (Str × V) := [("ahead", .int n), ("near", .ref nr), ("whole", .int ((2 ^ n - 1 : Nat) : Int))]
def spIni0 (C : Addr) : Sp := fun vs H Q _ => ∃ (s t a b fp dx : Addr) (ns ss : List Int) (fs : List Nat), vs = [.ref s, .ref t, .ref fp] ∧ H s = some (.ins C dx []) ∧ IsPl H t a b ns ss ∧ H fp = some (.lst ((iv fs).map V.int)) ∧
 ∀ (nr : Addr) (H' : Hp), Ex (· = s) H H' → H' s = some (.ins C dx (fs0 ns.length nr)) → NearAt H' nr ns.length (nearX ns ss fs) → Q .non H'
def spSteps (C : Addr) : Sp := fun vs H Q _ => ∃ (s dx nr : Addr) (fs : List (Str × V)) (n : Nat) (near : Nat → List Nat) (left e : Nat), vs = [.ref s, .int left, .int e] ∧ H s = some (.ins C dx fs) ∧ fs.lookup ("near" : Str) = some (.ref nr) ∧ NearAt H nr n near ∧ NearOk near n ∧ e ≤ n ∧ left < 1024 ∧
 ∀ (l : Addr) (H' : Hp), Same H H' → H l = none → H' l = some (.lst ((iv ((near e).filter fun k => left.testBit k)).map V.int)) → Q (.ref l) H'
theorem near_ok {ns ss : List Int} {fs : List Nat} (ok : PlanOk ns ss) (h1 : ∀ k ∈ fs, k < ns.length) (h2 : fs.Pairwise (· < ·)) : NearOk (nearX ns ss fs) ns.length where
 n10 := ok.n2
 lt := fun e _ k hk => by
  unfold nearX at hk
  split at hk
  ·exact List.mem_range.mp (List.mem_filter.mp hk).1
  ·exact h1 k hk
 up := fun e _ => by
  unfold nearX
  split
  ·exact List.Pairwise.filter _ List.pairwise_lt_range
  ·exact h2
theorem near_len {near : Nat → List Nat} {n e : Nat} (N : NearOk near n) (he : e ≤ n) : (near e).length ≤ n :=
 pigeon n _ ((N.up e he).imp fun h => Nat.ne_of_lt h) (N.lt e he)
theorem bit_V (left k : Nat) (h : left < 1024) (hk : k < 10) : (Builtin.bitAnd (left : Int) (1 * 2 ^ ((k : Int)).toNat) != 0) = left.testBit k := by
 have e : (1 * 2 ^ ((k : Int)).toNat : Int) = ((2 ^ k : Nat) : Int) := by rw [Int.one_mul, Int.toNat_natCast]; simp
 rw [e, ← bits_and left h k hk]
 unfold Builtin.bitAnd
 simp only [Int.natCast_nonneg, decide_true, Int.toNat_natCast]
 rw [Bool.eq_iff_iff]
 simp only [bne_iff_ne, ne_eq]
 exact not_congr (by omega)
theorem sub_V (left k : Nat) (h : 2 ^ k ≤ left) : ((left : Int) - 1 * 2 ^ ((k : Int)).toNat) = ((left - 2 ^ k : Nat) : Int) := by
 have e : (1 * 2 ^ ((k : Int)).toNat : Int) = ((2 ^ k : Nat) : Int) := by rw [Int.one_mul, Int.toNat_natCast]; simp
 rw [e]; omega
theorem bit_le {left k : Nat} (h : left.testBit k = true) : 2 ^ k ≤ left := Nat.ge_two_pow_of_testBit h
theorem nat_at {l : List Nat} {i k : Nat} (h : l[i]? = some k) : ((iv l).map V.int)[i]? = some (.int (k : Int)) := by rw [iv_V, List.getElem?_map, h]; rfl
section
variable {f ad nf C : Addr} {fd add nfd : FuncData}
theorem scNear : FnScope ["plan", "number"] ["plan", "number"] (defScope sNear) := ⟨rfl, rfl, rfl, by decide +kernel, rfl, by decide +kernel, by decide +kernel⟩
theorem ok_near (F : Fun K "near_places" "near_places" sNear f fd) (B : Bt3 mg)
  (GA : FnOk P w K mg base CX0 1 ad add ["plan", "one", "other"] spAdd) (bA : Binds K add ["plan", "one", "other"] []) (kA : Kee K ad) (mA : mg "add_up" = some (.ref ad)) : FnOk P w K mg base CX0 2 f fd ["plan", "number"] spNear := by
 refine F.ok scNear (fun vs H Q E h => ?_) (fun cdv A outer s H vs Q E hr h => ?_)
 ·obtain ⟨t, a, b, ns, ss, x, rfl, _⟩ := h
  rfl
 obtain ⟨t, a, b, ns, ss, x, rfl, pl, q⟩ := h
 refine ⟨_, (@pss_one _ _ _ (ps_ret (pe_comp ["place", "other"] rfl (blk_ok (defScope sNear) ["plan", "number"] rfl rfl (by decide +kernel)) (pi_enum rfl B.enumerate (pa_cons (pe_ix ix_tup (pv 0) pe_int (fun _ _ => rfl)) pa_nil)) (fun pins C fp s3 H3 => ⟨(pg_tupK (n := 2) K rfl (pgs_cons (pg_name (i := 0) (show (blkN ["place", "other"] ["plan", "number"]).Nodup by decide +kernel) rfl (Or.inl rfl)) (pgs_cons (pg_name (i := 1) (show (blkN ["place", "other"] ["plan", "number"]).Nodup by decide +kernel) rfl (Or.inl rfl)) pgs_nil))), (pif_one (pt_val (pe_call GA hr rfl mA kA bA .nil pass0 (pa_cons (pv 2) (pa_cons (pv 3) (pa_cons (pv 1) pa_nil)))))), (pv 0)⟩)))), ?_⟩
 have n2 := pl.ok.n2
 have hml : (ns.map V.int).length = ns.length := List.length_map _
 refine ⟨_, rfl, t, _, 0, _, rfl, rfl, SqT.of pl.t, rfl, a, _, rfl, pl.a, fun D hD => ?_⟩
 refine turns_enum (σ := [some (.ref t), some (.int x)]) (xs := ns.map V.int) (fun i => addUp ss x (ns.getD i 0)) (fun i => .int (i : Int)) pl.a hD (by omega) (fun i H' hi g P hP => ?_) (fun i H' hi _ g P hP => ?_) fun H2 g2 e2 => ?_
 ·rw [getD_map_int _ (by rw [hml] at hi; exact hi)]
  exact ⟨_, rfl, _, rfl, _, rfl, t, a, b, ns, ss, x, _, rfl, pl.same g, _, rfl, hP _ Same.rfl'⟩
 ·exact ⟨_, rfl, hP _ Same.rfl'⟩
 ·refine q D H2 g2 hD ?_
  rw [e2, hml, iv_V]
  rfl
theorem scIni0 : FnScope ["self", "plan", "first_places"] ["self", "plan", "first_places"] (defScope sIni0) := ⟨rfl, rfl, rfl, by decide +kernel, rfl, by decide +kernel, by decide +kernel⟩
theorem ok_ini0 (F : Fun K "__init__" "Steps.__init__" sIni0 f fd) (B : Bt3 mg) (T : SrT K C)
  (GN : FnOk P w K mg base CX0 2 nf nfd ["plan", "number"] spNear) (bN : Binds K nfd ["plan", "number"] []) (kN : Kee K nf) (mN : mg "near_places" = some (.ref nf)) : FnOk P w K mg base CX0 3 f fd ["self", "plan", "first_places"] (spIni0 C) := by
 refine F.ok scIni0 (fun vs H Q E h => ?_) (fun cdv A outer s H vs Q E hr h => ?_)
 ·obtain ⟨s, t, a, b, fp, dx, ns, ss, fs, rfl, _⟩ := h
  rfl
 obtain ⟨s, t, a, b, fp, dx, ns, ss, fs, rfl, hs, pl, hfp, q⟩ := h
 refine ⟨_, (@pss_cons _ _ _ _ _ (ps_fld (pv 0) (pe_callB call_len_seq rfl B.len PySem.boot_len (pa_cons (pe_ix ix_tup (pv 1) pe_int (fun _ _ => rfl)) pa_nil)) rfl) (@pss_cons _ _ _ _ _ (ps_fld (pv 0) (pe_op op_cat (pe_comp ["number"] rfl (blk_ok (defScope sIni0) ["self", "plan", "first_places"] rfl rfl (by decide +kernel)) (pi_list (pe_ix ix_tup (pv 1) pe_int (fun _ _ => rfl))) (fun pins C fp s3 H3 => ⟨(pg_name (i := 0) (show (blkN ["number"] ["self", "plan", "first_places"]).Nodup by decide +kernel) rfl (Or.inl rfl)), pif_nil, (pe_call GN hr rfl mN kN bN .nil pass0 (pa_cons (pv 2) (pa_cons (pv 0) pa_nil)))⟩)) (pe_lst (pa_cons (pe_callTy call_list_of rfl B.list PyProof.Rows.boot_list (pa_cons (pv 2) pa_nil)) pa_nil))) rfl) (@pss_one _ _ _ (ps_fld (pv 0) (pe_op op_sub (pe_op op_shl pe_int (pe_fld (pv 0) rfl)) pe_int) rfl)))), ?_⟩
 have n2 := pl.ok.n2
 have hml : (ns.map V.int).length = ns.length := List.length_map _
 refine ⟨_, rfl, t, _, 0, _, rfl, rfl, SqT.of pl.t, rfl, a, _, rfl, .inl (SqL.of pl.a), _, rfl, s, C, dx, _, rfl, hs, T.cl, T.nA, (by show 0 < 1000; decide), ?_⟩
 rw [hml]
 have ts : t ≠ s := ne_of pl.t hs (by intro z; cases z)
 have as : a ≠ s := ne_of pl.a hs (by intro z; cases z)
 have bs : b ≠ s := ne_of pl.b hs (by intro z; cases z)
 have fps : fp ≠ s := ne_of hfp hs (by intro z; cases z)
 have pl1 : IsPl (upd H s (.ins C dx (putF "ahead" (.int (ns.length : Int)) []))) t a b ns ss := ⟨by rw [upd_ne ts]; exact pl.t, by rw [upd_ne as]; exact pl.a, by rw [upd_ne bs]; exact pl.b, pl.ok⟩
 have fp1 : (upd H s (.ins C dx (putF "ahead" (.int (ns.length : Int)) []))) fp = some (.lst ((iv fs).map V.int)) := by rw [upd_ne fps]; exact hfp
 have s1 : (upd H s (.ins C dx (putF "ahead" (.int (ns.length : Int)) []))) s = some (.ins C dx (putF "ahead" (.int (ns.length : Int)) [])) := upd_same
 have ex1 : Ex (· = s) H (upd H s (.ins C dx (putF "ahead" (.int (ns.length : Int)) []))) := Ex.put _ rfl
 generalize upd H s (.ins C dx (putF "ahead" (.int (ns.length : Int)) [])) = H1 at pl1 fp1 s1 ex1 ⊢
 refine ⟨_, rfl, t, _, 0, _, rfl, rfl, SqT.of pl1.t, rfl, a, rfl, ⟨_, SqL.of pl1.a⟩, fun D hD => ?_⟩
 refine turns_any (n := ns.length) (fun i σ' H' => ∃ (x : Option V) (rs : List Addr), σ' = [x, some (.ref s), some (.ref t), some (.ref fp)] ∧ Same H1 H' ∧ rs.length = i ∧ H' D = some (.lst (rs.map V.ref)) ∧
  ∀ e < i, ∃ r, rs[e]? = some r ∧ r ≠ D ∧ H' r = some (.lst ((iv (nearP ns ss (ns.getD e 0))).map V.int))) ⟨none, [], rfl, Same.new hD _, rfl, upd_same, fun e he => absurd he (Nat.not_lt_zero _)⟩ ?_ ?_
 ·rintro i σ' H' hi ⟨x, rs, rfl, g, hrs, hl, hr'⟩
  have ex : (ns.map V.int)[i]? = some (.int ns[i]) := by rw [List.getElem?_map, List.getElem?_eq_getElem hi]; rfl
  refine ⟨⟨_, _, SqL.of (g _ _ pl1.a), ex⟩, fun y H2 hy => ?_⟩
  obtain ⟨rfl, hy⟩ := hy
  have ey := hy _ (SqL.of (g _ _ pl1.a))
  rw [ex] at ey
  cases ey
  refine comp_true ?_
  refine ⟨_, rfl, _, rfl, t, a, b, ns, ss, ns[i], rfl, pl1.same g, fun l H4 g4 hl4 e4 => ?_⟩
  have hlD : l ≠ D := fun z => by rw [z, hl] at hl4; cases hl4
  refine ⟨_, g4 _ _ hl, small1000 (by rw [List.length_map]; omega), some (.int ns[i]), rs ++ [l], rfl, fun b o hb => ?_, by rw [List.length_append, hrs]; rfl, ?_, fun e he => ?_⟩
  ·have hne : b ≠ D := fun e => by rw [e, hD] at hb; cases hb
   rw [upd_ne hne]
   exact g4 _ _ (g _ _ hb)
  ·rw [upd_same, List.map_append]; rfl
  ·rcases Nat.lt_or_ge e i with z | z
   ·obtain ⟨r, r1, r2, r3⟩ := hr' e z
    exact ⟨r, by rw [List.getElem?_append_left (by omega)]; exact r1, r2, by rw [upd_ne r2]; exact g4 _ _ r3⟩
   ·have ei : e = i := by omega
    subst ei
    refine ⟨l, by rw [List.getElem?_append_right (by omega), hrs, Nat.sub_self]; rfl, hlD, ?_⟩
    rw [upd_ne hlD, e4, List.getD_eq_getElem?_getD, List.getElem?_eq_getElem hi]
    rfl
 ·rintro σ' H' ⟨x, rs, rfl, g, hrs, hl, hr'⟩
  refine ⟨⟨_, SqL.of (g _ _ pl1.a), by rw [hml]; exact Nat.le_refl _⟩, ?_⟩
  refine ⟨_, rfl, fp, _, rfl, .inl (SqL.of (g _ _ fp1)), fun lf hlf => ⟨by show 1 ≤ sizeLine; decide, fun l2 hl2 => ?_⟩⟩
  have lfD : D ≠ lf := ne_of_none hl hlf
  have l2D : D ≠ l2 := ne_of_none (by rw [upd_ne lfD]; exact hl) hl2
  have l2f : lf ≠ l2 := ne_of_none upd_same hl2
  refine ⟨D, l2, _, _, rfl, rfl, by rw [upd_ne l2D, upd_ne lfD]; exact hl, upd_same, by rw [List.length_map, hrs]; exact Nat.le_of_lt (small2000 (by show ns.length + 1 ≤ 2000; omega)), fun nr hnr => ?_⟩
  have sH : Same H1 (upd (upd (upd H' lf (.lst ((iv fs).map V.int))) l2 (.lst [.ref lf])) nr (.lst (rs.map V.ref ++ [.ref lf]))) := fun c o hc => by
   have c1 := g _ _ hc
   have c2 : (upd H' lf (.lst ((iv fs).map V.int))) c = some o := by rw [upd_ne (ne_of_none c1 hlf)]; exact c1
   have c3 : (upd (upd H' lf (.lst ((iv fs).map V.int))) l2 (.lst [.ref lf])) c = some o := by rw [upd_ne (ne_of_none c2 hl2)]; exact c2
   rw [upd_ne (ne_of_none c3 hnr)]; exact c3
  have nrF : lf ≠ nr := ne_of_none (by rw [upd_ne l2f]; exact upd_same) hnr
  have NA : NearAt (upd (upd (upd H' lf (.lst ((iv fs).map V.int))) l2 (.lst [.ref lf])) nr (.lst (rs.map V.ref ++ [.ref lf]))) nr ns.length (nearX ns ss fs) := by
   refine ⟨rs ++ [lf], by rw [List.length_append, hrs]; rfl, by rw [upd_same, List.map_append]; rfl, fun e he => ?_⟩
   rcases Nat.lt_or_ge e ns.length with z | z
   ·obtain ⟨r, r1, r2, r3⟩ := hr' e z
    have c1 := ne_of_none r3 hlf
    have r4 : (upd H' lf (.lst ((iv fs).map V.int))) r = _ := (upd_ne c1).trans r3
    have c2 := ne_of_none r4 hl2
    have r5 : (upd (upd H' lf (.lst ((iv fs).map V.int))) l2 (.lst [.ref lf])) r = _ := (upd_ne c2).trans r4
    refine ⟨r, by rw [List.getElem?_append_left (by omega)]; exact r1, ?_⟩
    rw [upd_ne (ne_of_none r5 hnr), r5]
    unfold nearX
    rw [if_pos z]
   ·have ei : e = ns.length := by omega
    subst ei
    refine ⟨lf, by rw [List.getElem?_append_right (by omega), hrs, Nat.sub_self]; rfl, ?_⟩
    rw [upd_ne nrF, upd_ne l2f, upd_same]
    unfold nearX
    rw [if_neg (Nat.lt_irrefl _)]
  generalize (upd (upd (upd H' lf (.lst ((iv fs).map V.int))) l2 (.lst [.ref lf])) nr (.lst (rs.map V.ref ++ [.ref lf]))) = H5 at sH NA ⊢
  have s5 := sH _ _ s1
  refine ⟨_, rfl, s, C, dx, _, rfl, s5, T.cl, T.nN, (by show 1 < 1000; decide), ?_⟩
  obtain ⟨rs5, q1, q2, q3⟩ := NA
  have nrs : nr ≠ s := ne_of q2 s5 (by intro z; cases z)
  have NA6 : ∀ o, NearAt (upd H5 s o) nr ns.length (nearX ns ss fs) := fun o => ⟨rs5, q1, by rw [upd_ne nrs]; exact q2, fun e he => by
   obtain ⟨r, r1, r2⟩ := q3 e he
   exact ⟨r, r1, by rw [upd_ne (ne_of r2 s5 (by intro z; cases z))]; exact r2⟩⟩
  refine ⟨_, rfl, s, C, dx, _, _, rfl, upd_same, T.cl, T.nA, rfl, _, _, rfl, rfl, ⟨by omega, by omega, by decide⟩, _, _, rfl, rfl, _, rfl, s, C, dx, _, rfl, upd_same, T.cl, T.nW, (by show 2 < 1000; decide), ?_⟩
  have ew : (1 * 2 ^ ((ns.length : Int)).toNat - 1 : Int) = ((2 ^ ns.length - 1 : Nat) : Int) := by
   rw [Int.one_mul, Int.toNat_natCast]
   have := Nat.one_le_two_pow (n := ns.length)
   rw [Int.natCast_sub this]
   simp
  refine q nr _ (fun c o hc ho => ?_) ?_ (by rw [upd_upd]; exact NA6 _)
  ·rw [upd_ne hc, upd_ne hc]
   exact sH _ _ (ex1 c o hc ho)
  ·rw [upd_same]
   show some (HO.ins C dx [("ahead", .int ns.length), ("near", .ref nr), ("whole", .int (1 * 2 ^ ((ns.length : Int)).toNat - 1))]) = _
   rw [ew]
   rfl
theorem scSteps : FnScope ["self", "left", "end"] ["self", "left", "end"] (defScope sSteps) := ⟨rfl, rfl, rfl, by decide +kernel, rfl, by decide +kernel, by decide +kernel⟩
theorem ok_steps (F : Fun K "steps" "Steps.steps" sSteps f fd) (T : SrT K C) : FnOk P w K mg base CX0 1 f fd ["self", "left", "end"] (spSteps C) := by
 refine F.ok scSteps (fun vs H Q E h => ?_) (fun cdv A outer s H vs Q E hr h => ?_)
 ·obtain ⟨s, dx, nr, fs, n, near, left, e, rfl, _⟩ := h
  rfl
 obtain ⟨s, dx, nr, fs, n, near, left, e, rfl, hs, hn, NA, N, he, hl, q⟩ := h
 refine ⟨_, (@pss_one _ _ _ (ps_ret (pe_comp ["place"] rfl (blk_ok (defScope sSteps) ["self", "left", "end"] rfl rfl (by decide +kernel)) (pi_list (pe_ix ix_list (pe_fld (pv 0) rfl) (pv 2) (fun _ _ => rfl))) (fun pins C fp s3 H3 => ⟨(pg_name (i := 0) (show (blkN ["place"] ["self", "left", "end"]).Nodup by decide +kernel) rfl (Or.inl rfl)), (pif_one (pt_valI (pe_op op_and (pv 2) (pe_op op_shl pe_int (pv 0))))), (pv 0)⟩)))), ?_⟩
 obtain ⟨rs, q1, q2, q3⟩ := NA
 obtain ⟨r, r1, r2⟩ := q3 e he
 have n10 := N.n10
 have hlen := near_len N he
 have hml : ((iv (near e)).map V.int).length = (near e).length := by rw [List.length_map, iv_len]
 refine ⟨_, rfl, s, C, dx, fs, _, rfl, hs, T.cl, T.nN, hn, _, rfl, nr, _, _, _, rfl, rfl, SqL.of q2, atI_nat (by rw [List.getElem?_map, r1]; rfl), r, rfl, ⟨_, SqL.of r2⟩, fun D hD => ?_⟩
 refine turns_list (σ := [some (.ref s), some (.int left), some (.int e)]) (xs := (iv (near e)).map V.int) (fun i => left.testBit ((near e).getD i 0)) (fun i => .int (((near e).getD i 0 : Nat) : Int)) (SqL.of r2) hD (by omega) (fun i H' hi g P hP => ?_) (fun i H' hi _ g P hP => ?_) fun H2 g2 e2 => ?_
 ·have hi' : i < (near e).length := by rw [hml] at hi; exact hi
  have ek : (near e)[i]? = some (near e)[i] := List.getElem?_eq_getElem hi'
  have e1 : ((iv (near e)).map V.int).getD i .non = .int (((near e)[i] : Nat) : Int) := by rw [List.getD_eq_getElem?_getD, nat_at ek]; rfl
  have e2 : (near e).getD i 0 = (near e)[i] := by rw [List.getD_eq_getElem?_getD, ek]; rfl
  have hk := N.lt e he _ (List.getElem_mem hi')
  rw [e1]
  refine ⟨_, rfl, _, rfl, _, _, rfl, rfl, ⟨by omega, by omega, by decide⟩, _, _, rfl, rfl, _, rfl, ?_⟩
  rw [bit_V left _ hl (by omega), ← e2]
  exact hP _ Same.rfl'
 ·have hi' : i < (near e).length := by rw [hml] at hi; exact hi
  have ek : (near e)[i]? = some (near e)[i] := List.getElem?_eq_getElem hi'
  have e1 : ((iv (near e)).map V.int).getD i .non = .int (((near e).getD i 0 : Nat) : Int) := by rw [List.getD_eq_getElem?_getD, nat_at ek, List.getD_eq_getElem?_getD, ek]; rfl
  rw [e1]
  exact ⟨_, rfl, hP _ Same.rfl'⟩
 ·refine q D H2 g2 hD ?_
  rw [e2, hml, iv_V, ← range_getD_filter (fun v => left.testBit v) 0 (near e), List.map_map]
  rfl
end
def ky (l e : Nat) : List Key := [Sum.inl (l : Int), Sum.inl (e : Int)]
theorem ky_inj {l e l' e' : Nat} (h : ky l e = ky l' e') : l = l' ∧ e = e' := by
 unfold ky at h
 injection h with h1 h2
 injection h2 with h2 _
 have a := Sum.inl.inj h1
 have b := Sum.inl.inj h2
 omega
def kcode : List Key → Nat
 | [Sum.inl a, Sum.inl b] => a.toNat * 11 + b.toNat
 | _ => 0
theorem val_mem {kvs : List (List Key × V)} {k : List Key} {v : V} (h : valV kvs k = some v) : (k, v) ∈ kvs := by
 unfold valV at h
 obtain ⟨p, hp, rfl⟩ := Option.map_eq_some_iff.mp h
 have h1 : p.1 = k := of_decide_eq_true (List.find?_some (p := fun kv : List Key × V => decide (kv.1 = k)) hp)
 have h2 := List.mem_of_find?_eq_some hp
 rw [← h1]
 exact h2
structure SP where
 n : Nat
 near : Nat → List Nat
 ends : Nat → Bool
 lasts : List Nat
 s : Addr
 dx : Addr
 nr : Addr
 lp : Addr
 ow : Addr
abbrev sTIn : Stmt := inClass (top 34) 0
abbrev sWy : Stmt := inClass (top 34) 1
abbrev sWb : Stmt := inClass (top 34) 2
abbrev sAw : Stmt := inClass (top 34) 3
structure TyT (K : PySem.W.Frag) (C : Addr) : Prop extends SrT K C where
 nL : NoAttr K C "last_places"
 nK : NoAttr K C "known"
section
variable (near : Nat → List Nat) (ends : Nat → Bool)
def waysF : Nat → Nat → Nat → Nat
 | 0, _, e => if ends e then 1 else 0
 | m + 1, left, e => (((near e).filter fun k => left.testBit k).map fun k => waysF m (left - 2 ^ k) k).sum
def ways (left e : Nat) : Nat := waysF near ends (cnt left) left e
variable {near ends}
theorem ways_succ {n left e : Nat} (N : NearOk near n) (hl : left < 1024) (h0 : left ≠ 0) (he : e ≤ n) : ways near ends left e = (((near e).filter fun k => left.testBit k).map fun k => ways near ends (left - 2 ^ k) k).sum := by
 unfold ways
 cases hc : cnt left with
 | zero => exact absurd (cnt_zero left hl hc) h0
 | succ m =>
  show (((near e).filter fun k => left.testBit k).map fun k => waysF near ends m (left - 2 ^ k) k).sum = _
  congr 1
  refine List.map_congr_left fun k hk => ?_
  obtain ⟨hk1, hb⟩ := List.mem_filter.mp hk
  have := (cnt_dec left hl k (Nat.lt_of_lt_of_le (N.lt e he k hk1) N.n10) hb).1
  have em : cnt (left - 2 ^ k) = m := by omega
  rw [em]
end
section
variable (n : Nat) (near : Nat → List Nat) (ends : Nat → Bool)
structure MemoT (kvs : List (List Key × V)) : Prop where
 nd : (kvs.map (·.1)).Nodup
 ok : ∀ kv ∈ kvs, ∃ l e, kv.1 = ky l e ∧ l ≠ 0 ∧ l < 2 ^ n ∧ e ≤ n ∧ kv.2 = .int (ways near ends l e : Nat)
variable {n near ends}
theorem memoT_nil : MemoT n near ends [] := ⟨List.nodup_nil, (fun _ h => nomatch h)⟩
theorem MemoT.val {kvs : List (List Key × V)} (M : MemoT n near ends kvs) {l e : Nat} {v : V} (h : valV kvs (ky l e) = some v) : v = .int (ways near ends l e : Nat) := by
 obtain ⟨l', e', h1, _, _, _, h2⟩ := M.ok _ (val_mem h)
 obtain ⟨rfl, rfl⟩ := ky_inj h1
 exact h2
theorem MemoT.len {kvs : List (List Key × V)} (M : MemoT n near ends kvs) (hn : n ≤ 10) : kvs.length < sizeLine := by
 have hp : 2 ^ n ≤ 1024 := pow_le n (by omega)
 have hc : ∀ kv ∈ kvs, kcode kv.1 < 11264 := fun kv h => by
  obtain ⟨l, e, h1, _, h3, h4, _⟩ := M.ok kv h
  rw [h1]
  show ((l : Int)).toNat * 11 + ((e : Int)).toNat < 11264
  omega
 have hnd : (kvs.map fun kv => kcode kv.1).Nodup := by
  have h := M.nd
  unfold List.Nodup at h ⊢
  rw [List.pairwise_map] at h ⊢
  refine h.imp_of_mem fun {x y} hx hy hne he => hne ?_
  obtain ⟨l, e, h1, _, _, h4, _⟩ := M.ok x hx
  obtain ⟨l', e', h1', _, _, h4', _⟩ := M.ok y hy
  rw [h1, h1'] at he ⊢
  have he' : ((l : Int)).toNat * 11 + ((e : Int)).toNat = ((l' : Int)).toNat * 11 + ((e' : Int)).toNat := he
  have : l = l' ∧ e = e' := by omega
  rw [this.1, this.2]
 have h := pigeon 11264 _ hnd fun x hx => by
  obtain ⟨kv, h1, rfl⟩ := List.mem_map.mp hx
  exact hc kv h1
 rw [List.length_map] at h
 rw [sizeLine_eq]
 omega
theorem MemoT.put {kvs : List (List Key × V)} (M : MemoT n near ends kvs) {l e : Nat} (h0 : l ≠ 0) (hl : l < 2 ^ n) (he : e ≤ n) : MemoT n near ends (putK kvs (ky l e) (.int (ways near ends l e : Nat))) := by
 refine ⟨?_, ?_⟩
 ·cases hv : valV kvs (ky l e) with
  | none =>
   rw [putK_new _ hv, List.map_append]
   refine List.nodup_append.mpr ⟨M.nd, by simp, fun a ha b hb hab => ?_⟩
   have eb : b = ky l e := by simpa using hb
   subst eb
   subst hab
   obtain ⟨kv, h1, h2⟩ := List.mem_map.mp ha
   have h3 := valV_any (ky l e) kvs
   rw [hv] at h3
   have h4 : (kvs.any fun kv => decide (kv.1 = ky l e)) = true := List.any_eq_true.mpr ⟨kv, h1, decide_eq_true h2⟩
   rw [h4] at h3
   cases h3
  | some v =>
   unfold putK
   rw [valV_any, hv]
   rw [if_pos (show (some v).isSome = true from rfl), List.map_map]
   have : (kvs.map ((fun x : List Key × V => x.1) ∘ fun kv => if kv.1 = ky l e then (kv.1, V.int (ways near ends l e : Nat)) else kv)) = kvs.map (·.1) := by
    refine List.map_congr_left fun kv _ => ?_
    show (if kv.1 = ky l e then (kv.1, V.int (ways near ends l e : Nat)) else kv).1 = kv.1
    split <;> rfl
   rw [this]
   exact M.nd
 ·intro kv h
  unfold putK at h
  split at h
  ·obtain ⟨kv', h1, h2⟩ := List.mem_map.mp h
   by_cases z : kv'.1 = ky l e
   ·rw [if_pos z] at h2
    rw [← h2]
    exact ⟨l, e, z, h0, hl, he, rfl⟩
   ·rw [if_neg z] at h2
    rw [← h2]
    exact M.ok kv' h1
  ·rcases List.mem_append.mp h with z | z
   ·exact M.ok kv z
   ·have z : kv = (ky l e, V.int (ways near ends l e : Nat)) := by simpa using z
    rw [z]
    exact ⟨l, e, rfl, h0, hl, he, rfl⟩
end
def fsT (p : SP) : List (Str × V) := [("ahead", .int p.n), ("near", .ref p.nr), ("whole", .int ((2 ^ p.n - 1 : Nat) : Int)), ("last_places", .ref p.lp), ("known", .ref p.ow)]
structure Tly (C : Addr) (p : SP) (H : Hp) : Prop where
 at_ : H p.s = some (.ins C p.dx (fsT p))
 nr : NearAt H p.nr p.n p.near
 lp : H p.lp = some (.lst ((iv p.lasts).map V.int))
 ok : NearOk p.near p.n
 le : ∀ e < p.n, p.lasts.contains e = p.ends e
def KnownT (p : SP) (H : Hp) (kvs : List (List Key × V)) : Prop := H p.ow = some (.dT kvs) ∧ MemoT p.n p.near p.ends kvs
theorem Tly.ex {C : Addr} {p : SP} {H H' : Hp} {kvs : List (List Key × V)} (S : Tly C p H) (hk : H p.ow = some (.dT kvs)) (g : Ex (· = p.ow) H H') : Tly C p H' := by
 have ne : ∀ {b o}, H b = some o → (∀ kvs, o ≠ .dT kvs) → H' b = some o := fun {b o} h d => g b o (fun z => d kvs (by rw [z, hk] at h; exact (Option.some.inj h).symm)) h
 obtain ⟨rs, q1, q2, q3⟩ := S.nr
 exact ⟨ne S.at_ (fun _ z => by cases z), ⟨rs, q1, ne q2 (fun _ z => by cases z), fun e he => let ⟨r, a, b⟩ := q3 e he; ⟨r, a, ne b (fun _ z => by cases z)⟩⟩, ne S.lp (fun _ z => by cases z), S.ok, S.le⟩
theorem Tly.lt {C : Addr} {p : SP} {H : Hp} (S : Tly C p H) {left : Nat} (h : left < 2 ^ p.n) : left < 1024 := Nat.lt_of_lt_of_le h (pow_le _ (Nat.lt_succ_of_le S.ok.n10))
def spWays (C : Addr) (m : Nat) : Sp := fun vs H Q _ => ∃ (p : SP) (kvs : List (List Key × V)) (left e : Nat), vs = [.ref p.s, .int left, .int e] ∧ Tly C p H ∧ KnownT p H kvs ∧ left < 2 ^ p.n ∧ cnt left ≤ m ∧ e ≤ p.n ∧ (left = 0 → e < p.n) ∧
 ∀ (H' : Hp) (kvs' : List (List Key × V)), Ex (· = p.ow) H H' → KnownT p H' kvs' → Q (.int (ways p.near p.ends left e : Nat)) H'
def spWb (C : Addr) (m : Nat) : Sp := fun vs H Q _ => ∃ (p : SP) (kvs : List (List Key × V)) (left k : Nat), vs = [.ref p.s, .int left, .int k] ∧ Tly C p H ∧ KnownT p H kvs ∧ left < 2 ^ p.n ∧ left.testBit k = true ∧ k < p.n ∧ cnt left ≤ m ∧
 ∀ (H' : Hp) (kvs' : List (List Key × V)), Ex (· = p.ow) H H' → KnownT p H' kvs' → Q (.int (ways p.near p.ends (left - 2 ^ k) k : Nat)) H'
def spAw (C : Addr) : Sp := fun vs H Q _ => ∃ (p : SP) (kvs : List (List Key × V)), vs = [.ref p.s] ∧ Tly C p H ∧ KnownT p H kvs ∧ 1 ≤ p.n ∧ ∀ (H' : Hp) (kvs' : List (List Key × V)), Ex (· = p.ow) H H' → KnownT p H' kvs' → Q (.int (ways p.near p.ends (2 ^ p.n - 1) p.n : Nat)) H'
def spTIn (C : Addr) : Sp := fun vs H Q _ => ∃ (s t a b fp lp dx : Addr) (ns ss : List Int) (fs ls : List Nat), vs = [.ref s, .ref t, .ref fp, .ref lp] ∧ H s = some (.ins C dx []) ∧ IsPl H t a b ns ss ∧ H fp = some (.lst ((iv fs).map V.int)) ∧ H lp = some (.lst ((iv ls).map V.int)) ∧
 ∀ (nr lq ow : Addr) (H' : Hp), Ex (· = s) H H' → H ow = none → H' s = some (.ins C dx [("ahead", .int ns.length), ("near", .ref nr), ("whole", .int ((2 ^ ns.length - 1 : Nat) : Int)), ("last_places", .ref lq), ("known", .ref ow)]) →
  NearAt H' nr ns.length (nearX ns ss fs) → H' lq = some (.lst ((iv ls).map V.int)) → H' ow = some (.dT []) → Q .non H'
theorem sum_cast (l : List Nat) (f : Nat → Nat) : (l.map fun k => ((f k : Nat) : Int)).sum = (((l.map f).sum : Nat) : Int) := by
 induction l with
 | nil => rfl
 | cons a r ih => rw [List.map_cons, List.map_cons, List.sum_cons, List.sum_cons, ih]; omega
section
variable {f g1 g2 C C0 : Addr} {mc : Value} {fd gd1 gd2 : FuncData}
theorem scWb : FnScope ["self", "left", "place"] ["self", "left", "place"] (defScope sWb) := ⟨rfl, rfl, rfl, by decide +kernel, rfl, by decide +kernel, by decide +kernel⟩
theorem ok_wb {j m : Nat} (F : Fun K "ways_by" "Tally.ways_by" sWb f fd) (T : TyT K C) (mW : Meth K C "ways" g1)
  (GW : FnOk P w K mg base CX0 j g1 gd1 ["self", "left", "end"] (spWays C m)) (bW : Binds K gd1 ["self", "left", "end"] []) : FnOk P w K mg base CX0 (j + 1) f fd ["self", "left", "place"] (spWb C (m + 1)) := by
 refine F.ok scWb (fun vs H Q E h => ?_) (fun cdv A outer s H vs Q E hr h => ?_)
 ·obtain ⟨p, kvs, left, k, rfl, _⟩ := h
  rfl
 obtain ⟨p, kvs, left, k, rfl, S, hd, hl, hb, hk, hc, q⟩ := h
 refine ⟨_, (@pss_one _ _ _ (ps_ret (pe_meth (pv 0) T.cl mW GW hr bW .nil pass0 (pa_cons (pe_op op_sub (pv 1) (pe_op op_shl pe_int (pv 2))) (pa_cons (pv 2) pa_nil))))), ?_⟩
 have n10 := S.ok.n10
 have hdec := cnt_dec left (S.lt hl) k (by omega) hb
 refine ⟨_, rfl, p.s, p.dx, _, rfl, S.at_, rfl, _, rfl, _, rfl, _, _, rfl, rfl, ⟨by show (0 : Int) ≤ (k : Int); omega, by show (k : Int) ≤ 1000000; omega, by decide⟩, _, _, rfl, rfl, _, rfl, ?_⟩
 exact ⟨p, kvs, left - 2 ^ k, k, congrArg (fun x => [V.ref p.s, V.int x, V.int (k : Int)]) (sub_V left k (bit_le hb)), S, hd, by omega, by omega, by omega, fun _ => hk, q⟩
theorem scWy : FnScope ["self", "left", "end", "key"] ["self", "left", "end"] (defScope sWy) := ⟨rfl, rfl, rfl, by decide +kernel, rfl, by decide +kernel, by decide +kernel⟩
theorem ok_wy {j m : Nat} (F : Fun K "ways" "Tally.ways" sWy f fd) (B : Bt4 mg) (T : TyT K C) (mB : Meth K C "ways_by" g1) (mS : Meth K C "steps" g2)
  (GB : FnOk P w K mg base CX0 j g1 gd1 ["self", "left", "place"] (spWb C m)) (bB : Binds K gd1 ["self", "left", "place"] [])
  (GS : FnOk P w K mg base CX0 j g2 gd2 ["self", "left", "end"] (spSteps C)) (bS : Binds K gd2 ["self", "left", "end"] []) : FnOk P w K mg base CX0 (j + 1) f fd ["self", "left", "end"] (spWays C m) := by
 refine F.ok scWy (fun vs H Q E h => ?_) (fun cdv A outer s H vs Q E hr h => ?_)
 ·obtain ⟨p, kvs, left, e, rfl, _⟩ := h
  rfl
 obtain ⟨p, kvs, left, e, rfl, S, hd, hl, hc, he, h0, q⟩ := h
 have hu := hu_of hr
 refine ⟨_, (@pss_cons _ _ _ _ _ (ps_if (pt_cmpR op_eq (pv 1) pe_int (nomark _)) (@pss_one _ _ _ (ps_ret (pe_ifExp (pt_cmpR (op_inI K) (pv 2) (pe_fld (pv 0) rfl) rfl) pe_int pe_int))) pss_nil) (@pss_cons _ _ _ _ _ (ps_set (i := 3) scWy.nd rfl (Or.inl rfl) (pe_tup (pa_cons (pv 1) (pa_cons (pv 2) pa_nil)))) (@pss_cons _ _ _ _ _ (ps_if (pt_cmp (pc_dnotin hu (pv 3) (pe_fld (pv 0) rfl))) (@pss_one _ _ _ (ps_dput hu (pe_fld (pv 0) rfl) (pv 3) (pe_callB (call_sumL rfl) rfl B.sum boot_sum (pa_cons (pe_comp ["place"] rfl (blk_ok (defScope sWy) ["self", "left", "end", "key"] rfl rfl (by decide +kernel)) (pi_list (pe_meth (pv 0) T.cl mS GS hr bS .nil pass0 (pa_cons (pv 1) (pa_cons (pv 2) pa_nil)))) (fun pins C fp s3 H3 => ⟨(pg_name (i := 0) (show (blkN ["place"] ["self", "left", "end", "key"]).Nodup by decide +kernel) rfl (Or.inl rfl)), pif_nil, (pe_meth (pv 1) T.cl mB GB hr bB .nil pass0 (pa_cons (pv 2) (pa_cons (pv 0) pa_nil)))⟩)) pa_nil)) rfl)) pss_nil) (@pss_one _ _ _ (ps_ret (pe_dget hu (pe_fld (pv 0) rfl) (pv 3) (fun _ _ => rfl))))))), ?_⟩
 refine ⟨_, rfl, rfl, _, rfl, ite2 (fun c => ?_) (fun c => ?_)⟩
 ·have el : left = 0 := by
   have z := V.int.inj (of_decide_eq_true c)
   omega
  subst el
  have z := q H kvs Ex.refl hd
  have e0 : ways p.near p.ends 0 e = if p.ends e then 1 else 0 := rfl
  rw [e0, ← S.le e (h0 rfl), ← iv_contains] at z
  refine ⟨_, rfl, _, rfl, p.s, C, p.dx, _, _, rfl, S.at_, T.cl, T.nL, rfl, p.lp, _, _, rfl, rfl, SqL.of S.lp, _, rfl, ite2 (fun c => ?_) (fun c => ?_)⟩
  ·have c' : (iv p.lasts).contains (e : Int) = true := c
   rw [c'] at z
   exact z
  ·have c' : (iv p.lasts).contains (e : Int) = false := Bool.eq_false_iff.mpr c
   rw [c'] at z
   exact z
 ·have el : left ≠ 0 := fun z => c (decide_eq_true (by rw [z]; rfl))
  refine ⟨_, rfl, _, rfl, two_le, fun kt hkt => ?_⟩
  have gk : Same H (upd H kt (.tup [.int (left : Int), .int (e : Int)])) := Same.new hkt _
  have S1 : Tly C p (upd H kt (.tup [.int (left : Int), .int (e : Int)])) := S.ex hd.1 (Ex.same gk)
  have hd1 : KnownT p (upd H kt (.tup [.int (left : Int), .int (e : Int)])) kvs := ⟨gk _ _ hd.1, hd.2⟩
  have hk1 : (upd H kt (.tup [.int (left : Int), .int (e : Int)])) kt = some (.tup ((ky left e).map kV)) := upd_same
  have ex1 : Ex (· = p.ow) H (upd H kt (.tup [.int (left : Int), .int (e : Int)])) := Ex.same gk
  generalize upd H kt (.tup [.int (left : Int), .int (e : Int)]) = H1 at S1 hd1 hk1 ex1 ⊢
  refine ⟨_, rfl, _, rfl, p.s, C, p.dx, _, _, rfl, S1.at_, T.cl, T.nK, rfl, p.ow, _, rfl, DGet.t hd1.1 hk1, _, rfl, ite2 (fun c2 => ?_) (fun c2 => ?_)⟩
  ·have hl' := S.lt hl
   have n10 := S.ok.n10
   refine ⟨_, rfl, p.s, p.dx, _, rfl, S1.at_, rfl, _, rfl, _, rfl, p.s, p.dx, p.nr, _, p.n, p.near, left, e, rfl, S1.at_, rfl, S1.nr, S1.ok, he, hl', fun l H2 g2 hln e2 => ⟨l, rfl, ⟨_, SqL.of e2⟩, fun D hD => ?_⟩⟩
   have hd2 : KnownT p H2 kvs := ⟨g2 _ _ hd1.1, hd1.2⟩
   have lo : l ≠ p.ow := ne_of e2 hd2.1 (by intro z; cases z)
   have Do : p.ow ≠ D := ne_of_none hd2.1 hD
   have lD : l ≠ D := ne_of_none e2 hD
   have klen : ((p.near e).filter fun k => left.testBit k).length ≤ 10 := Nat.le_trans (List.length_filter_le _ _) (Nat.le_trans (near_len S.ok he) n10)
   obtain ⟨ks, eks⟩ : ∃ ks, ks = (p.near e).filter fun k => left.testBit k := ⟨_, rfl⟩
   have ew := ways_succ (ends := p.ends) S.ok hl' el he
   have hmem : ∀ k ∈ ks, k < p.n ∧ left.testBit k = true := fun k hk => by
    rw [eks] at hk
    obtain ⟨h1, h2⟩ := List.mem_filter.mp hk
    exact ⟨S.ok.lt e he k h1, h2⟩
   rw [← eks] at e2 klen ew
   have kml : ((iv ks).map V.int).length = ks.length := by rw [List.length_map, iv_len]
   refine turns_any (n := ks.length) (fun i σ' H' => ∃ (x : Option V) (kvs' : List (List Key × V)), σ' = [x, some (.ref p.s), some (.int left), some (.int e), some (.ref kt)] ∧ Ex (· = p.ow) H2 H' ∧ KnownT p H' kvs' ∧ H' D = some (.lst (((ks.take i).map fun k => ((ways p.near p.ends (left - 2 ^ k) k : Nat) : Int)).map V.int)))
    ⟨none, kvs, rfl, Ex.new _ hD, ⟨by rw [upd_ne Do]; exact hd2.1, hd2.2⟩, upd_same⟩ ?_ ?_
   ·rintro i σ' H' hi ⟨x, kvs', rfl, ex, hk', hD'⟩
    have ek : ks[i]? = some ks[i] := List.getElem?_eq_getElem hi
    obtain ⟨hkn, hb⟩ := hmem _ (List.getElem_mem hi)
    have el2 := ex _ _ lo e2
    refine ⟨⟨_, _, SqL.of el2, nat_at ek⟩, fun y H3 hy => ?_⟩
    obtain ⟨rfl, hy⟩ := hy
    have ey := hy _ (SqL.of el2)
    rw [nat_at ek] at ey
    cases ey
    refine comp_true ?_
    have S' : Tly C p H3 := (S1.ex hd1.1 (Ex.same g2)).ex hd2.1 ex
    refine ⟨_, rfl, p.s, p.dx, _, rfl, S'.at_, rfl, _, rfl, _, rfl, p, kvs', left, ks[i], rfl, S', hk', hl, hb, hkn, hc, fun H4 kvs4 ex4 hk4 => ?_⟩
    have hD4 := ex4 _ _ (Ne.symm Do) hD'
    refine ⟨_, hD4, small1000 (by rw [List.length_map, List.length_map, List.length_take]; omega), _, kvs4, rfl, fun c o hc ho => ?_, ⟨by rw [upd_ne Do]; exact hk4.1, hk4.2⟩, ?_⟩
    ·rw [upd_ne (ne_of_none ho hD)]
     exact ex4 _ _ hc (ex _ _ hc ho)
    ·rw [upd_same, List.take_add_one, ek, List.map_append, List.map_append]
     rfl
   ·rintro σ' H' ⟨x, kvs', rfl, ex, hk', hD'⟩
    have el2 := ex _ _ lo e2
    refine ⟨⟨_, SqL.of el2, by rw [kml]; exact Nat.le_refl _⟩, ?_⟩
    rw [List.take_of_length_le (Nat.le_refl _)] at hD'
    refine ⟨D, _, rfl, hD', ?_⟩
    have S' : Tly C p H' := (S1.ex hd1.1 (Ex.same g2)).ex hd2.1 ex
    have hk2 : H' kt = some (.tup ((ky left e).map kV)) := ex _ _ (ne_of (g2 _ _ hk1) hd2.1 (by intro z; cases z)) (g2 _ _ hk1)
    have esum : (ks.map fun k => ((ways p.near p.ends (left - 2 ^ k) k : Nat) : Int)).sum = ((ways p.near p.ends left e : Nat) : Int) := by rw [sum_cast, ew]
    refine ⟨_, rfl, p.s, C, p.dx, _, _, rfl, S'.at_, T.cl, T.nK, rfl, _, rfl, p.ow, _, rfl, DPut.t hk'.1 hk2 (hk'.2.len S.ok.n10), ?_⟩
    rw [esum]
    have M3 := hk'.2.put el hl he
    have ex3 : Ex (· = p.ow) H' (upd H' p.ow (.dT (putK kvs' (ky left e) (.int (ways p.near p.ends left e : Nat))))) := Ex.put _ rfl
    have S3 := S'.ex hk'.1 ex3
    have hk3 := ex3 _ _ (ne_of hk2 hk'.1 (by intro z; cases z)) hk2
    refine ⟨_, rfl, p.s, C, p.dx, _, _, rfl, S3.at_, T.cl, T.nK, rfl, _, rfl, p.ow, _, rfl, by have z := DGet.t (upd_same (H := H') (a := p.ow) (o := .dT (putK kvs' (ky left e) (.int (ways p.near p.ends left e : Nat))))) hk3; rw [valV_put, if_pos rfl] at z; exact z, ?_⟩
    exact q _ _ (((ex1.trans (Ex.same g2)).trans ex).trans ex3) ⟨upd_same, M3⟩
  ·cases ev : valV kvs (ky left e) with
   | none => rw [ev] at c2; exact absurd rfl c2
   | some v =>
    have hv := hd.2.val ev
    refine ⟨_, rfl, p.s, C, p.dx, _, _, rfl, S1.at_, T.cl, T.nK, rfl, _, rfl, p.ow, _, rfl, by have z := DGet.t hd1.1 hk1; rw [ev] at z; exact z, ?_⟩
    rw [hv]
    exact q _ _ ex1 hd1
theorem ok_ways {wa wb sf : Addr} {wd wbd sfd : FuncData} (FW : Fun K "ways" "Tally.ways" sWy wa wd) (FB : Fun K "ways_by" "Tally.ways_by" sWb wb wbd) (B : Bt4 mg) (T : TyT K C) (mW : Meth K C "ways" wa) (mB : Meth K C "ways_by" wb) (mS : Meth K C "steps" sf)
  (GS : FnOk P w K mg base CX0 1 sf sfd ["self", "left", "end"] (spSteps C)) (bS : Binds K sfd ["self", "left", "end"] []) (bW : Binds K wd ["self", "left", "end"] []) (bB : Binds K wbd ["self", "left", "place"] []) :
  ∀ m : Nat, FnOk P w K mg base CX0 (2 * m + 2) wa wd ["self", "left", "end"] (spWays C m)
 | 0 => ok_wy (j := 1) FW B T mB mS ⟨fun vs H Q E h => by obtain ⟨p, kvs, left, k, rfl, _⟩ := h; rfl, fun A outer s H args us vs Q E _ _ _ _ h => by
   obtain ⟨p, kvs, left, k, _, S, _, hl, hb, hk, hc, _⟩ := h
   have n10 := S.ok.n10
   have := (cnt_dec left (S.lt hl) k (by omega) hb).1
   omega⟩ bB GS bS
 | m + 1 => by
  have GW := ok_ways FW FB B T mW mB mS GS bS bW bB m
  have GB := ok_wb (j := 2 * m + 2) FB T mW GW bW
  exact ok_wy (j := 2 * m + 3) FW B T mB mS GB bB (GS.mono (by omega)) bS
theorem scAw : FnScope ["self"] ["self"] (defScope sAw) := ⟨rfl, rfl, rfl, by decide +kernel, rfl, by decide +kernel, by decide +kernel⟩
theorem ok_aw (F : Fun K "all_ways" "Tally.all_ways" sAw f fd) (T : TyT K C) (mW : Meth K C "ways" g1) (GW : FnOk P w K mg base CX0 22 g1 gd1 ["self", "left", "end"] (spWays C 10)) (bW : Binds K gd1 ["self", "left", "end"] []) : FnOk P w K mg base CX0 23 f fd ["self"] (spAw C) := by
 refine F.ok scAw (fun vs H Q E h => ?_) (fun cdv A outer s H vs Q E hr h => ?_)
 ·obtain ⟨p, kvs, rfl, _⟩ := h
  rfl
 obtain ⟨p, kvs, rfl, S, hd, n1, q⟩ := h
 refine ⟨_, (@pss_one _ _ _ (ps_ret (pe_meth (pv 0) T.cl mW GW hr bW .nil pass0 (pa_cons (pe_fld (pv 0) rfl) (pa_cons (pe_fld (pv 0) rfl) pa_nil))))), ?_⟩
 have p2 : 2 ≤ 2 ^ p.n := Nat.pow_le_pow_right (n := 2) (by decide) n1
 have hw : 2 ^ p.n - 1 < 2 ^ p.n := by omega
 refine ⟨_, rfl, p.s, p.dx, _, rfl, S.at_, rfl, _, rfl, p.s, C, p.dx, _, _, rfl, S.at_, T.cl, T.nW, rfl, _, rfl, p.s, C, p.dx, _, _, rfl, S.at_, T.cl, T.nA, rfl, ?_⟩
 exact ⟨p, kvs, 2 ^ p.n - 1, p.n, rfl, S, hd, hw, cnt_le _ (S.lt hw), Nat.le_refl _, fun z => by omega, q⟩
theorem scTIn : FnScope ["self", "plan", "first_places", "last_places"] ["self", "plan", "first_places", "last_places"] (defScope sTIn) := ⟨rfl, rfl, rfl, by decide +kernel, rfl, by decide +kernel, by decide +kernel⟩
theorem ok_tin (F : Fun K "__init__" "Tally.__init__" sTIn f fd) (B : Bt3 mg) (T : TyT K C) (BI : Base K C0 mc "__init__" g1) (mI : mg "Steps" = some (.ref C0))
  (GI : FnOk P w K mg base CX0 3 g1 gd1 ["self", "plan", "first_places"] (spIni0 C)) (bI : Binds K gd1 ["self", "plan", "first_places"] []) : FnOk P w K mg base CX0 4 f fd ["self", "plan", "first_places", "last_places"] (spTIn C) := by
 refine F.ok scTIn (fun vs H Q E h => ?_) (fun cdv A outer s H vs Q E hr h => ?_)
 ·obtain ⟨s, t, a, b, fp, lp, dx, ns, ss, fs, ls, rfl, _⟩ := h
  rfl
 obtain ⟨s, t, a, b, fp, lp, dx, ns, ss, fs, ls, rfl, hs, pl, hfp, hlp, q⟩ := h
 refine ⟨_, (@pss_cons _ _ _ _ _ (ps_expr (pe_base BI GI hr rfl mI bI .nil pass0 (pa_cons (pv 0) (pa_cons (pv 1) (pa_cons (pv 2) pa_nil))))) (@pss_cons _ _ _ _ _ (ps_fld (pv 0) (pe_callTy call_list_of rfl B.list PyProof.Rows.boot_list (pa_cons (pv 3) pa_nil)) rfl) (@pss_one _ _ _ (ps_fld (pv 0) pe_dnewT rfl)))), ?_⟩
 refine ⟨_, rfl, _, rfl, _, rfl, s, t, a, b, fp, dx, ns, ss, fs, rfl, hs, pl, hfp, fun nr H1 ex1 s1 na1 => ?_⟩
 have lps : lp ≠ s := ne_of hlp hs (by intro z; cases z)
 have lp1 := ex1 _ _ lps hlp
 refine ⟨_, rfl, lp, _, rfl, .inl (SqL.of lp1), fun lq hlq => ?_⟩
 have g2 : Same H1 (upd H1 lq (.lst ((iv ls).map V.int))) := Same.new hlq _
 refine ⟨_, rfl, s, C, dx, _, rfl, g2 _ _ s1, T.cl, T.nL, (by show 3 < 1000; decide), ?_⟩
 refine fun ow how => ?_
 have sq : s ≠ lq := ne_of_none s1 hlq
 have ow_s : ow ≠ s := fun z => by rw [z, upd_same] at how; cases how
 have ow_q : ow ≠ lq := fun z => by rw [z, upd_ne sq.symm, upd_same] at how; cases how
 have how1 : H1 ow = none := by rwa [upd_ne ow_s, upd_ne ow_q] at how
 refine ⟨_, rfl, s, C, dx, _, rfl, by rw [upd_ne (Ne.symm ow_s)]; exact upd_same, T.cl, T.nK, (by show 4 < 1000; decide), ?_⟩
 obtain ⟨rs, q1, q2, q3⟩ := na1
 have st : ∀ {c : Addr} {o : HO}, c ≠ s → H1 c = some o → ∀ {o1 o2}, (upd (upd (upd (upd H1 lq (.lst ((iv ls).map V.int))) s o1) ow (.dT [])) s o2) c = some o := fun {c o} hc h {o1 o2} => by
  rw [upd_ne hc, upd_ne (ne_of_none h how1), upd_ne hc, upd_ne (ne_of_none h hlq)]
  exact h
 refine q nr lq ow _ (fun c o hc ho => st hc (ex1 c o hc ho)) ?_ ?_ ⟨rs, q1, st (ne_of q2 s1 (by intro z; cases z)) q2, fun e he => let ⟨r, r1, r2⟩ := q3 e he; ⟨r, r1, st (ne_of r2 s1 (by intro z; cases z)) r2⟩⟩ ?_ ?_
 ·cases e : H ow with
  | none => rfl
  | some o => rw [ex1 _ _ ow_s e] at how1; cases how1
 ·rw [upd_same]
  rfl
 ·rw [upd_ne (Ne.symm sq), upd_ne (Ne.symm ow_q), upd_ne (Ne.symm sq), upd_same]
 ·rw [upd_ne ow_s, upd_same]
end
abbrev sAllP : Stmt := top 24
def spAllP : Sp := fun vs H Q _ => ∃ (t a b : Addr) (ns ss : List Int), vs = [.ref t] ∧ IsPl H t a b ns ss ∧ ∀ l : Addr, H l = none → Q (.ref l) (upd H l (.lst ((iv (List.range ns.length)).map V.int)))
def firsts (n : Nat) (ring : Bool) : List Nat := if ring then [0] else List.range n
def endsP (ns ss : List Int) (ring : Bool) (e : Nat) : Bool := !ring || (nearP ns ss (ns.getD e 0)).contains 0
theorem addUp_comm (ss : List Int) (x y : Int) : addUp ss x y = addUp ss y x := by
 unfold addUp
 rw [Int.add_comm, show decide (x ≠ y) = decide (y ≠ x) from decide_eq_decide.mpr ⟨fun h z => h z.symm, fun h z => h z.symm⟩]
section
variable {f : Addr} {fd : FuncData}
theorem scAllP : FnScope ["plan"] ["plan"] (defScope sAllP) := ⟨rfl, rfl, rfl, by decide +kernel, rfl, by decide +kernel, by decide +kernel⟩
theorem ok_allP (F : Fun K "all_places" "all_places" sAllP f fd) (B : Bt3 mg) : FnOk P w K mg base CX0 1 f fd ["plan"] spAllP := by
 refine F.ok scAllP (fun vs H Q E h => ?_) (fun cdv A outer s H vs Q E hr h => ?_)
 ·obtain ⟨t, a, b, ns, ss, rfl, _⟩ := h
  rfl
 obtain ⟨t, a, b, ns, ss, rfl, pl, q⟩ := h
 refine ⟨_, (@pss_one _ _ _ (ps_ret (pe_list_range1 rfl rfl B.range rfl B.list (pa_cons (pe_callB call_len_seq rfl B.len PySem.boot_len (pa_cons (pe_ix ix_tup (pv 0) pe_int (fun _ _ => rfl)) pa_nil)) pa_nil)))), ?_⟩
 have n2 := pl.ok.n2
 have hml : (ns.map V.int).length = ns.length := List.length_map _
 refine ⟨_, rfl, t, _, 0, _, rfl, rfl, SqT.of pl.t, rfl, a, _, rfl, .inl (SqL.of pl.a), 0, _, rfl, by rw [hml]; omega, fun l hl => ?_⟩
 have e : ((List.range (((((ns.map V.int).length : Nat) : Int)) - 0).toNat).map fun k : Nat => V.int (0 + (k : Int))) = (iv (List.range ns.length)).map V.int := by
  rw [iv_V, hml, show (((ns.length : Nat) : Int) - 0).toNat = ns.length by omega]
  refine List.map_congr_left fun k _ => ?_
  rw [Int.zero_add]
 rw [e]
 exact q l hl
end
def spCkP : Sp := fun vs H Q _ => ∃ (t a b : Addr) (ns ss : List Int), vs = [.ref t] ∧ IsPl H t a b ns ss ∧ Q .non H
theorem ck_to {XP : Addr} {vs : List V} {H : Hp} {Q : VK} {E : XK} (h : spCkP vs H Q E) : noE (spCkX XP) vs H Q E := by
 obtain ⟨t, a, b, ns, ss, rfl, pl, q⟩ := h
 obtain ⟨d, hd, e⟩ := pl.dat
 exact ⟨_, d, rfl, hd, fun _ => q, fun z => by rw [e] at z; cases z⟩
abbrev sTr : Stmt := top 35
abbrev sCr : Stmt := top 36
abbrev sCg : Stmt := top 37
def cntW (ns ss : List Int) (ring : Bool) : Nat := ways (nearX ns ss (firsts ns.length ring)) (endsP ns ss ring) (2 ^ ns.length - 1) ns.length
def ringsW (ns ss : List Int) : Nat := if ns.length < 3 then 0 else ns.length * cntW ns ss true
def spTr (C : Addr) : Sp := fun vs H Q _ => ∃ (t a b : Addr) (ns ss : List Int), vs = [.ref t] ∧ IsPl H t a b ns ss ∧ ∀ (p : SP) (H' : Hp), p.n = ns.length → p.near = nearX ns ss (List.range ns.length) → p.ends = endsP ns ss false → Same H H' → H p.ow = none → Tly C p H' → KnownT p H' [] → Q (.ref p.s) H'
def spCount (f : List Int → List Int → Nat) : Sp := fun vs H Q _ => ∃ (t a b : Addr) (ns ss : List Int), vs = [.ref t] ∧ IsPl H t a b ns ss ∧ ∀ H', Same H H' → Q (.int (f ns ss : Nat)) H'
section
variable {f g1 g2 g3 g4 C : Addr} {fd gd1 gd2 gd3 gd4 : FuncData} {t3 : Tok}
theorem scTr : FnScope ["plan"] ["plan"] (defScope sTr) := ⟨rfl, rfl, rfl, by decide +kernel, rfl, by decide +kernel, by decide +kernel⟩
theorem ok_tr (F : Fun K "tally_of_rows" "tally_of_rows" sTr f fd) (MT : Mk K C g1) (mT : mg "Tally" = some (.ref C))
  (GI : FnOk P w K mg base CX0 4 g1 gd1 ["self", "plan", "first_places", "last_places"] (spTIn C)) (bI : Binds K gd1 ["self", "plan", "first_places", "last_places"] [])
  (GA : FnOk P w K mg base CX0 5 g2 gd2 ["plan"] spAllP) (bA : Binds K gd2 ["plan"] []) (kA : Kee K g2) (mA : mg "all_places" = some (.ref g2)) : FnOk P w K mg base CX0 6 f fd ["plan"] (spTr C) := by
 refine F.ok scTr (fun vs H Q E h => ?_) (fun cdv A outer s H vs Q E hr h => ?_)
 ·obtain ⟨t, a, b, ns, ss, rfl, _⟩ := h
  rfl
 obtain ⟨t, a, b, ns, ss, rfl, pl, q⟩ := h
 refine ⟨_, (@pss_one _ _ _ (ps_ret (pe_make MT GI hr rfl mT bI .nil pass0 (pa_cons (pv 0) (pa_cons (pe_call GA hr rfl mA kA bA .nil pass0 (pa_cons (pv 0) pa_nil)) (pa_cons (pe_call GA hr rfl mA kA bA .nil pass0 (pa_cons (pv 0) pa_nil)) pa_nil)))))), ?_⟩
 refine ⟨_, rfl, _, rfl, t, a, b, ns, ss, rfl, pl, fun l1 hl1 => ?_⟩
 have g1 : Same H (upd H l1 (.lst ((iv (List.range ns.length)).map V.int))) := Same.new hl1 _
 refine ⟨_, rfl, t, a, b, ns, ss, rfl, pl.same g1, fun l2 hl2 => fun x dx nx ndx nex => ?_⟩
 have g2 : Same (upd H l1 (.lst ((iv (List.range ns.length)).map V.int))) (upd (upd H l1 (.lst ((iv (List.range ns.length)).map V.int))) l2 (.lst ((iv (List.range ns.length)).map V.int))) := Same.new hl2 _
 have e1 : (upd (upd H l1 (.lst ((iv (List.range ns.length)).map V.int))) l2 (.lst ((iv (List.range ns.length)).map V.int))) l1 = some (.lst ((iv (List.range ns.length)).map V.int)) := g2 _ _ upd_same
 have e2 : (upd (upd H l1 (.lst ((iv (List.range ns.length)).map V.int))) l2 (.lst ((iv (List.range ns.length)).map V.int))) l2 = some (.lst ((iv (List.range ns.length)).map V.int)) := upd_same
 have g12 := g1.trans g2
 generalize upd (upd H l1 (.lst ((iv (List.range ns.length)).map V.int))) l2 (.lst ((iv (List.range ns.length)).map V.int)) = H2 at g2 e1 e2 g12 nx ndx ⊢
 have g3 : Same H2 (upd (upd H2 dx (.own x)) x (.ins C dx [])) := fun c o hc => by
  rw [upd_ne (ne_of_none hc nx), upd_ne (ne_of_none hc ndx)]; exact hc
 refine ⟨x, t, a, b, l1, l2, dx, ns, ss, List.range ns.length, List.range ns.length, rfl, upd_same, (pl.same g12).same g3, g3 _ _ e1, g3 _ _ e2, fun nr lq ow H3 ex3 how s3 na3 lq3 ow3 => ⟨rfl, ?_⟩⟩
 have g4 : Same H H3 := fun c o hc => ex3 c o (ne_of_none (g12 _ _ hc) nx) (g3 _ _ (g12 _ _ hc))
 refine q ⟨ns.length, nearX ns ss (List.range ns.length), endsP ns ss false, List.range ns.length, x, dx, nr, lq, ow⟩ H3 rfl rfl rfl g4 (none_of_same (g12.trans g3) how) ⟨s3, na3, lq3, near_ok pl.ok (fun k hk => List.mem_range.mp hk) List.pairwise_lt_range, fun e he => ?_⟩ ⟨ow3, memoT_nil⟩
 have : (List.range ns.length).contains e = true := List.contains_iff_mem.mpr (List.mem_range.mpr he)
 rw [this]
 rfl
theorem scCr : FnScope ["plan"] ["plan"] (defScope sCr) := ⟨rfl, rfl, rfl, by decide +kernel, rfl, by decide +kernel, by decide +kernel⟩
theorem ok_cr (F : Fun K "count_rows" "count_rows" sCr f fd) (T : TyT K C) (mW : Meth K C "all_ways" g1)
  (GW : FnOk P w K mg base CX0 23 g1 gd1 ["self"] (spAw C)) (bW : Binds K gd1 ["self"] [])
  (GC : FnOk P w K mg base CX0 23 g2 gd2 ["plan"] spCkP) (bC : Binds K gd2 ["plan"] []) (kC : Kee K g2) (mC : mg "check_plan" = some (.ref g2))
  (GT : FnOk P w K mg base CX0 23 g3 gd3 ["plan"] (spTr C)) (bT : Binds K gd3 ["plan"] []) (kT : Kee K g3) (mT : mg "tally_of_rows" = some (.ref g3)) : FnOk P w K mg base CX0 24 f fd ["plan"] (spCount fun ns ss => cntW ns ss false) := by
 refine F.ok scCr (fun vs H Q E h => ?_) (fun cdv A outer s H vs Q E hr h => ?_)
 ·obtain ⟨t, a, b, ns, ss, rfl, _⟩ := h
  rfl
 obtain ⟨t, a, b, ns, ss, rfl, pl, q⟩ := h
 refine ⟨_, (@pss_cons _ _ _ _ _ (ps_expr (pe_call GC hr rfl mC kC bC .nil pass0 (pa_cons (pv 0) pa_nil))) (@pss_one _ _ _ (ps_ret (pe_meth0 (pe_call GT hr rfl mT kT bT .nil pass0 (pa_cons (pv 0) pa_nil)) T.cl mW GW hr bW .nil pass0)))), ?_⟩
 refine ⟨_, rfl, t, a, b, ns, ss, rfl, pl, ?_⟩
 refine ⟨_, rfl, t, a, b, ns, ss, rfl, pl, fun p H1 e1 e2 e3 g1 how S hk => ?_⟩
 refine ⟨p.s, p.dx, _, rfl, S.at_, rfl, p, [], rfl, S, hk, by rw [e1]; exact pl.ok.n1, fun H2 kvs2 ex2 hk2 => ?_⟩
 have z := q H2 (fun c o hc => ex2 c o (ne_of_none hc how) (g1 _ _ hc))
 rw [e1, e2, e3]
 exact z
theorem scCg : FnScope ["plan"] ["plan"] (defScope sCg) := ⟨rfl, rfl, rfl, by decide +kernel, rfl, by decide +kernel, by decide +kernel⟩
theorem ok_cg (F : Fun K "count_rings" "count_rings" sCg f fd) (B : Bt3 mg) (T : TyT K C) (m3 : mg "FEWEST_IN_RING" = some (.int 3 t3)) (mW : Meth K C "all_ways" g1) (MT : Mk K C g4) (mT : mg "Tally" = some (.ref C))
  (GI : FnOk P w K mg base CX0 22 g4 gd4 ["self", "plan", "first_places", "last_places"] (spTIn C)) (bI : Binds K gd4 ["self", "plan", "first_places", "last_places"] [])
  (GW : FnOk P w K mg base CX0 23 g1 gd1 ["self"] (spAw C)) (bW : Binds K gd1 ["self"] [])
  (GC : FnOk P w K mg base CX0 23 g2 gd2 ["plan"] spCkP) (bC : Binds K gd2 ["plan"] []) (kC : Kee K g2) (mC : mg "check_plan" = some (.ref g2))
  (GN : FnOk P w K mg base CX0 23 g3 gd3 ["plan", "number"] spNear) (bN : Binds K gd3 ["plan", "number"] []) (kN : Kee K g3) (mN : mg "near_places" = some (.ref g3)) : FnOk P w K mg base CX0 24 f fd ["plan"] (spCount ringsW) := by
 refine F.ok scCg (fun vs H Q E h => ?_) (fun cdv A outer s H vs Q E hr h => ?_)
 ·obtain ⟨t, a, b, ns, ss, rfl, _⟩ := h
  rfl
 obtain ⟨t, a, b, ns, ss, rfl, pl, q⟩ := h
 refine ⟨_, (@pss_cons _ _ _ _ _ (ps_expr (pe_call GC hr rfl mC kC bC .nil pass0 (pa_cons (pv 0) pa_nil))) (@pss_cons _ _ _ _ _ (ps_if (pt_cmpR op_lt (pe_callB call_len_seq rfl B.len PySem.boot_len (pa_cons (pe_ix ix_tup (pv 0) pe_int (fun _ _ => rfl)) pa_nil)) (pe_glob (v := .int 3) rfl m3 ⟨_, rfl⟩) (nomark _)) (@pss_one _ _ _ (ps_ret pe_int)) pss_nil) (@pss_one _ _ _ (ps_ret (pe_op op_mul (pe_callB call_len_seq rfl B.len PySem.boot_len (pa_cons (pe_ix ix_tup (pv 0) pe_int (fun _ _ => rfl)) pa_nil)) (pe_meth0 (pe_make MT GI hr rfl mT bI .nil pass0 (pa_cons (pv 0) (pa_cons (pe_lst (pa_cons pe_int pa_nil)) (pa_cons (pe_call GN hr rfl mN kN bN .nil pass0 (pa_cons (pv 0) (pa_cons (pe_ix ix_list (pe_ix ix_tup (pv 0) pe_int (fun _ _ => rfl)) pe_int (fun _ _ => rfl)) pa_nil))) pa_nil)))) T.cl mW GW hr bW .nil pass0)))))), ?_⟩
 have hml : (ns.map V.int).length = ns.length := List.length_map _
 have n1 := pl.ok.n1
 have n2 := pl.ok.n2
 refine ⟨_, rfl, t, a, b, ns, ss, rfl, pl, ?_⟩
 refine ⟨_, rfl, t, _, 0, _, rfl, rfl, SqT.of pl.t, rfl, a, _, rfl, .inl (SqL.of pl.a), _, _, rfl, rfl, _, rfl, ite2 (fun c => ?_) (fun c => ?_)⟩
 ·have c' := of_decide_eq_true c
  rw [hml] at c'
  have e : ringsW ns ss = 0 := by unfold ringsW; rw [if_pos (by omega)]
  rw [e] at q
  exact q H Same.rfl'
 have c3 : ¬ ns.length < 3 := fun z => c (decide_eq_true (by rw [hml]; omega))
 have e : ringsW ns ss = ns.length * cntW ns ss true := by unfold ringsW; rw [if_neg c3]
 rw [e] at q
 refine ⟨_, rfl, t, _, 0, _, rfl, rfl, SqT.of pl.t, rfl, a, _, rfl, .inl (SqL.of pl.a), ?_⟩
 rw [hml]
 refine ⟨_, rfl, (by show 1 ≤ sizeLine; decide), fun l1 hl1 => ?_⟩
 have g1 : Same H (upd H l1 (.lst [.int 0])) := Same.new hl1 _
 have p1 := pl.same g1
 have e0 : ns[0]? = some ns[0] := List.getElem?_eq_getElem (by omega)
 have d0 : ns.getD 0 0 = ns[0] := by rw [List.getD_eq_getElem?_getD, e0]; rfl
 have el1 : (upd H l1 (.lst [.int 0])) l1 = some (.lst ((iv [0]).map V.int)) := upd_same
 generalize upd H l1 (.lst [.int 0]) = H1 at g1 p1 el1 ⊢
 refine ⟨_, rfl, _, rfl, t, _, 0, _, rfl, rfl, SqT.of p1.t, rfl, a, _, 0, _, rfl, rfl, SqL.of p1.a, atI_nat (j := 0) (by rw [List.getElem?_map, e0]; rfl), t, a, b, ns, ss, ns[0], rfl, p1, fun l2 H2 g2 hl2 e2 => fun x dx nx ndx nex => ?_⟩
 have g3 : Same H2 (upd (upd H2 dx (.own x)) x (.ins C dx [])) := fun c o hc => by
  rw [upd_ne (ne_of_none hc nx), upd_ne (ne_of_none hc ndx)]; exact hc
 refine ⟨x, t, a, b, l1, l2, dx, ns, ss, [0], nearP ns ss ns[0], rfl, upd_same, (p1.same g2).same g3, g3 _ _ (g2 _ _ el1), g3 _ _ e2, fun nr lq ow H3 ex3 how s3 na3 lq3 ow3 => ⟨rfl, ?_⟩⟩
 have g12 := g1.trans g2
 have how' : H ow = none := none_of_same (g12.trans g3) how
 have g4 : Same H H3 := fun c o hc => ex3 c o (ne_of_none (g12 _ _ hc) nx) (g3 _ _ (g12 _ _ hc))
 have S3 : Tly C ⟨ns.length, nearX ns ss [0], endsP ns ss true, nearP ns ss ns[0], x, dx, nr, lq, ow⟩ H3 := by
  refine ⟨s3, na3, lq3, near_ok pl.ok (fun k hk => by rw [List.mem_singleton.mp hk]; omega) (List.pairwise_singleton _ _), fun j hj => ?_⟩
  rw [Bool.eq_iff_iff]
  show (nearP ns ss ns[0]).contains j = true ↔ (nearP ns ss (ns.getD j 0)).contains 0 = true
  unfold nearP
  have hj' : j < ns.length := hj
  rw [List.contains_iff_mem, List.contains_iff_mem, List.mem_filter, List.mem_filter, List.mem_range, List.mem_range, d0, addUp_comm]
  exact ⟨fun h => ⟨by omega, h.2⟩, fun h => ⟨hj', h.2⟩⟩
 refine ⟨x, dx, _, rfl, S3.at_, rfl, ⟨ns.length, nearX ns ss [0], endsP ns ss true, nearP ns ss ns[0], x, dx, nr, lq, ow⟩, [], rfl, S3, ⟨ow3, memoT_nil⟩, n1, fun H4 kvs4 ex4 hk4 => ?_⟩
 refine ⟨_, _, rfl, rfl, .inl ⟨by omega, by omega⟩, ?_⟩
 have z := q H4 (fun c o hc => ex4 c o (ne_of_none hc how') (g4 _ _ hc))
 rw [Int.natCast_mul] at z
 exact z
end
abbrev sLN : Stmt := top 47
abbrev sLW : Stmt := top 48
def bitsM (n l : Nat) : List Nat := (List.range n).filter fun k => l.testBit k
def lstM (ns : List Int) (l : Nat) : List Int := (bitsM ns.length l).map fun k => ns.getD k 0
theorem bit_off : ∀ m < 1024, ∀ k < 10, m.testBit k = true → ∀ j < 10, (m - 2 ^ k).testBit j = (m.testBit j && decide (j ≠ k)) := by decide +kernel
theorem bits_nodup (n l : Nat) : (bitsM n l).Nodup := List.nodup_range.sublist List.filter_sublist
theorem bits_len (n l : Nat) : (bitsM n l).length ≤ n := Nat.le_trans (List.length_filter_le _ _) (by rw [List.length_range]; exact Nat.le_refl _)
theorem eraseIdx_filter {α : Type} [DecidableEq α] : ∀ {xs : List α} (_ : xs.Nodup) {i : Nat} (hi : i < xs.length), xs.eraseIdx i = xs.filter fun x => decide (x ≠ xs[i])
 | x :: r, nd, 0, hi => by
  have h := (List.nodup_cons.mp nd).1
  rw [List.eraseIdx_cons_zero, List.filter_cons]
  simp only [List.getElem_cons_zero, ne_eq, not_true_eq_false, decide_false, Bool.false_eq_true, if_false]
  exact (List.filter_eq_self.mpr fun y hy => decide_eq_true (p := ¬ y = x) fun e : y = x => h (e ▸ hy)).symm
 | x :: r, nd, i + 1, hi => by
  obtain ⟨h, nd'⟩ := List.nodup_cons.mp nd
  have hi' : i < r.length := by simpa using hi
  rw [List.eraseIdx_cons_succ, List.filter_cons]
  simp only [List.getElem_cons_succ]
  rw [if_pos (decide_eq_true (p := x ≠ r[i]) fun e : x = r[i] => h (e ▸ List.getElem_mem hi')), eraseIdx_filter nd' hi']
theorem bits_erase {n l i : Nat} (hn : n ≤ 10) (hl : l < 1024) (hi : i < (bitsM n l).length) : (bitsM n l).eraseIdx i = bitsM n (l - 2 ^ (bitsM n l)[i]) := by
 rw [eraseIdx_filter (bits_nodup n l) hi]
 obtain ⟨h1, h2⟩ := List.mem_filter.mp (List.getElem_mem hi)
 have hk : (bitsM n l)[i] < n := List.mem_range.mp h1
 generalize (bitsM n l)[i] = k at h1 h2 hk ⊢
 unfold bitsM
 rw [List.filter_filter]
 refine List.filter_congr fun j hj => ?_
 have hj' := List.mem_range.mp hj
 rw [bit_off l hl k (by omega) h2 j (by omega), Bool.and_comm]
theorem bits_mem {n l k : Nat} : k ∈ bitsM n l ↔ k < n ∧ l.testBit k = true := by unfold bitsM; rw [List.mem_filter, List.mem_range]
theorem bits_nil {n l : Nat} (hl : l < 2 ^ n) (h : bitsM n l = []) : l = 0 := by
 refine Nat.eq_of_testBit_eq fun k => ?_
 rw [Nat.zero_testBit]
 cases hb : l.testBit k with
 | false => rfl
 | true =>
  have : k ∈ bitsM n l := bits_mem.mpr ⟨bit_lt hl hb, hb⟩
  rw [h] at this
  exact nomatch this
theorem rise_inj {ns : List Int} (r : Rise ns) {i j : Nat} (hi : i < ns.length) (hj : j < ns.length) (h : ns.getD i 0 = ns.getD j 0) : i = j := by
 rw [List.getD_eq_getElem?_getD, List.getD_eq_getElem?_getD, List.getElem?_eq_getElem hi, List.getElem?_eq_getElem hj] at h
 have h' : ns[i] = ns[j] := h
 rcases Nat.lt_trichotomy i j with z | z | z
 ·have := List.pairwise_iff_getElem.mp r.up i j hi hj z
  omega
 ·exact z
 ·have := List.pairwise_iff_getElem.mp r.up j i hj hi z
  omega
def lastO (ns : List Int) (e : Nat) : Option Int := if e < ns.length then some (ns.getD e 0) else none
theorem lastO_lt {ns : List Int} {e : Nat} (h : e < ns.length) : lastO ns e = some (ns.getD e 0) := if_pos h
theorem lastO_n (ns : List Int) : lastO ns ns.length = none := if_neg (Nat.lt_irrefl _)
def kyN (ns : List Int) (l e : Nat) : NK := (lastO ns e, (lstM ns l).map Sum.inl)
def adjE (ns ss : List Int) (e k : Nat) : Bool := if e < ns.length then addUp ss (ns.getD e 0) (ns.getD k 0) else true
theorem or_by {t u : TT} {σ : L2.St} {H : Hp} {b : Bool} {Q : Bool → Hp → Prop} (h : ∀ Q' : Bool → Hp → Prop, Q' b H → tOr t u σ H Q') (q : Q b H) : tOr t u σ H Q := h Q q
theorem map_inj_on {α β : Type} {f : α → β} : ∀ {xs ys : List α}, (∀ x ∈ xs, ∀ y ∈ ys, f x = f y → x = y) → xs.map f = ys.map f → xs = ys
 | [], [], _, _ => rfl
 | [], _ :: _, _, h => by cases h
 | _ :: _, [], _, h => by cases h
 | x :: xs, y :: ys, hf, h => by
  rw [List.map_cons, List.map_cons] at h
  injection h with h1 h2
  rw [hf x List.mem_cons_self y List.mem_cons_self h1, map_inj_on (fun a ha b hb => hf a (List.mem_cons_of_mem _ ha) b (List.mem_cons_of_mem _ hb)) h2]
theorem kyN_inj {ns : List Int} (r : Rise ns) {l e l' e' : Nat} (hl : l < 2 ^ ns.length) (hl' : l' < 2 ^ ns.length) (he : e ≤ ns.length) (he' : e' ≤ ns.length) (h : kyN ns l e = kyN ns l' e') : l = l' ∧ e = e' := by
 have h1 : lastO ns e = lastO ns e' := congrArg Prod.fst h
 have h2 : (lstM ns l).map (Sum.inl : Int → Key) = (lstM ns l').map Sum.inl := congrArg Prod.snd h
 have h3 : lstM ns l = lstM ns l' := map_inj_on (fun x _ y _ z => Sum.inl.inj z) h2
 have h4 : bitsM ns.length l = bitsM ns.length l' := map_inj_on (fun x hx y hy z => rise_inj r (bits_mem.mp hx).1 (bits_mem.mp hy).1 z) h3
 refine ⟨Nat.eq_of_testBit_eq fun k => ?_, ?_⟩
 ·rw [Bool.eq_iff_iff]
  refine ⟨fun z => ?_, fun z => ?_⟩
  ·exact (bits_mem.mp (h4 ▸ bits_mem.mpr ⟨bit_lt hl z, z⟩)).2
  ·exact (bits_mem.mp (h4 ▸ bits_mem.mpr ⟨bit_lt hl' z, z⟩)).2
 ·rcases Nat.lt_or_ge e ns.length with z | z
  ·rw [lastO_lt z] at h1
   rcases Nat.lt_or_ge e' ns.length with y | y
   ·rw [lastO_lt y] at h1
    exact rise_inj r z y (Option.some.inj h1)
   ·rw [show e' = ns.length by omega, lastO_n] at h1
    cases h1
  ·rw [show e = ns.length by omega, lastO_n] at h1
   rcases Nat.lt_or_ge e' ns.length with y | y
   ·rw [lastO_lt y] at h1
    cases h1
   ·omega
theorem sub_len {α : Type} [DecidableEq α] : ∀ {xs ys : List α}, xs.Nodup → (∀ x ∈ xs, x ∈ ys) → xs.length ≤ ys.length
 | [], _, _, _ => Nat.zero_le _
 | x :: xs, ys, nd, h => by
  obtain ⟨h1, nd'⟩ := List.nodup_cons.mp nd
  have hx := h x List.mem_cons_self
  have ih := sub_len (ys := ys.erase x) nd' fun y hy => (List.mem_erase_of_ne (fun e : y = x => h1 (e ▸ hy))).mpr (h y (List.mem_cons_of_mem _ hy))
  rw [List.length_erase_of_mem hx] at ih
  have : 0 < ys.length := List.length_pos_of_mem hx
  rw [List.length_cons]
  omega
section
variable (ns : List Int) (near : Nat → List Nat) (ends : Nat → Bool)
structure MemoN (kvs : List (NK × V)) : Prop where
 nd : (kvs.map (·.1)).Nodup
 ok : ∀ kv ∈ kvs, ∃ l e, kv.1 = kyN ns l e ∧ l < 2 ^ ns.length ∧ e ≤ ns.length ∧ kv.2 = .int (ways near ends l e : Nat)
variable {ns near ends}
theorem memoN_nil : MemoN ns near ends [] := ⟨List.nodup_nil, (fun _ h => nomatch h)⟩
theorem valN_mem {kvs : List (NK × V)} {k : NK} {v : V} (h : valV kvs k = some v) : (k, v) ∈ kvs := by
 unfold valV at h
 obtain ⟨kv, h1, h2⟩ := Option.map_eq_some_iff.mp h
 have h3 := List.find?_some h1
 have h4 := List.mem_of_find?_eq_some h1
 have h5 : kv.1 = k := of_decide_eq_true h3
 rw [← h5, ← h2]
 exact h4
theorem MemoN.val {kvs : List (NK × V)} (M : MemoN ns near ends kvs) (r : Rise ns) {l e : Nat} (hl : l < 2 ^ ns.length) (he : e ≤ ns.length) {v : V} (h : valV kvs (kyN ns l e) = some v) : v = .int (ways near ends l e : Nat) := by
 obtain ⟨l', e', h1, h2, h3, h4⟩ := M.ok _ (valN_mem h)
 obtain ⟨rfl, rfl⟩ := kyN_inj r hl h2 he h3 h1
 exact h4
theorem MemoN.len {kvs : List (NK × V)} (M : MemoN ns near ends kvs) (hn : ns.length ≤ 10) : kvs.length < sizeLine := by
 have hp : 2 ^ ns.length ≤ 1024 := pow_le _ (by omega)
 have h := sub_len (ys := (List.range 1024).flatMap fun l => (List.range 11).map fun e => kyN ns l e) M.nd fun x hx => by
  obtain ⟨kv, h1, rfl⟩ := List.mem_map.mp hx
  obtain ⟨l, e, h2, h3, h4, _⟩ := M.ok kv h1
  rw [h2]
  exact List.mem_flatMap.mpr ⟨l, List.mem_range.mpr (by omega), List.mem_map.mpr ⟨e, List.mem_range.mpr (by omega), rfl⟩⟩
 have e : ((List.range 1024).flatMap fun l => (List.range 11).map fun e => kyN ns l e).length = 11264 := by
  rw [List.length_flatMap]
  have : ((List.range 1024).map fun l => ((List.range 11).map fun e => kyN ns l e).length) = (List.range 1024).map fun _ => 11 := List.map_congr_left fun l _ => by rw [List.length_map, List.length_range]
  rw [this]
  decide +kernel
 rw [e, List.length_map] at h
 rw [sizeLine_eq]
 omega
theorem putN_new {kvs : List (NK × V)} {k : NK} (v : V) (h : valV kvs k = none) : putK kvs k v = kvs ++ [(k, v)] := by
 unfold putK
 rw [valV_any, h]
 rfl
theorem MemoN.put {kvs : List (NK × V)} (M : MemoN ns near ends kvs) {l e : Nat} (hl : l < 2 ^ ns.length) (he : e ≤ ns.length) (hv : valV kvs (kyN ns l e) = none) : MemoN ns near ends (putK kvs (kyN ns l e) (.int (ways near ends l e : Nat))) := by
 rw [putN_new _ hv]
 refine ⟨?_, fun kv h => ?_⟩
 ·rw [List.map_append]
  refine List.nodup_append.mpr ⟨M.nd, by simp, fun a ha b hb hab => ?_⟩
  have eb : b = kyN ns l e := by simpa using hb
  subst eb
  subst hab
  obtain ⟨kv, h1, h2⟩ := List.mem_map.mp ha
  have h3 := valV_any (kyN ns l e) kvs
  rw [hv] at h3
  have h4 : (kvs.any fun kv => decide (kv.1 = kyN ns l e)) = true := List.any_eq_true.mpr ⟨kv, h1, decide_eq_true h2⟩
  rw [h4] at h3
  cases h3
 ·rcases List.mem_append.mp h with z | z
  ·exact M.ok kv z
  ·have z : kv = (kyN ns l e, V.int (ways near ends l e : Nat)) := by simpa using z
   rw [z]
   exact ⟨l, e, rfl, hl, he, rfl⟩
def sumTo (ns ss : List Int) (near : Nat → List Nat) (ends : Nat → Bool) (l e i : Nat) : Nat := (((bitsM ns.length l).take i).map fun k => if adjE ns ss e k = true then ways near ends (l - 2 ^ k) k else 0).sum
theorem sum_if {α : Type} (p : α → Bool) (f : α → Nat) : ∀ l : List α, ((l.filter p).map f).sum = (l.map fun k => if p k = true then f k else 0).sum
 | [] => rfl
 | a :: r => by
  rw [List.filter_cons, List.map_cons, List.sum_cons, ← sum_if p f r]
  by_cases h : p a = true
  ·rw [if_pos h, if_pos h, List.map_cons, List.sum_cons]
  ·rw [if_neg h, if_neg h, Nat.zero_add]
theorem sumTo_all {ns ss : List Int} {fs : List Nat} {l e : Nat} (N : NearOk (nearX ns ss fs) ns.length) (hl : l < 1024) (h0 : l ≠ 0) (he : e ≤ ns.length) (hf : e = ns.length → fs = List.range ns.length) : sumTo ns ss (nearX ns ss fs) ends l e (bitsM ns.length l).length = ways (nearX ns ss fs) ends l e := by
 rw [ways_succ N hl h0 he]
 unfold sumTo
 rw [List.take_length, ← sum_if (adjE ns ss e)]
 have e1 : (bitsM ns.length l).filter (adjE ns ss e) = (nearX ns ss fs e).filter fun k => l.testBit k := by
  rcases Nat.lt_or_ge e ns.length with z | z
  ·have en : nearX ns ss fs e = nearP ns ss (ns.getD e 0) := by unfold nearX; rw [if_pos z]
   rw [en]
   unfold bitsM nearP
   rw [List.filter_filter, List.filter_filter]
   refine List.filter_congr fun k _ => ?_
   unfold adjE
   rw [if_pos z, Bool.and_comm]
  ·have en : nearX ns ss fs e = List.range ns.length := by unfold nearX; rw [if_neg (by omega), hf (by omega)]
   rw [en]
   unfold bitsM
   rw [List.filter_filter]
   refine List.filter_congr fun k _ => ?_
   unfold adjE
   rw [if_neg (by omega), Bool.true_and]
 rw [e1]
end
def spLN : Sp := fun vs H Q _ => ∃ (t a b : Addr) (ns ss : List Int) (x y : Int), vs = [.ref t, .int x, .int y] ∧ IsPl H t a b ns ss ∧ Q (.bl (addUp ss x y)) H
def spLW (P : Program) (w : World) (m : Nat) : Sp := fun vs H Q _ => ∃ (t a b lf en kn : Addr) (ns ss es : List Int) (fs : List Nat) (ends : Nat → Bool) (l e : Nat) (kvs : List (NK × V)),
 vs = [.ref t, optI (lastO ns e), .ref lf, .ref en, .ref kn] ∧ IsPl H t a b ns ss ∧ e ≤ ns.length ∧ (e = ns.length → l ≠ 0 ∧ fs = List.range ns.length) ∧ l < 2 ^ ns.length ∧ cnt l < m ∧ H lf = some (.tup ((lstM ns l).map V.int)) ∧ H en = some (.lst (es.map V.int)) ∧
 (∀ e < ns.length, ends e = es.contains (ns.getD e 0)) ∧ NearOk (nearX ns ss fs) ns.length ∧ NDict P w H kn kvs ∧ MemoN ns (nearX ns ss fs) ends kvs ∧
 ∀ (H' : Hp) (kvs' : List (NK × V)), Ex (· = kn) H H' → NDict P w H' kn kvs' → MemoN ns (nearX ns ss fs) ends kvs' → Q (.int (ways (nearX ns ss fs) ends l e : Nat)) H'
theorem MemoN.put' {ns : List Int} {near : Nat → List Nat} {ends : Nat → Bool} {kvs : List (NK × V)} (M : MemoN ns near ends kvs) (r : Rise ns) {l e : Nat} (hl : l < 2 ^ ns.length) (he : e ≤ ns.length) : MemoN ns near ends (putK kvs (kyN ns l e) (.int (ways near ends l e : Nat))) := by
 cases hv : valV kvs (kyN ns l e) with
 | none => exact M.put hl he hv
 | some v =>
  have e1 : putK kvs (kyN ns l e) (.int (ways near ends l e : Nat)) = kvs := by
   unfold putK
   rw [valV_any, hv, if_pos (show (some v).isSome = true from rfl)]
   refine (List.map_congr_left fun kv h => ?_).trans (List.map_id _)
   by_cases z : kv.1 = kyN ns l e
   ·rw [if_pos z]
    obtain ⟨l', e', h1, h2, h3, h4⟩ := M.ok kv h
    rw [z] at h1
    obtain ⟨rfl, rfl⟩ := kyN_inj r hl h2 he h3 h1
    exact Prod.ext rfl h4.symm
   ·rw [if_neg z]; rfl
  rw [e1]
  exact M
theorem nd_at {P : Program} {w : World} {H : Hp} {a : Addr} {kvs : List (NK × V)} (d : NDict P w H a kvs) : ∃ φ, H a = some (.ext φ) := let ⟨_, e, _⟩ := d; ⟨_, e⟩
theorem IsPl.exN {P : Program} {w : World} {H H' : Hp} {t a b kn : Addr} {ns ss : List Int} {kvs : List (NK × V)} (pl : IsPl H t a b ns ss) (d : NDict P w H kn kvs) (g : Ex (· = kn) H H') : IsPl H' t a b ns ss := by
 obtain ⟨φ, hk⟩ := nd_at d
 exact ⟨g _ _ (ne_of pl.t hk (fun z => by cases z)) pl.t, g _ _ (ne_of pl.a hk (fun z => by cases z)) pl.a, g _ _ (ne_of pl.b hk (fun z => by cases z)) pl.b, pl.ok⟩
theorem cut_at {xs : List Int} {i : Nat} (hi : i < xs.length) : cutV (xs.map V.int) none (some (i : Int)) = (xs.take i).map V.int ∧ cutV (xs.map V.int) (some ((i : Int) + 1)) none = (xs.drop (i + 1)).map V.int := by
 have hm : (xs.map V.int).length = xs.length := List.length_map _
 constructor
 ·unfold cutV
  have h1 : HT.sIx (xs.map V.int).length 0 none = 0 := rfl
  have h2 : HT.sIx (xs.map V.int).length (xs.map V.int).length (some (i : Int)) = i := by rw [HT.sIx_nat, hm]; omega
  rw [h1, h2, List.drop_zero, Nat.sub_zero, List.map_take]
 ·unfold cutV
  have e : (i : Int) + 1 = ((i + 1 : Nat) : Int) := by simp
  have h1 : HT.sIx (xs.map V.int).length 0 (some ((i : Int) + 1)) = i + 1 := by rw [e, HT.sIx_nat, hm]; omega
  have h2 : HT.sIx (xs.map V.int).length (xs.map V.int).length none = xs.length := hm
  rw [h1, h2, List.map_drop, List.take_of_length_le (by rw [List.length_drop, hm]; omega)]
theorem cut_not {xs : List Int} {i : Nat} (hi : i < xs.length) : ¬ (HT.sIx (xs.map V.int).length 0 none = 0 ∧ HT.sIx (xs.map V.int).length (xs.map V.int).length (some (i : Int)) = (xs.map V.int).length) ∧
  ¬ (HT.sIx (xs.map V.int).length 0 (some ((i : Int) + 1)) = 0 ∧ HT.sIx (xs.map V.int).length (xs.map V.int).length none = (xs.map V.int).length) := by
 have hm : (xs.map V.int).length = xs.length := List.length_map _
 have e : (i : Int) + 1 = ((i + 1 : Nat) : Int) := by simp
 constructor
 ·rintro ⟨_, h⟩
  rw [HT.sIx_nat, hm] at h
  omega
 ·rintro ⟨h, _⟩
  rw [e, HT.sIx_nat, hm] at h
  omega
theorem sumTo_next {ns ss : List Int} {near : Nat → List Nat} {ends : Nat → Bool} {l e i k : Nat} (h : (bitsM ns.length l)[i]? = some k) : sumTo ns ss near ends l e (i + 1) = sumTo ns ss near ends l e i + if adjE ns ss e k = true then ways near ends (l - 2 ^ k) k else 0 := by
 unfold sumTo
 rw [List.take_add_one, h, List.map_append, List.sum_append]
 simp
section
variable {f g1 : Addr} {fd gd1 : FuncData}
theorem scLN : FnScope ["plan", "one", "other"] ["plan", "one", "other"] (defScope sLN) := ⟨rfl, rfl, rfl, by decide +kernel, rfl, by decide +kernel, by decide +kernel⟩
theorem ok_LN (F : Fun K "_law_near" "_law_near" sLN f fd) : FnOk P w K mg base CX0 1 f fd ["plan", "one", "other"] spLN := by
 refine F.ok scLN (fun vs H Q E h => ?_) (fun cdv A outer s H vs Q E hr h => ?_)
 ·obtain ⟨t, a, b, ns, ss, x, y, rfl, _⟩ := h
  rfl
 obtain ⟨t, a, b, ns, ss, x, y, rfl, pl, q⟩ := h
 refine ⟨_, (@pss_one _ _ _ (ps_ret (pe_and (pe_cmpR op_ne (pv 1) (pv 2) (nomark _)) (pe_one (pe_cmpR (op_inI K) (pe_op op_add (pv 1) (pv 2)) (pe_ix ix_tup (pv 0) pe_int (fun _ _ => rfl)) rfl))))), ?_⟩
 have e1 : (!decide (V.int x = V.int y)) = decide (x ≠ y) := by
  rw [← decide_not]
  exact decide_eq_decide.mpr (not_congr ⟨fun h => V.int.inj h, fun h => by rw [h]⟩)
 unfold addUp at q
 refine ⟨_, rfl, _, rfl, rfl, _, rfl, ?_⟩
 rw [e1]
 refine ite2 (fun c => ?_) (fun c => ?_)
 ·rw [c, Bool.true_and] at q
  exact ⟨_, rfl, _, rfl, _, _, rfl, rfl, _, rfl, t, _, 1, _, rfl, rfl, SqT.of pl.t, rfl, b, x + y, ss, rfl, rfl, SqL.of pl.b, q⟩
 ·rw [Bool.eq_false_iff.mpr c, Bool.false_and] at q
  exact q
theorem scLW : FnScope ["plan", "last", "left", "ends", "known", "total", "k", "other", "more"] ["plan", "last", "left", "ends", "known"] (defScope sLW) := ⟨rfl, rfl, rfl, by decide +kernel, rfl, by decide +kernel, by decide +kernel⟩
theorem ok_lwS {j m : Nat} (F : Fun K "_law_ways" "_law_ways" sLW f fd) (B : Bt3 mg)
  (GN : FnOk P w K mg base CX0 j g1 gd1 ["plan", "one", "other"] spLN) (bN : Binds K gd1 ["plan", "one", "other"] []) (kN : Kee K g1) (mN : mg "_law_near" = some (.ref g1))
  (GW : FnOk P w K mg base CX0 j f fd ["plan", "last", "left", "ends", "known"] (spLW P w m)) (bW : Binds K fd ["plan", "last", "left", "ends", "known"] []) (kW : Kee K f) (mW : mg "_law_ways" = some (.ref f)) :
  FnOk P w K mg base CX0 (j + 1) f fd ["plan", "last", "left", "ends", "known"] (spLW P w (m + 1)) := by
 refine F.ok scLW (fun vs H Q E h => ?_) (fun cdv A outer s H vs Q E hr h => ?_)
 ·obtain ⟨t, a, b, lf, en, kn, ns, ss, es, fs, ends, l, e, kvs, rfl, _⟩ := h
  rfl
 obtain ⟨t, a, b, lf, en, kn, ns, ss, es, fs, ends, l, e, kvs, rfl, pl, he, hen, hl, hc, elf, een, hends, N, d, M, q⟩ := h
 have hu2 := Nat.lt_of_le_of_lt (Nat.add_le_add_left (by decide : 2 ≤ 64) _) hr.units
 have n10 := pl.ok.n2
 have hl' : l < 1024 := Nat.lt_of_lt_of_le hl (pow_le _ (by omega))
 have lml : ((lstM ns l).map V.int).length = (bitsM ns.length l).length := by unfold lstM; rw [List.length_map, List.length_map]
 refine ⟨_, (@pss_cons _ _ _ _ _ (ps_if (pt_cmpR (op_eqT0 hr.units) (pv 2) (pe_tup pa_nil) (nomark _)) (@pss_one _ _ _ (ps_ret (pe_callTy call_int1 rfl B.int PyProof.Rows.boot_int (pa_cons (pe_cmpR (op_inI K) (pv 1) (pv 3) rfl) pa_nil)))) pss_nil) (@pss_cons _ _ _ _ _ (ps_if (pt_cmp (pc_nnotin hu2 (pe_tup (pa_cons (pv 1) (pa_cons (pv 2) pa_nil))) (pv 4))) (@pss_cons _ _ _ _ _ (ps_set (i := 5) scLW.nd rfl (Or.inl rfl) pe_int) (@pss_cons _ _ _ _ _ (ps_for PassesOwn.never rfl (pi_enumT rfl B.enumerate (pa_cons (pv 2) pa_nil)) (pg_tup rfl (pgs_cons (pg_name (i := 6) scLW.nd rfl (Or.inl rfl)) (pgs_cons (pg_name (i := 7) scLW.nd rfl (Or.inl rfl)) pgs_nil))) (@pss_one _ _ _ (ps_if (PW.pt (pw_or (pt_cmpR op_isN (pv 1) pe_non (nomark _)) (pw_or1 (pt_val (pe_call GN hr rfl mN kN bN .nil pass0 (pa_cons (pv 0) (pa_cons (pv 1) (pa_cons (pv 7) pa_nil)))))))) (@pss_cons _ _ _ _ _ (ps_set (i := 8) scLW.nd rfl (Or.inl rfl) (pe_op op_catT2 (pe_slice sl_tup (pv 2) po_none (po_some (pv 6))) (pe_slice sl_tup (pv 2) (po_some (pe_op op_add (pv 6) pe_int)) po_none))) (@pss_one _ _ _ (ps_set (i := 5) scLW.nd rfl (Or.inl rfl) (pe_op op_add (pv 5) (pe_call GW hr rfl mW kW bW .nil pass0 (pa_cons (pv 0) (pa_cons (pv 7) (pa_cons (pv 8) (pa_cons (pv 3) (pa_cons (pv 4) pa_nil)))))))))) pss_nil))) (@pss_one _ _ _ (ps_nput hu2 (pv 4) (pe_tup (pa_cons (pv 1) (pa_cons (pv 2) pa_nil))) (pv 5) rfl)))) pss_nil) (@pss_one _ _ _ (ps_ret (pe_nget hu2 (pv 4) (pe_tup (pa_cons (pv 1) (pa_cons (pv 2) pa_nil))) (fun _ _ => rfl)))))), ?_⟩
 obtain ⟨φ, ek⟩ := nd_at d
 refine ⟨_, rfl, (by show 0 ≤ sizeLine; decide), fun et het => ?_⟩
 have g0 : Same H (upd H et (.tup [])) := Same.new het _
 have elf0 := g0 _ _ elf
 have et0 : upd H et (.tup []) et = some (.tup []) := upd_same
 have een0 := g0 _ _ een
 have pl0 := pl.same g0
 have d0 : NDict P w (upd H et (.tup [])) kn kvs := d.same g0
 generalize upd H et (.tup []) = H0 at g0 elf0 et0 een0 pl0 d0 ⊢
 refine ⟨lf, et, _, rfl, rfl, elf0, et0, _, rfl, ite2 (fun c => ?_) (fun c => ?_)⟩
 ·have l0 : l = 0 := bits_nil hl (by
   have h1 := List.isEmpty_iff.mp c
   have h2 := congrArg List.length h1
   rw [lml] at h2
   exact List.length_eq_zero_iff.mp h2)
  subst l0
  have z := q H0 kvs (Ex.same g0) d0 M
  have he' : e < ns.length := by
   rcases Nat.lt_or_ge e ns.length with y | y
   ·exact y
   ·exact absurd rfl (hen (by omega)).1
  have e0 : ways (nearX ns ss fs) ends 0 e = if ends e then 1 else 0 := rfl
  rw [e0, hends e he'] at z
  rw [lastO_lt he']
  refine ⟨_, rfl, _, rfl, en, _, es, rfl, rfl, SqL.of een0, .inr ⟨_, rfl, ?_⟩⟩
  cases hcn : es.contains (ns.getD e 0) with
  | true => rw [hcn] at z; exact z
  | false => rw [hcn] at z; exact z
 have l0 : l ≠ 0 := fun z => c (by
  rw [z]
  have : bitsM ns.length 0 = [] := List.filter_eq_nil_iff.mpr fun k _ => by rw [Nat.zero_testBit]; exact Bool.false_ne_true
  unfold lstM
  rw [this]
  rfl)
 have kv2 : ∀ {H' : Hp} {kt : Addr}, H' kt = some (.tup [optI (lastO ns e), .ref lf]) → H' lf = some (.tup ((lstM ns l).map V.int)) → NKat H' (kyN ns l e) kt := fun h1 h2 => ⟨lf, h1, by rw [h2]; unfold kyN; rw [List.map_map]; rfl⟩
 refine ⟨_, rfl, _, rfl, two_le, fun kt hkt => ?_⟩
 have g1' : Same H0 (upd H0 kt (.tup [optI (lastO ns e), .ref lf])) := Same.new hkt _
 have elf1 := g1' _ _ elf0
 have ekt1 : upd H0 kt (.tup [optI (lastO ns e), .ref lf]) kt = some (.tup [optI (lastO ns e), .ref lf]) := upd_same
 have d1 : NDict P w (upd H0 kt (.tup [optI (lastO ns e), .ref lf])) kn kvs := d0.same g1'
 have pl1 := pl0.same g1'
 have een1 := g1' _ _ een0
 have ex1 : Ex (· = kn) H (upd H0 kt (.tup [optI (lastO ns e), .ref lf])) := Ex.same (g0.trans g1')
 generalize upd H0 kt (.tup [optI (lastO ns e), .ref lf]) = H1 at g1' elf1 ekt1 d1 pl1 een1 ex1 ⊢
 obtain ⟨φ1, ek1⟩ := nd_at d1
 have lfk : lf ≠ kn := ne_of elf1 ek1 (fun z => by cases z)
 have enk : en ≠ kn := ne_of een1 ek1 (fun z => by cases z)
 refine ⟨_, rfl, kn, kvs, kt, kyN ns l e, rfl, d1, rfl, kv2 ekt1 elf1, _, rfl, ite2 (fun c2 => ?_) (fun c2 => ?_)⟩
 ·refine ⟨_, rfl, lf, _, rfl, elf1, ?_⟩
  refine for_enumT (xs := (lstM ns l).map V.int) (fun i σ H' => ∃ (x6 x7 x8 : Option V) (kvs' : List (NK × V)), σ = [some (.ref t), some (optI (lastO ns e)), some (.ref lf), some (.ref en), some (.ref kn), some (.int (sumTo ns ss (nearX ns ss fs) ends l e i : Nat)), x6, x7, x8] ∧
    Ex (· = kn) H1 H' ∧ NDict P w H' kn kvs' ∧ MemoN ns (nearX ns ss fs) ends kvs') ⟨_, _, _, kvs, rfl, Ex.refl, d1, M⟩ (fun i σ H' _ ⟨_, _, _, _, _, ex, _, _⟩ => ex _ _ lfk elf1) ?_ ?_
  ·rintro i x σ H2 T hx ⟨x6, x7, x8, kvs2, rfl, ex2, d2, M2⟩ hT
   have hil : i < (bitsM ns.length l).length := by
    have := (List.getElem?_eq_some_iff.mp hx).1
    rw [lml] at this
    exact this
   obtain ⟨k, ek⟩ : ∃ k, k = (bitsM ns.length l)[i] := ⟨_, rfl⟩
   have hb : (bitsM ns.length l)[i]? = some k := by rw [List.getElem?_eq_getElem hil, ek]
   obtain ⟨hkn, hbit⟩ := bits_mem.mp (ek ▸ List.getElem_mem hil)
   have exx : x = .int (ns.getD k 0) := by
    unfold lstM at hx
    rw [List.getElem?_map, List.getElem?_map, hb] at hx
    exact (Option.some.inj hx).symm
   subst exx
   have gT : Same H2 (upd H2 T (.tup [.int (i : Int), .int (ns.getD k 0)])) := Same.new hT _
   refine ⟨T, _, rfl, SqT.of upd_same, rfl, _, _, rfl, _, _, rfl, rfl, ?_⟩
   have d3 : NDict P w (upd H2 T (.tup [.int (i : Int), .int (ns.getD k 0)])) kn kvs2 := d2.same gT
   have ex3 : Ex (· = kn) H1 (upd H2 T (.tup [.int (i : Int), .int (ns.getD k 0)])) := ex2.trans (Ex.same gT)
   generalize upd H2 T (.tup [.int (i : Int), .int (ns.getD k 0)]) = H3 at gT d3 ex3 ⊢
   have pl3 := pl1.exN d1 ex3
   have elf3 := ex3 _ _ lfk elf1
   have een3 := ex3 _ _ enk een1
   refine or_by (b := adjE ns ss e k) (fun Q' hq => ?_) (ite2 (fun c3 => ?_) (fun c3 => ?_))
   ·rcases Nat.lt_or_ge e ns.length with z | z
    ·rw [lastO_lt z]
     unfold adjE at hq
     rw [if_pos z] at hq
     refine ⟨_, rfl, rfl, _, rfl, iteF ?_⟩
     exact ⟨_, rfl, _, rfl, _, rfl, t, a, b, ns, ss, _, _, rfl, pl3, _, rfl, hq⟩
    ·have ze : e = ns.length := by omega
     rw [ze, lastO_n]
     unfold adjE at hq
     rw [if_neg (by omega)] at hq
     exact ⟨_, rfl, rfl, _, rfl, iteT hq⟩
   ·have hii : i < (lstM ns l).length := by unfold lstM; rw [List.length_map]; exact hil
    refine ⟨_, rfl, _, rfl, _, rfl, lf, _, rfl, SqT.of elf3, (cut_not hii).1, fun p1 hp1 => ?_⟩
    have s4 := Same.new hp1 (.tup (cutV ((lstM ns l).map V.int) none (some (i : Int))))
    refine ⟨_, rfl, _, rfl, _, _, rfl, rfl, _, rfl, lf, _, rfl, SqT.of (s4 _ _ elf3), (cut_not hii).2, fun p2 hp2 => ?_⟩
    have s5 := Same.new hp2 (.tup (cutV ((lstM ns l).map V.int) (some ((i : Int) + 1)) none))
    refine ⟨p1, p2, _, _, rfl, rfl, s5 _ _ upd_same, upd_same, ?_, fun pm H6 g6 em => ?_⟩
    ·have := cutV_length ((lstM ns l).map V.int) none (some (i : Int))
     have := cutV_length ((lstM ns l).map V.int) (some ((i : Int) + 1)) none
     have := bits_len ns.length l
     rw [lml] at *
     exact Nat.le_of_lt (small1000 (by omega))
    rw [(cut_at hii).1, (cut_at hii).2, ← List.map_append, ← List.eraseIdx_eq_take_drop_succ] at em
    have em' : H6 pm = some (.tup ((lstM ns (l - 2 ^ k)).map V.int)) := by
     rw [em]
     unfold lstM
     rw [erase_map, bits_erase n10 hl' hil, ← ek]
    have g36 : Same H3 H6 := (s4.trans s5).trans g6
    have d6 := d3.same g36
    have cd := cnt_dec l hl' k (by omega) hbit
    refine ⟨_, rfl, _, rfl, _, rfl, _, rfl, _, rfl, _, rfl, t, a, b, pm, en, kn, ns, ss, es, fs, ends, l - 2 ^ k, k, kvs2, by rw [lastO_lt hkn]; rfl, pl3.same g36, Nat.le_of_lt hkn, (fun z => absurd hkn (by omega)), by omega, by omega, em', g36 _ _ een3, hends, N, d6, M2, fun H7 kvs7 ex7 d7 M7 => ⟨_, _, rfl, rfl, ?_⟩⟩
    have es' : ((sumTo ns ss (nearX ns ss fs) ends l e i : Nat) : Int) + ((ways (nearX ns ss fs) ends (l - 2 ^ k) k : Nat) : Int) = ((sumTo ns ss (nearX ns ss fs) ends l e (i + 1) : Nat) : Int) := by
     rw [sumTo_next hb, if_pos c3]
     exact (Int.natCast_add _ _).symm
    refine ⟨some (.int (i : Int)), some (.int (ns.getD k 0)), some (.ref pm), kvs7, ?_, ex3.trans ((Ex.same g36).trans ex7), d7, M7⟩
    rw [← es']
    rfl
   ·have es' : sumTo ns ss (nearX ns ss fs) ends l e (i + 1) = sumTo ns ss (nearX ns ss fs) ends l e i := by
     rw [sumTo_next hb, if_neg c3, Nat.add_zero]
    refine ⟨some (.int (i : Int)), some (.int (ns.getD k 0)), x8, kvs2, ?_, ex3, d3, M2⟩
    rw [es']
    rfl
  ·rintro σ H2 ⟨x6, x7, x8, kvs2, rfl, ex2, d2, M2⟩
   rw [lml, sumTo_all N hl' l0 he fun z => (hen z).2]
   have elf2 := ex2 _ _ lfk elf1
   refine ⟨_, rfl, _, rfl, _, rfl, _, rfl, two_le, fun k2 hk2 => ?_⟩
   have g3 : Same H2 (upd H2 k2 (.tup [optI (lastO ns e), .ref lf])) := Same.new hk2 _
   refine ⟨kn, kvs2, k2, kyN ns l e, rfl, d2.same g3, rfl, kv2 upd_same (g3 _ _ elf2), M2.len n10, fun H4 off d4 => ?_⟩
   have M4 := M2.put' (near := nearX ns ss fs) (ends := ends) pl.ok.n hl he
   have ex4 : Ex (· = kn) H H4 := ex1.trans (ex2.trans ((Ex.same g3).trans fun c o nc ho => (off c nc).trans ho))
   have elf4 : H4 lf = some (.tup ((lstM ns l).map V.int)) := (off lf lfk).trans (g3 _ _ elf2)
   refine ⟨_, rfl, _, rfl, _, rfl, two_le, fun k5 hk5 => ?_⟩
   have g5 : Same H4 (upd H4 k5 (.tup [optI (lastO ns e), .ref lf])) := Same.new hk5 _
   exact ⟨kn, _, k5, kyN ns l e, _, rfl, d4.same g5, rfl, kv2 upd_same (g5 _ _ elf4), by rw [valV_put, if_pos rfl], q _ _ (ex4.trans (Ex.same g5)) (d4.same g5) M4⟩
 ·cases ev : valV kvs (kyN ns l e) with
  | none => rw [ev] at c2; exact absurd rfl c2
  | some v =>
   have hv := M.val pl.ok.n hl he ev
   refine ⟨_, rfl, _, rfl, _, rfl, two_le, fun k5 hk5 => ?_⟩
   have g5 : Same H1 (upd H1 k5 (.tup [optI (lastO ns e), .ref lf])) := Same.new hk5 _
   rw [hv] at ev
   exact ⟨kn, _, k5, kyN ns l e, _, rfl, d1.same g5, rfl, kv2 upd_same (g5 _ _ elf1), ev, q _ _ (ex1.trans (Ex.same g5)) (d1.same g5) M⟩
theorem ok_LW (F : Fun K "_law_ways" "_law_ways" sLW f fd) (B : Bt3 mg)
  (GN : FnOk P w K mg base CX0 1 g1 gd1 ["plan", "one", "other"] spLN) (bN : Binds K gd1 ["plan", "one", "other"] []) (kN : Kee K g1) (mN : mg "_law_near" = some (.ref g1))
  (bW : Binds K fd ["plan", "last", "left", "ends", "known"] []) (kW : Kee K f) (mW : mg "_law_ways" = some (.ref f)) :
  ∀ m : Nat, FnOk P w K mg base CX0 (m + 1) f fd ["plan", "last", "left", "ends", "known"] (spLW P w m)
 | 0 => ⟨fun vs H Q E h => by obtain ⟨t, a, b, lf, en, kn, ns, ss, es, fs, ends, l, e, kvs, rfl, _⟩ := h; rfl, fun A outer s H args us vs Q E _ _ _ _ h => by
   obtain ⟨t, a, b, lf, en, kn, ns, ss, es, fs, ends, l, e, kvs, _, _, _, _, _, hc, _⟩ := h
   exact absurd hc (Nat.not_lt_zero _)⟩
 | m + 1 => ok_lwS (j := m + 1) F B (GN.mono (by omega)) bN kN mN (ok_LW F B GN bN kN mN bW kW mW m) bW kW mW
end
abbrev sCb : Stmt := top 38
abbrev sCkN : Stmt := top 21
abbrev sRb : Stmt := top 39
abbrev sNo : Stmt := top 40
def numIn (ns : List Int) : PyData → Bool
 | .int n => ns.contains n
 | _ => false
def spCkY (XN : Addr) : Sp := fun vs H Q E => ∃ (t a b : Addr) (ns ss : List Int) (v : V) (d : PyData), vs = [.ref t, v] ∧ IsPl H t a b ns ss ∧ Dat H v d ∧ (numIn ns d = true → Q .non H) ∧ (numIn ns d = false → E (.ref XN) none H)
def spCkN : Sp := fun vs H Q _ => ∃ (t a b : Addr) (ns ss : List Int) (i : Nat), vs = [.ref t, .int (ns.getD i 0)] ∧ IsPl H t a b ns ss ∧ i < ns.length ∧ Q .non H
def betW (ns ss : List Int) (i j : Nat) : Nat := ways (nearX ns ss [i]) (fun e => decide (e = j)) (2 ^ ns.length - 1 - 2 ^ i) i
def spCb : Sp := fun vs H Q _ => ∃ (t a b : Addr) (ns ss : List Int) (i j : Nat), vs = [.ref t, .int (ns.getD i 0), .int (ns.getD j 0)] ∧ IsPl H t a b ns ss ∧ i < ns.length ∧ j < ns.length ∧ ∀ H', Same H H' → Q (.int (betW ns ss i j : Nat)) H'
theorem getD_at {ns : List Int} {i : Nat} (h : i < ns.length) : ns[i]? = some (ns.getD i 0) := by rw [List.getD_eq_getElem?_getD, List.getElem?_eq_getElem h]; rfl
theorem whole_lt {n : Nat} (h : n ≤ 10) : 2 ^ n - 1 < 1024 := by have := pow_le n (by omega); have := Nat.two_pow_pos n; omega
theorem cn_to {XN : Addr} {vs : List V} {H : Hp} {Q : VK} {E : XK} (h : spCkN vs H Q E) : noE (spCkY XN) vs H Q E := by
 obtain ⟨t, a, b, ns, ss, i, rfl, pl, hi, q⟩ := h
 have m : numIn ns (.int (ns.getD i 0)) = true := List.contains_iff_mem.mpr (List.mem_of_getElem? (getD_at hi))
 exact ⟨t, a, b, ns, ss, _, _, rfl, pl, .int _, fun _ => q, fun z => by rw [m] at z; cases z⟩
def spNoPl (XP : Addr) : Sp := fun vs H _ E => ∃ (v : V) (d : PyData), vs = [v] ∧ Dat H v d ∧ planD d = false ∧ E (.ref XP) none H
def spCbR (XP XN : Addr) : Sp := fun vs H _ E => ∃ (v : V) (d : PyData) (u : V) (e : PyData) (x : V) (g : PyData), vs = [v, u, x] ∧ Dat H v d ∧ Dat H u e ∧ Dat H x g ∧ (planD d = false → E (.ref XP) none H) ∧ (planD d = true → ∀ (t a b : Addr) (ns ss : List Int), v = .ref t → IsPl H t a b ns ss → (numIn ns e && numIn ns g) = false ∧ E (.ref XN) none H)
def spRbR (XP XL : Addr) : Sp := fun vs H _ E => ∃ (v0 : V) (d0 : PyData) (v : V) (d : PyData), vs = [v0, v] ∧ Dat H v0 d0 ∧ Dat H v d ∧ (planD d0 = false → E (.ref XP) none H) ∧ (planD d0 = true → ∀ (t a b : Addr) (ns ss : List Int), v0 = .ref t → IsPl H t a b ns ss → (∀ i : Int, d = .int i → 0 ≤ i → ¬ i < (cntW ns ss false : Nat)) ∧ ∀ H', Same H H' → E (.ref XL) none H')
def spNoR (XP XR : Addr) : Sp := fun vs H _ E => ∃ (v0 : V) (d0 : PyData) (v : V) (d : PyData), vs = [v0, v] ∧ Dat H v0 d0 ∧ Dat H v d ∧ shortD d ∧ (planD d0 = false → E (.ref XP) none H) ∧ (planD d0 = true → ∀ (t a b : Addr) (ns ss : List Int), v0 = .ref t → IsPl H t a b ns ss → rowD ns ss d = false ∧ ∀ H', Same H H' → E (.ref XR) none H')
section
variable {f wh g1 g2 g3 g4 g5 g6 C XP XN XR XL : Addr} {fd whd gd1 gd2 gd3 gd4 gd5 gd6 : FuncData} {t3 : Tok} {j : Nat} {sp1 sp2 sp3 sp4 : Sp}
theorem scCkN : FnScope ["plan", "number"] ["plan", "number"] (defScope sCkN) := ⟨rfl, rfl, rfl, by decide +kernel, rfl, by decide +kernel, by decide +kernel⟩
theorem ok_ckY (F : Fun K "check_number" "check_number" sCkN f fd) (eXN : PySem.W.excIn K XN bmV "ValueError.__new__" = true) (mXN : mg "NoNumber" = some (.ref XN))
  (GW : FnOk P w K mg base CX0 1 wh whd ["thing"] spWholeD) (bW : Binds K whd ["thing"] []) (kW : Kee K wh) (mW : mg "is_whole" = some (.ref wh)) : FnOk P w K mg base (CX1 P w) 2 f fd ["plan", "number"] (spCkY XN) := by
 refine F.ok1 scCkN (fun vs H Q E h => ?_) (fun cdv A outer s H vs Q E hr h => ?_)
 ·obtain ⟨t, a, b, ns, ss, v, d, rfl, _⟩ := h
  rfl
 obtain ⟨t, a, b, ns, ss, v, d, rfl, pl, hd, q, qe⟩ := h
 refine ⟨_, (@pss_one _ _ _ (ps_if (PW.pt (pw_or (pt_not (pt_val (pe_call GW hr rfl mW kW bW .nil pass0 (pa_cons (pv 1) pa_nil)))) (pw_or1 (pt_cmpR (op_notInI K) (pv 1) (pe_ix ix_tup (pv 0) pe_int (fun _ _ => rfl)) rfl)))) (@pss_one _ _ _ (ps_raise raises1 rfl PySem.F.excBase_ValueError eXN rfl mXN (pa_cons pe_str pa_nil))) pss_nil)), ?_⟩
 refine ⟨_, rfl, v, d, rfl, hd, _, rfl, ?_⟩
 cases c : isW d with
 | false =>
  refine iteT (iteT ⟨by decide, qe ?_⟩)
  cases d <;> first | rfl | cases c
 | true =>
  cases hd with
  | int x =>
   refine iteF ?_
   refine ⟨_, rfl, _, rfl, t, _, 0, _, rfl, rfl, SqT.of pl.t, rfl, a, x, ns, rfl, rfl, SqL.of pl.a, _, rfl, ite2 (fun c => ?_) (fun c => ?_)⟩
   ·exact ⟨by decide, qe (by simpa [numIn] using c)⟩
   ·exact q (by simpa [numIn] using c)
  | _ => cases c
theorem ok_crR (F : Fun K "count_rows" "count_rows" sCr f fd) (T : TyT K C) (mW : Meth K C "all_ways" g1) (GW : FnOk P w K mg base CX0 j g1 gd1 ["self"] sp1) (bW : Binds K gd1 ["self"] [])
  (GC : FnOk P w K mg base (CX1 P w) j g2 gd2 ["plan"] (spCkX XP)) (bC : Binds K gd2 ["plan"] []) (kC : Kee K g2) (mC : mg "check_plan" = some (.ref g2))
  (GT : FnOk P w K mg base CX0 j g3 gd3 ["plan"] sp2) (bT : Binds K gd3 ["plan"] []) (kT : Kee K g3) (mT : mg "tally_of_rows" = some (.ref g3)) : FnOk P w K mg base (CX1 P w) (j + 1) f fd ["plan"] (spNoPl XP) := by
 refine F.ok1 scCr (fun vs H Q E h => ?_) (fun cdv A outer s H vs Q E hr h => ?_)
 ·obtain ⟨v, d, rfl, _⟩ := h
  rfl
 obtain ⟨v, d, rfl, hd, c, qe⟩ := h
 refine ⟨_, (@pss_cons _ _ _ _ _ (ps_expr (pe_call GC hr rfl mC kC bC .nil pass1 (pa_cons (pv 0) pa_nil))) (PSs.nox (@pss_one _ _ _ (ps_ret (pe_meth0 (pe_call GT hr rfl mT kT bT .nil pass0 (pa_cons (pv 0) pa_nil)) T.cl mW GW hr bW .nil pass0))))), ?_⟩
 exact ⟨_, rfl, v, d, rfl, hd, (fun c1 => by rw [c] at c1; cases c1), fun _ => qe⟩
theorem ok_cgR (F : Fun K "count_rings" "count_rings" sCg f fd) (B : Bt3 mg) (T : TyT K C) (m3 : mg "FEWEST_IN_RING" = some (.int 3 t3)) (mW : Meth K C "all_ways" g1) (MT : Mk K C g4) (mT : mg "Tally" = some (.ref C))
  (GI : FnOk P w K mg base CX0 j g4 gd4 ["self", "plan", "first_places", "last_places"] sp1) (bI : Binds K gd4 ["self", "plan", "first_places", "last_places"] [])
  (GW : FnOk P w K mg base CX0 (j + 1) g1 gd1 ["self"] sp2) (bW : Binds K gd1 ["self"] [])
  (GC : FnOk P w K mg base (CX1 P w) (j + 1) g2 gd2 ["plan"] (spCkX XP)) (bC : Binds K gd2 ["plan"] []) (kC : Kee K g2) (mC : mg "check_plan" = some (.ref g2))
  (GN : FnOk P w K mg base CX0 (j + 1) g3 gd3 ["plan", "number"] sp3) (bN : Binds K gd3 ["plan", "number"] []) (kN : Kee K g3) (mN : mg "near_places" = some (.ref g3)) : FnOk P w K mg base (CX1 P w) (j + 2) f fd ["plan"] (spNoPl XP) := by
 refine F.ok1 scCg (fun vs H Q E h => ?_) (fun cdv A outer s H vs Q E hr h => ?_)
 ·obtain ⟨v, d, rfl, _⟩ := h
  rfl
 obtain ⟨v, d, rfl, hd, c, qe⟩ := h
 refine ⟨_, (@pss_cons _ _ _ _ _ (ps_expr (pe_call GC hr rfl mC kC bC .nil pass1 (pa_cons (pv 0) pa_nil))) (PSs.nox (@pss_cons _ _ _ _ _ (ps_if (pt_cmpR op_lt (pe_callB call_len_seq rfl B.len PySem.boot_len (pa_cons (pe_ix ix_tup (pv 0) pe_int (fun _ _ => rfl)) pa_nil)) (pe_glob (v := .int 3) rfl m3 ⟨_, rfl⟩) (nomark _)) (@pss_one _ _ _ (ps_ret pe_int)) pss_nil) (@pss_one _ _ _ (ps_ret (pe_op op_mul (pe_callB call_len_seq rfl B.len PySem.boot_len (pa_cons (pe_ix ix_tup (pv 0) pe_int (fun _ _ => rfl)) pa_nil)) (pe_meth0 (pe_make MT GI hr rfl mT bI .nil pass0 (pa_cons (pv 0) (pa_cons (pe_lst (pa_cons pe_int pa_nil)) (pa_cons (pe_call GN hr rfl mN kN bN .nil pass0 (pa_cons (pv 0) (pa_cons (pe_ix ix_list (pe_ix ix_tup (pv 0) pe_int (fun _ _ => rfl)) pe_int (fun _ _ => rfl)) pa_nil))) pa_nil)))) T.cl mW GW hr bW .nil pass0))))))), ?_⟩
 exact ⟨_, rfl, v, d, rfl, hd, (fun c1 => by rw [c] at c1; cases c1), fun _ => qe⟩
theorem scCb : FnScope ["plan", "one", "other"] ["plan", "one", "other"] (defScope sCb) := ⟨rfl, rfl, rfl, by decide +kernel, rfl, by decide +kernel, by decide +kernel⟩
theorem ok_cb (F : Fun K "count_between" "count_between" sCb f fd) (T : TyT K C) (mW : Meth K C "all_ways" g1) (MT : Mk K C g4) (mT : mg "Tally" = some (.ref C))
  (GI : FnOk P w K mg base CX0 22 g4 gd4 ["self", "plan", "first_places", "last_places"] (spTIn C)) (bI : Binds K gd4 ["self", "plan", "first_places", "last_places"] [])
  (GW : FnOk P w K mg base CX0 23 g1 gd1 ["self"] (spAw C)) (bW : Binds K gd1 ["self"] [])
  (GC : FnOk P w K mg base CX0 23 g2 gd2 ["plan"] spCkP) (bC : Binds K gd2 ["plan"] []) (kC : Kee K g2) (mC : mg "check_plan" = some (.ref g2))
  (GN : FnOk P w K mg base CX0 23 g3 gd3 ["plan", "number"] spCkN) (bN : Binds K gd3 ["plan", "number"] []) (kN : Kee K g3) (mN : mg "check_number" = some (.ref g3)) : FnOk P w K mg base CX0 24 f fd ["plan", "one", "other"] spCb := by
 refine F.ok scCb (fun vs H Q E h => ?_) (fun cdv A outer s H vs Q E hr h => ?_)
 ·obtain ⟨t, a, b, ns, ss, i, j, rfl, _⟩ := h
  rfl
 obtain ⟨t, a, b, ns, ss, i, j, rfl, pl, hi, hj, q⟩ := h
 have n1 := pl.ok.n1
 have n2 := pl.ok.n2
 have noi : ∀ {i : Nat}, i < ns.length → ∀ m < i, ns[m]? ≠ some (ns.getD i 0) := fun {i} hi m hm z => by
  rw [getD_at (by omega)] at z
  have := rise_inj pl.ok.n (by omega) hi (Option.some.inj z)
  omega
 refine ⟨_, (@pss_cons _ _ _ _ _ (ps_expr (pe_call GC hr rfl mC kC bC .nil pass0 (pa_cons (pv 0) pa_nil))) (@pss_cons _ _ _ _ _ (ps_expr (pe_call GN hr rfl mN kN bN .nil pass0 (pa_cons (pv 0) (pa_cons (pv 1) pa_nil)))) (@pss_cons _ _ _ _ _ (ps_expr (pe_call GN hr rfl mN kN bN .nil pass0 (pa_cons (pv 0) (pa_cons (pv 2) pa_nil)))) (@pss_one _ _ _ (ps_ret (pe_meth0 (pe_make MT GI hr rfl mT bI .nil pass0 (pa_cons (pv 0) (pa_cons (pe_lst (pa_cons (pe_bm PySem.F.plainAttrs_list PySem.F.slot_list_index PySem.F.type_list_index mt_index (pe_ix ix_tup (pv 0) pe_int (fun _ _ => rfl)) (pa_cons (pv 1) pa_nil)) pa_nil)) (pa_cons (pe_lst (pa_cons (pe_bm PySem.F.plainAttrs_list PySem.F.slot_list_index PySem.F.type_list_index mt_index (pe_ix ix_tup (pv 0) pe_int (fun _ _ => rfl)) (pa_cons (pv 2) pa_nil)) pa_nil)) pa_nil)))) T.cl mW GW hr bW .nil pass0)))))), ?_⟩
 refine ⟨_, rfl, t, a, b, ns, ss, rfl, pl, ?_⟩
 refine ⟨_, rfl, _, rfl, t, a, b, ns, ss, i, rfl, pl, hi, ?_⟩
 refine ⟨_, rfl, _, rfl, t, a, b, ns, ss, j, rfl, pl, hj, ?_⟩
 refine ⟨_, rfl, _, rfl, t, _, 0, _, rfl, rfl, SqT.of pl.t, rfl, .inl ⟨rfl, _, SqL.of pl.a⟩, _, rfl, a, ns, _, i, rfl, rfl, pl.a, getD_at hi, noi hi, by omega, (by show 1 ≤ sizeLine; decide), fun l1 hl1 => ?_⟩
 have g1 : Same H (upd H l1 (.lst [.int (i : Int)])) := Same.new hl1 _
 have p1 := pl.same g1
 have el1 : (upd H l1 (.lst [.int (i : Int)])) l1 = some (.lst ((iv [i]).map V.int)) := upd_same
 generalize upd H l1 (.lst [.int (i : Int)]) = H1 at g1 p1 el1 ⊢
 refine ⟨_, rfl, t, _, 0, _, rfl, rfl, SqT.of p1.t, rfl, .inl ⟨rfl, _, SqL.of p1.a⟩, _, rfl, a, ns, _, j, rfl, rfl, p1.a, getD_at hj, noi hj, by omega, (by show 1 ≤ sizeLine; decide), fun l2 hl2 => ?_⟩
 have g2 : Same H1 (upd H1 l2 (.lst [.int (j : Int)])) := Same.new hl2 _
 have el2 : (upd H1 l2 (.lst [.int (j : Int)])) l2 = some (.lst ((iv [j]).map V.int)) := upd_same
 generalize upd H1 l2 (.lst [.int (j : Int)]) = H2 at g2 el2 ⊢
 refine fun x dx nx ndx nex => ?_
 have g3 : Same H2 (upd (upd H2 dx (.own x)) x (.ins C dx [])) := fun c o hc => by
  rw [upd_ne (ne_of_none hc nx), upd_ne (ne_of_none hc ndx)]; exact hc
 refine ⟨x, t, a, b, l1, l2, dx, ns, ss, [i], [j], rfl, upd_same, (p1.same g2).same g3, g3 _ _ (g2 _ _ el1), g3 _ _ el2, fun nr lq ow H3 ex3 how s3 na3 lq3 ow3 => ⟨rfl, ?_⟩⟩
 have g12 := g1.trans g2
 have how' : H ow = none := none_of_same (g12.trans g3) how
 have g4 : Same H H3 := fun c o hc => ex3 c o (ne_of_none (g12 _ _ hc) nx) (g3 _ _ (g12 _ _ hc))
 have N : NearOk (nearX ns ss [i]) ns.length := near_ok pl.ok (fun k hk => by rw [List.mem_singleton.mp hk]; exact hi) (List.pairwise_singleton _ _)
 have S3 : Tly C ⟨ns.length, nearX ns ss [i], fun e => decide (e = j), [j], x, dx, nr, lq, ow⟩ H3 := by
  refine ⟨s3, na3, lq3, N, fun e _ => ?_⟩
  rw [Bool.eq_iff_iff, List.contains_iff_mem, List.mem_singleton, decide_eq_true_iff]
 refine ⟨x, dx, _, rfl, S3.at_, rfl, ⟨ns.length, nearX ns ss [i], fun e => decide (e = j), [j], x, dx, nr, lq, ow⟩, [], rfl, S3, ⟨ow3, memoT_nil⟩, n1, fun H4 kvs4 ex4 hk4 => ?_⟩
 have z := q H4 (fun c o hc => ex4 c o (ne_of_none hc how') (g4 _ _ hc))
 have ew : ways (nearX ns ss [i]) (fun e => decide (e = j)) (2 ^ ns.length - 1) ns.length = betW ns ss i j := by
  have wp := Nat.one_lt_two_pow (n := ns.length) (by omega)
  rw [ways_succ N (whole_lt n2) (by omega) (Nat.le_refl _)]
  have e1 : nearX ns ss [i] ns.length = [i] := by unfold nearX; rw [if_neg (Nat.lt_irrefl _)]
  rw [e1, List.filter_cons, if_pos (whole_bit hi), List.filter_nil]
  show ways _ _ _ i + 0 = _
  rfl
 rw [← ew] at z
 exact z
theorem ok_cbR (F : Fun K "count_between" "count_between" sCb f fd) (T : TyT K C) (mW : Meth K C "all_ways" g1) (MT : Mk K C g4) (mT : mg "Tally" = some (.ref C))
  (GI : FnOk P w K mg base CX0 j g4 gd4 ["self", "plan", "first_places", "last_places"] sp1) (bI : Binds K gd4 ["self", "plan", "first_places", "last_places"] [])
  (GW : FnOk P w K mg base CX0 (j + 1) g1 gd1 ["self"] sp2) (bW : Binds K gd1 ["self"] [])
  (GC : FnOk P w K mg base (CX1 P w) (j + 1) g2 gd2 ["plan"] (spCkX XP)) (bC : Binds K gd2 ["plan"] []) (kC : Kee K g2) (mC : mg "check_plan" = some (.ref g2))
  (GN : FnOk P w K mg base (CX1 P w) (j + 1) g3 gd3 ["plan", "number"] (spCkY XN)) (bN : Binds K gd3 ["plan", "number"] []) (kN : Kee K g3) (mN : mg "check_number" = some (.ref g3)) : FnOk P w K mg base (CX1 P w) (j + 2) f fd ["plan", "one", "other"] (spCbR XP XN) := by
 refine F.ok1 scCb (fun vs H Q E h => ?_) (fun cdv A outer s H vs Q E hr h => ?_)
 ·obtain ⟨v, d, u, e, x, g, rfl, _⟩ := h
  rfl
 obtain ⟨v, d, u, e, x, g, rfl, hd, he, hg, qe, q⟩ := h
 refine ⟨_, (@pss_cons _ _ _ _ _ (ps_expr (pe_call GC hr rfl mC kC bC .nil pass1 (pa_cons (pv 0) pa_nil))) (@pss_cons _ _ _ _ _ (ps_expr (pe_call GN hr rfl mN kN bN .nil pass1 (pa_cons (pv 0) (pa_cons (pv 1) pa_nil)))) (@pss_cons _ _ _ _ _ (ps_expr (pe_call GN hr rfl mN kN bN .nil pass1 (pa_cons (pv 0) (pa_cons (pv 2) pa_nil)))) (PSs.nox (@pss_one _ _ _ (ps_ret (pe_meth0 (pe_make MT GI hr rfl mT bI .nil pass0 (pa_cons (pv 0) (pa_cons (pe_lst (pa_cons (pe_bm PySem.F.plainAttrs_list PySem.F.slot_list_index PySem.F.type_list_index mt_index (pe_ix ix_tup (pv 0) pe_int (fun _ _ => rfl)) (pa_cons (pv 1) pa_nil)) pa_nil)) (pa_cons (pe_lst (pa_cons (pe_bm PySem.F.plainAttrs_list PySem.F.slot_list_index PySem.F.type_list_index mt_index (pe_ix ix_tup (pv 0) pe_int (fun _ _ => rfl)) (pa_cons (pv 2) pa_nil)) pa_nil)) pa_nil)))) T.cl mW GW hr bW .nil pass0))))))), ?_⟩
 refine ⟨_, rfl, v, d, rfl, hd, fun c1 => ?_, qe⟩
 obtain ⟨t, a, b, ns, ss, rfl, pl, _⟩ := plan_back hd c1
 obtain ⟨no, qn⟩ := q c1 t a b ns ss rfl pl
 refine ⟨_, rfl, _, rfl, t, a, b, ns, ss, u, e, rfl, pl, he, fun c2 => ?_, fun _ => qn⟩
 exact ⟨_, rfl, _, rfl, t, a, b, ns, ss, x, g, rfl, pl, hg, (fun c3 => by rw [c2, c3] at no; cases no), fun _ => qn⟩
theorem scRb : FnScope ["plan", "number", "tally"] ["plan", "number"] (defScope sRb) := ⟨rfl, rfl, rfl, by decide +kernel, rfl, by decide +kernel, by decide +kernel⟩
theorem ok_rbR (F : Fun K "row_by" "row_by" sRb f fd) (T : TyT K C) (eXL : PySem.W.excIn K XL bmV "ValueError.__new__" = true) (mXL : mg "NoPlace" = some (.ref XL)) (mW : Meth K C "all_ways" g1) (mP : Meth K C "places_by" g5)
  (GW : FnOk P w K mg base CX0 25 g1 gd1 ["self"] (spAw C)) (bW : Binds K gd1 ["self"] [])
  (GP : FnOk P w K mg base CX0 25 g5 gd5 ["self", "number"] sp1) (bP : Binds K gd5 ["self", "number"] [])
  (GC : FnOk P w K mg base (CX1 P w) 25 g2 gd2 ["plan"] (spCkX XP)) (bC : Binds K gd2 ["plan"] []) (kC : Kee K g2) (mC : mg "check_plan" = some (.ref g2))
  (GT : FnOk P w K mg base CX0 25 g3 gd3 ["plan"] (spTr C)) (bT : Binds K gd3 ["plan"] []) (kT : Kee K g3) (mT : mg "tally_of_rows" = some (.ref g3))
  (GI : FnOk P w K mg base CX0 25 wh whd ["thing"] spWholeD) (bI : Binds K whd ["thing"] []) (kI : Kee K wh) (mI : mg "is_whole" = some (.ref wh))
  (GN : FnOk P w K mg base CX0 25 g6 gd6 ["plan", "places"] sp2) (bN : Binds K gd6 ["plan", "places"] []) (kN : Kee K g6) (mN : mg "numbers_at" = some (.ref g6)) : FnOk P w K mg base (CX1 P w) 26 f fd ["plan", "number"] (spRbR XP XL) := by
 refine F.ok1 scRb (fun vs H Q E h => ?_) (fun cdv A outer s H vs Q E hr h => ?_)
 ·obtain ⟨v0, d0, v, d, rfl, _⟩ := h
  rfl
 obtain ⟨v0, d0, v, d, rfl, hd0, hd, qe, q⟩ := h
 refine ⟨_, (@pss_cons _ _ _ _ _ (ps_expr (pe_call GC hr rfl mC kC bC .nil pass1 (pa_cons (pv 0) pa_nil))) (@pss_cons _ _ _ _ _ (ps_set (i := 2) scRb.nd rfl (Or.inl rfl) (pe_call GT hr rfl mT kT bT .nil pass0 (pa_cons (pv 0) pa_nil))) (@pss_cons _ _ _ _ _ (ps_if (PW.pt (pw_or (pt_not (pt_val (pe_call GI hr rfl mI kI bI .nil pass0 (pa_cons (pv 1) pa_nil)))) (pw_or1 (pt_not (pt_chain op_le op_lt pe_int (pv 1) (pe_meth0 (pv 2) T.cl mW GW hr bW .nil pass0)))))) (@pss_one _ _ _ (ps_raise raises1 rfl PySem.F.excBase_ValueError eXL rfl mXL (pa_cons pe_str pa_nil))) pss_nil) (PSs.nox (@pss_one _ _ _ (ps_ret (pe_call GN hr rfl mN kN bN .nil pass0 (pa_cons (pv 0) (pa_cons (pe_meth (pv 2) T.cl mP GP hr bP .nil pass0 (pa_cons (pv 1) pa_nil)) pa_nil))))))))), ?_⟩
 refine ⟨_, rfl, v0, d0, rfl, hd0, fun c1 => ?_, qe⟩
 obtain ⟨t, a, b, ns, ss, rfl, pl, _⟩ := plan_back hd0 c1
 obtain ⟨no, qn⟩ := q c1 t a b ns ss rfl pl
 refine ⟨_, rfl, t, a, b, ns, ss, rfl, pl, fun p H1 e1 e2 e3 g1 how S hk => ?_⟩
 have n1 : 1 ≤ p.n := by rw [e1]; exact pl.ok.n1
 have ew : ways p.near p.ends (2 ^ p.n - 1) p.n = cntW ns ss false := by rw [e1, e2, e3]; rfl
 refine ⟨_, rfl, v, d, rfl, hd.same g1, _, rfl, ?_⟩
 cases c : isW d with
 | false => exact iteT (iteT ⟨by decide, qn _ g1⟩)
 | true =>
  cases hd with
  | int x =>
   refine iteF ?_
   refine ⟨_, rfl, _, _, rfl, rfl, _, rfl, ite2 (fun c0 => ?_) (fun c0 => ?_)⟩
   ·refine ⟨_, rfl, p.s, p.dx, _, rfl, S.at_, rfl, p, [], rfl, S, hk, n1, fun H2 kvs2 ex2 hk2 => ⟨_, _, rfl, rfl, _, rfl, ?_⟩⟩
    rw [ew, decide_eq_false (no x rfl (of_decide_eq_true c0))]
    have g2 : Same H H2 := fun c o hc => ex2 c o (ne_of_none hc how) (g1 _ _ hc)
    exact iteT ⟨by decide, qn _ g2⟩
   ·exact ⟨_, rfl, iteT ⟨by decide, qn _ g1⟩⟩
  | _ => cases c
theorem scNo : FnScope ["plan", "thing"] ["plan", "thing"] (defScope sNo) := ⟨rfl, rfl, rfl, by decide +kernel, rfl, by decide +kernel, by decide +kernel⟩
theorem ok_noR (F : Fun K "number_of" "number_of" sNo f fd) (T : TyT K C) (mA : Meth K C "number_at" g1) (eXR : PySem.W.excIn K XR bmV "ValueError.__new__" = true) (mXR : mg "NoRow" = some (.ref XR))
  (GA : FnOk P w K mg base CX0 j g1 gd1 ["self", "places"] sp1) (bA : Binds K gd1 ["self", "places"] [])
  (GR : FnOk P w K mg base (CX1 P w) j g2 gd2 ["plan", "thing"] (spIsRX XP)) (bR : Binds K gd2 ["plan", "thing"] []) (kR : Kee K g2) (mR : mg "is_row" = some (.ref g2))
  (GT : FnOk P w K mg base CX0 j g3 gd3 ["plan"] sp2) (bT : Binds K gd3 ["plan"] []) (kT : Kee K g3) (mT : mg "tally_of_rows" = some (.ref g3)) : FnOk P w K mg base (CX1 P w) (j + 1) f fd ["plan", "thing"] (spNoR XP XR) := by
 refine F.ok1 scNo (fun vs H Q E h => ?_) (fun cdv A outer s H vs Q E hr h => ?_)
 ·obtain ⟨v0, d0, v, d, rfl, _⟩ := h
  rfl
 obtain ⟨v0, d0, v, d, rfl, hd0, hd, sh, qe, q⟩ := h
 refine ⟨_, (@pss_cons _ _ _ _ _ (ps_if (pt_not (pt_val (pe_call GR hr rfl mR kR bR .nil pass1 (pa_cons (pv 0) (pa_cons (pv 1) pa_nil))))) (@pss_one _ _ _ (ps_raise raises1 rfl PySem.F.excBase_ValueError eXR rfl mXR (pa_cons pe_str pa_nil))) pss_nil) (PSs.nox (@pss_one _ _ _ (ps_ret (pe_meth (pe_call GT hr rfl mT kT bT .nil pass0 (pa_cons (pv 0) pa_nil)) T.cl mA GA hr bA .nil pass0 (pa_cons (pe_comp ["number"] rfl (blk_ok (defScope sNo) ["plan", "thing"] rfl rfl (by decide +kernel)) (pi_list (pv 1)) (fun pins C fp s3 H3 => ⟨(pg_name (i := 0) (show (blkN ["number"] ["plan", "thing"]).Nodup by decide +kernel) rfl (Or.inl rfl)), pif_nil, (pe_bmK K PySem.F.plainAttrs_list PySem.F.slot_list_index PySem.F.type_list_index mt_index (pe_ix (ix_tupK K) (pv 1) pe_int (fun _ _ => rfl)) (pa_cons (pv 0) pa_nil))⟩)) pa_nil)))))), ?_⟩
 refine ⟨_, rfl, _, rfl, v0, d0, v, d, rfl, hd0, hd, sh, ?_, qe⟩
 intro c0 t a b ns ss e0 pl H1 g1
 obtain ⟨no, qn⟩ := q c0 t a b ns ss e0 pl
 refine ⟨_, rfl, ?_⟩
 rw [no]
 exact iteT ⟨by decide, qn H1 g1⟩
end
abbrev sCopy : Stmt := top 46
abbrev sAlw : Stmt := top 49
abbrev sLaw : Stmt := top 62
theorem eqv_same {K : PySem.W.Frag} {H : Hp} {n : Nat} {a b : Addr} {xs : List Int} (ne : a ≠ b) (h1 : H a = some (.lst (xs.map V.int))) (h2 : H b = some (.lst (xs.map V.int))) : EqV K H (n + 1) (.ref a) (.ref b) true := by
 have q := eqv_ints (K := K) (n := n) ne (SqL.of h1) (SqL.of h2)
 rw [beq_self_eq_true] at q
 exact q
theorem rcv_plan {K : PySem.W.Frag} {H : Hp} {a b a1 a2 b1 b2 : Addr} {xs ys : List Int} (ha : H a = some (.tup [.ref a1, .ref a2])) (hb : H b = some (.tup [.ref b1, .ref b2])) (h1 : H a1 = some (.lst (xs.map V.int))) (h2 : H a2 = some (.lst (ys.map V.int)))
  (h3 : H b1 = some (.lst (xs.map V.int))) (h4 : H b2 = some (.lst (ys.map V.int))) (n1 : a1 ≠ b1) (n2 : a2 ≠ b2) : RcV K H (.ref a) (.ref b) true := by
 refine RcV.tup (e := fun _ => true) (SqT.of ha) (SqT.of hb) rfl fun j x y hx hy => ?_
 match j with
 | 0 => cases hx; cases hy; exact eqv_same n1 h1 h3
 | 1 => cases hx; cases hy; exact eqv_same n2 h2 h4
 | _ + 2 => cases hx
def spCopy : Sp := fun vs H Q _ => ∃ (t a b : Addr) (ns ss : List Int), vs = [.ref t] ∧ IsPl H t a b ns ss ∧ ∀ (t' a' b' : Addr) (H' : Hp), Same H H' → H t' = none → H a' = none → H b' = none → a' ≠ b' → IsPl H' t' a' b' ns ss → Q (.ref t') H'
def spLaw (K : PySem.W.Frag) : Sp := fun vs H Q _ => ∃ (a : Addr) (ns : List Int), vs = [.ref a] ∧ SqL K H a (ns.map V.int) ∧ ns.length ≤ 63 ∧ ∀ H', Q (.bl true) H'
theorem lst_whole (ns : List Int) : lstM ns (2 ^ ns.length - 1) = ns := by
 unfold lstM bitsM
 rw [List.filter_eq_self.mpr fun k hk => whole_bit (List.mem_range.mp hk)]
 refine List.ext_getElem (by rw [List.length_map, List.length_range]) fun i h1 h2 => ?_
 rw [List.getElem_map, List.getElem_range, List.getD_eq_getElem?_getD, List.getElem?_eq_getElem h2]
 rfl
theorem near_all {ns ss : List Int} (ok : PlanOk ns ss) : NearOk (nearX ns ss (List.range ns.length)) ns.length := near_ok ok (fun k hk => List.mem_range.mp hk) List.pairwise_lt_range
section
variable {f g1 g2 g3 C : Addr} {fd gd1 gd2 gd3 : FuncData}
theorem scCopy : FnScope ["plan"] ["plan"] (defScope sCopy) := ⟨rfl, rfl, rfl, by decide +kernel, rfl, by decide +kernel, by decide +kernel⟩
theorem ok_copy (F : Fun K "_law_copy" "_law_copy" sCopy f fd) (B : Bt2 mg) : FnOk P w K mg base CX0 1 f fd ["plan"] spCopy := by
 refine F.ok scCopy (fun vs H Q E h => ?_) (fun cdv A outer s H vs Q E hr h => ?_)
 ·obtain ⟨t, a, b, ns, ss, rfl, _⟩ := h
  rfl
 obtain ⟨t, a, b, ns, ss, rfl, pl, q⟩ := h
 refine ⟨_, (@pss_one _ _ _ (ps_ret (pe_tup (pa_cons (pe_callTy call_list_of rfl B.list PyProof.Rows.boot_list (pa_cons (pe_ix ix_tup (pv 0) pe_int (fun _ _ => rfl)) pa_nil)) (pa_cons (pe_callTy call_list_of rfl B.list PyProof.Rows.boot_list (pa_cons (pe_ix ix_tup (pv 0) pe_int (fun _ _ => rfl)) pa_nil)) pa_nil))))), ?_⟩
 refine ⟨_, rfl, t, _, 0, _, rfl, rfl, SqT.of pl.t, rfl, a, _, rfl, .inl (SqL.of pl.a), fun a' ha => ?_⟩
 have s1 := Same.new ha (.lst (ns.map V.int))
 have p1 := pl.same s1
 refine ⟨_, rfl, t, _, 1, _, rfl, rfl, SqT.of p1.t, rfl, b, _, rfl, .inl (SqL.of p1.b), fun b' hb => ⟨two_le, fun t' ht => ?_⟩⟩
 have s2 := Same.new hb (.lst (ss.map V.int))
 have s3 := Same.new ht (.tup [.ref a', .ref b'])
 exact q t' a' b' _ (s1.trans (s2.trans s3)) (none_of_same (s1.trans s2) ht) ha (none_of_same s1 hb) (ne_of_none upd_same hb) ⟨upd_same, s3 _ _ (s2 _ _ upd_same), s3 _ _ upd_same, pl.ok⟩
theorem scAlw : FnScope ["plan"] ["plan"] (defScope sAlw) := ⟨rfl, rfl, rfl, by decide +kernel, rfl, by decide +kernel, by decide +kernel⟩
theorem ok_alw (F : Fun K "_law_all_ways" "_law_all_ways" sAlw f fd) (B : Bt3 mg)
  (GW : FnOk P w K mg base CX0 12 g1 gd1 ["plan", "last", "left", "ends", "known"] (spLW P w 11)) (bW : Binds K gd1 ["plan", "last", "left", "ends", "known"] []) (kW : Kee K g1) (mW : mg "_law_ways" = some (.ref g1)) :
  FnOk P w K mg base CX0 13 f fd ["plan"] (spCount fun ns ss => cntW ns ss false) := by
 refine F.ok scAlw (fun vs H Q E h => ?_) (fun cdv A outer s H vs Q E hr h => ?_)
 ·obtain ⟨t, a, b, ns, ss, rfl, _⟩ := h
  rfl
 obtain ⟨t, a, b, ns, ss, rfl, pl, q⟩ := h
 have h10 := pl.ok.n2
 have n1 := pl.ok.n1
 have wl := whole_lt h10
 have wp := Nat.one_lt_two_pow (n := ns.length) (by omega)
 refine ⟨_, (@pss_one _ _ _ (ps_ret (pe_call GW hr rfl mW kW bW .nil pass0 (pa_cons (pv 0) (pa_cons pe_non (pa_cons (pe_callTy call_tuple_of rfl B.tuple PyProof.Rows.boot_tuple (pa_cons (pe_ix ix_tup (pv 0) pe_int (fun _ _ => rfl)) pa_nil)) (pa_cons (pe_ix ix_tup (pv 0) pe_int (fun _ _ => rfl)) (pa_cons pe_nnew pa_nil)))))))), ?_⟩
 refine ⟨_, rfl, _, rfl, t, _, 0, _, rfl, rfl, SqT.of pl.t, rfl, a, _, rfl, .inl ⟨SqL.of pl.a, fun lf hlf => ?_⟩⟩
 have g1 := Same.new hlf (.tup (ns.map V.int))
 have pl1 := pl.same g1
 refine ⟨_, rfl, t, _, 0, _, rfl, rfl, SqT.of pl1.t, rfl, fun kn Hk hkn gk dk => ?_⟩
 have g2 : Same _ Hk := gk
 refine ⟨t, a, b, lf, a, kn, ns, ss, ns, List.range ns.length, endsP ns ss false, 2 ^ ns.length - 1, ns.length, [], by rw [lastO_n]; rfl, pl1.same g2, Nat.le_refl _, (fun _ => ⟨by omega, rfl⟩), by omega, Nat.lt_succ_of_le (cnt_le _ wl), by rw [lst_whole]; exact g2 _ _ upd_same, g2 _ _ pl1.a, fun e he => ?_, near_all pl.ok, dk, memoN_nil, fun H' kvs' ex _ _ => q H' fun c o hc => ?_⟩
 ·have : ns.contains (ns.getD e 0) = true := List.contains_iff_mem.mpr (List.mem_of_getElem? (getD_at he))
  rw [this]
  rfl
 ·have h1 := g1 _ _ hc
  exact ex _ _ (ne_of_none h1 hkn) (g2 _ _ h1)
end
def S1 (d : Addr) : Addr → Prop := fun b => b = d
structure Lv (d p : Addr) (H0 H : Hp) (bs : List (Addr × HO)) : Prop where
 D : Sto H d p
 pp : ∃ u, msk (S1 d) H0 p = some u
 G : Same (msk (S1 d) H0) (msk (S1 d) H)
 L : ∀ x ∈ bs, msk (S1 d) H x.1 = some x.2
 F : ∀ x ∈ bs, msk (S1 d) H0 x.1 = none
 nd : (bs.map Prod.fst).Nodup
theorem Sto.out3 {H : Hp} {d p x : Addr} (D : Sto H d p) (h : H x = none) : ¬ S1 d x := fun z => by
 obtain ⟨c, e⟩ := D.at_
 have z' : x = d := z
 rw [z', e] at h
 cases h
section
variable {d p : Addr} {H0 H : Hp} {bs : List (Addr × HO)}
theorem Lv.start (D : Sto H d p) : Lv d p H H [] := ⟨D, (by obtain ⟨xs, h, _⟩ := D.pl; exact ⟨_, by rw [msk_in (S := S1 d) D.ne]; exact h⟩), fun _ _ h => h, (fun _ h => nomatch h), (fun _ h => nomatch h), List.nodup_nil⟩
theorem Lv.new (h : Lv d p H0 H bs) {q : Addr} (hq : H q = none) (o : HO) : Lv d p H0 (upd H q o) ((q, o) :: bs) := by
 have sm : Same H (upd H q o) := Same.new hq o
 refine ⟨h.D.ex sm, h.pp, fun b u e => msk_same sm _ _ (h.G _ _ e), fun x hx => ?_, fun x hx => ?_, ?_⟩
 ·rcases List.mem_cons.mp hx with e | e
  ·rw [e]
   show msk (S1 d) (upd H q o) q = some o
   rw [msk_in (h.D.out3 hq)]
   exact upd_same
  ·exact msk_same sm _ _ (h.L x e)
 ·rcases List.mem_cons.mp hx with e | e
  ·rw [e]
   show msk (S1 d) H0 q = none
   cases z : msk (S1 d) H0 q with
   | none => rfl
   | some u =>
    have y := msk_le _ _ (h.G _ _ z)
    rw [hq] at y
    cases y
  ·exact h.F x e
 ·rw [List.map_cons, List.nodup_cons]
  refine ⟨fun z => ?_, h.nd⟩
  obtain ⟨x, hx, e⟩ := List.mem_map.mp z
  have y := msk_le _ _ (h.L x hx)
  rw [e] at y
  change H q = _ at y
  rw [hq] at y
  cases y
theorem Lv.mv (h : Lv d p H0 H bs) {H' : Hp} (D : Sto H' d p) (g : Same (msk (S1 d) H) (msk (S1 d) H')) : Lv d p H0 H' bs := ⟨D, h.pp, fun b u e => g _ _ (h.G _ _ e), fun x hx => g _ _ (h.L x hx), h.F, h.nd⟩
theorem off_msk {H' : Hp} (o : OffD d H H') : Same (msk (S1 d) H) (msk (S1 d) H') := fun b u e => by
 obtain ⟨n, e⟩ := msk_some e
 rw [msk_in n]
 exact (o b fun z => n z).trans e
theorem Lv.m (h : Lv d p H0 H bs) {q : Addr} {o : HO} (e : (q, o) ∈ bs) : msk (S1 d) H q = some o := h.L _ e
theorem Lv.at (h : Lv d p H0 H bs) {q : Addr} {o : HO} (e : (q, o) ∈ bs) : H q = some o := msk_le _ _ (h.L _ e)
theorem Lv.old (h : Lv d p H0 H bs) {q : Addr} {o : HO} (e : msk (S1 d) H0 q = some o) : H q = some o := msk_le _ _ (h.G _ _ e)
theorem Lv.perm {bs' : List (Addr × HO)} (h : Lv d p H0 H bs) (e : bs'.Perm bs) : Lv d p H0 H bs' :=
 ⟨h.D, h.pp, h.G, fun x hx => h.L x (e.mem_iff.mp hx), fun x hx => h.F x (e.mem_iff.mp hx), (e.map Prod.fst).nodup_iff.mpr h.nd⟩
theorem Lv.put {l : Addr} {o : HO} (h : Lv d p H0 H ((l, o) :: bs)) (o' : HO) : Lv d p H0 (upd H l o') ((l, o') :: bs) := by
 have hl := h.L _ List.mem_cons_self
 have hf := h.F _ List.mem_cons_self
 have hn := h.nd
 rw [List.map_cons, List.nodup_cons] at hn
 obtain ⟨nl, el⟩ := msk_some hl
 have keep : ∀ b u, b ≠ l → msk (S1 d) H b = some u → msk (S1 d) (upd H l o') b = some u := fun b u ne e => by
  obtain ⟨n, e⟩ := msk_some e
  rw [msk_in n, upd_ne ne]
  exact e
 have lp : p ≠ l := fun z => by
  obtain ⟨u, hu⟩ := h.pp
  rw [z] at hu
  change msk (S1 d) H0 l = none at hf
  rw [hf] at hu
  cases hu
 have ld : d ≠ l := fun z => nl z.symm
 have D2 : Sto (upd H l o') d p := ⟨(by obtain ⟨c, e⟩ := h.D.at_; exact ⟨c, by rw [upd_ne ld]; exact e⟩), (by obtain ⟨xs, e, r⟩ := h.D.pl; exact ⟨xs, by rw [upd_ne lp]; exact e, r⟩)⟩
 refine ⟨D2, h.pp, fun b u e => keep b u (fun z => ?_) (h.G _ _ e), fun x hx => ?_, fun x hx => ?_, ?_⟩
 ·rw [z] at e
  change msk (S1 d) H0 l = none at hf
  rw [hf] at e
  cases e
 ·rcases List.mem_cons.mp hx with e | e
  ·rw [e]
   show msk (S1 d) (upd H l o') l = some o'
   rw [msk_in nl]
   exact upd_same
  ·exact keep _ _ (fun z => hn.1 (List.mem_map.mpr ⟨x, e, z⟩)) (h.L x (List.mem_cons_of_mem _ e))
 ·rcases List.mem_cons.mp hx with e | e
  ·rw [e]; exact hf
  ·exact h.F x (List.mem_cons_of_mem _ e)
 ·rw [List.map_cons, List.nodup_cons]
  exact hn
end
theorem Lv.drop1 {d p : Addr} {H0 H : Hp} {bs : List (Addr × HO)} {x y : Addr × HO} (h : Lv d p H0 H (x :: y :: bs)) : Lv d p H0 H (x :: bs) := by
 have m : ∀ z, z ∈ x :: bs → z ∈ x :: y :: bs := fun z hz => by
  rcases List.mem_cons.mp hz with e | e
  ·rw [e]; exact List.mem_cons_self
  ·exact List.mem_cons_of_mem _ (List.mem_cons_of_mem _ e)
 exact ⟨h.D, h.pp, h.G, fun z hz => h.L z (m z hz), fun z hz => h.F z (m z hz), h.nd.sublist (List.Sublist.map _ (((List.Sublist.refl bs).cons y).cons_cons x))⟩
theorem Lv.drop2 {d p : Addr} {H0 H : Hp} {bs : List (Addr × HO)} {x y z : Addr × HO} (h : Lv d p H0 H (x :: y :: z :: bs)) : Lv d p H0 H (x :: bs) := (h.drop1).drop1
theorem cut_mem {xs : List V} {lo hi : Option Int} {x : V} (h : x ∈ cutV xs lo hi) : x ∈ xs := List.mem_of_mem_drop (List.mem_of_mem_take h)
structure QE (X : Cx) (e : Expr) (t : TE) : Prop where
 h : PE X e t
structure QA (X : Cx) (es : List Expr) (t : TA) : Prop where
 h : PA X es t
structure QI (X : Cx) (tg iter : Expr) (t : TI) : Prop where
 h : PI X tg iter t
structure QS (X : Cx) (st : Stmt) (t : TS) : Prop where
 h : PS X st t
structure QSs (X : Cx) (st : List Stmt) (t : TS) : Prop where
 h : PSs X st t
section
variable {X : Cx} {e tg : Expr} {es : List Expr} {te : TE} {t : TA} {pos : Pos} {st : Stmt} {rest : List Stmt} {u v : TS}
theorem qa_nil : QA X [] tNil := ⟨pa_nil⟩
theorem qa_cons (ha : QE X e te) (hr : QA X es t) (hs : starEach (e :: es) X.env = (false, eval e X.env) :: starEach es X.env := by rfl) : QA X (e :: es) (tCons te t) := ⟨pa_cons ha.h hr.h hs⟩
theorem qe_lst (h : QA X es t) : QE X (.List es pos) (tLst t) := ⟨pe_lst h.h⟩
theorem qe_tup {x1} (h : QA X es t) : QE X (.Tuple es x1 pos) (tTup t) := ⟨pe_tup h.h⟩
theorem qe_op {a b : Expr} {op : Operator} {ta tb : TE} {r : R2} (hr : OpR X (binaryOp op) r) (ha : QE X a ta) (hb : QE X b tb) : QE X (.BinOp a op b pos) (tOp r ta tb) := ⟨pe_op hr ha.h hb.h⟩
end
def NP (M : Hp) (v : V) : Prop := ∃ d, Dat M v d ∧ Fine 2000 4 d ∧ planD d = false
theorem NP.same {M M' : Hp} {v : V} (h : NP M v) (g : Same M M') : NP M' v := let ⟨d, a, b, c⟩ := h; ⟨d, a.same g, b, c⟩
def NR (M : Hp) (few : Nat) (x : V) : Prop := ∀ (a : Addr) (ns : List Int), x = .ref a → M a = some (.lst (ns.map V.int)) → Rise ns → few ≤ ns.length → ns.length ≤ 10 → False
theorem np_of {M : Hp} {v : V} (th : Th M v 2000 4) (h : ∀ (t a b : Addr) (ns ss : List Int), v = .ref t → IsPl M t a b ns ss → False) : NP M v := by
 obtain ⟨d, hd, f⟩ := th
 refine ⟨d, hd, f, ?_⟩
 cases c : planD d with
 | false => rfl
 | true =>
  obtain ⟨t, a, b, ns, ss, e, pl, _⟩ := plan_back hd c
  exact (h t a b ns ss e pl).elim
theorem np_pair {M : Hp} {q : Addr} {x y : V} (hq : M q = some (.tup [x, y])) (tx : Th M x 100 2) (ty : Th M y 100 2) (h : NR M 1 x ∨ NR M 0 y) : NP M (.ref q) := by
 refine np_of ((Th.tup (n := 100) (k := 2) hq fun z hz => ?_).mono (by show 2 * 101 ≤ 2000; decide) (by decide)) fun t a b ns ss e pl => ?_
 ·simp only [List.mem_cons, List.not_mem_nil, or_false] at hz
  rcases hz with e | e <;> rw [e]
  ·exact tx
  ·exact ty
 ·cases e
  have e := pl.t
  rw [hq] at e
  cases e
  rcases h with h | h
  ·exact h a ns rfl pl.a pl.ok.n pl.ok.n1 pl.ok.n2
  ·exact h b ss rfl pl.b pl.ok.s (Nat.zero_le _) pl.ok.s2
theorem np_tup {M : Hp} {q : Addr} {xs : List V} (hq : M q = some (.tup xs)) (tx : ∀ x ∈ xs, Th M x 100 2) (l : xs.length ≤ 5) (h : xs.length ≠ 2) : NP M (.ref q) := by
 refine np_of ((Th.tup (n := 100) (k := 2) hq tx).mono (by omega) (by decide)) fun t a b ns ss e pl => ?_
 cases e
 have e := pl.t
 rw [hq] at e
 cases e
 exact h rfl
theorem np_lst {M : Hp} {q : Addr} {xs : List V} (hq : M q = some (.lst xs)) (tx : ∀ x ∈ xs, Th M x 100 2) (l : xs.length ≤ 15) : NP M (.ref q) := by
 refine np_of ((Th.lst (n := 100) (k := 2) hq tx).mono (by omega) (by decide)) fun t a b ns ss e pl => ?_
 cases e
 have e := pl.t
 rw [hq] at e
 cases e
theorem np_dct {M : Hp} {q : Addr} (hq : M q = some (.dK [])) : NP M (.ref q) := by
 refine np_of (Th.dct hq) fun t a b ns ss e pl => ?_
 cases e
 have e := pl.t
 rw [hq] at e
 cases e
theorem np_flat {M : Hp} {v : V} (th : Th M v 2000 4) (h : ∀ t, v ≠ .ref t) : NP M v := np_of th fun t _ _ _ _ e _ => h t e
theorem nr_lst {M : Hp} {few : Nat} {a : Addr} {xs : List V} (ha : M a = some (.lst xs)) (h : ∀ ns : List Int, xs = ns.map V.int → Rise ns → few ≤ ns.length → ns.length ≤ 10 → False) : NR M few (.ref a) := fun b ns e hb r f l => by
 cases e
 rw [ha] at hb
 cases hb
 exact h ns rfl r f l
theorem nr_tup {M : Hp} {few : Nat} {a : Addr} {xs : List V} (ha : M a = some (.tup xs)) : NR M few (.ref a) := fun b ns e hb r f l => by
 cases e
 rw [ha] at hb
 cases hb
theorem nr_non {M : Hp} {few : Nat} : NR M few .non := fun b ns e => nomatch e
theorem no_neg {xs : List V} {x : V} (hx : x ∈ xs) (h : ∀ n : Int, x = .int n → n < 0) (ns : List Int) (e : xs = ns.map V.int) (r : Rise ns) : False := by
 rw [e] at hx
 obtain ⟨n, hn, e⟩ := List.mem_map.mp hx
 have := r.bd n hn
 have := h n e.symm
 omega
theorem no_last2 {cs : List V} {u w : Int} (ns : List Int) (e : cs ++ [.int u, .int w] = ns.map V.int) (r : Rise ns) : u < w := by
 obtain ⟨l1, l2, rfl, _, h2⟩ := List.map_eq_append_iff.mp e.symm
 have up := (List.pairwise_append.mp r.up).2.1
 match l2, h2 with
 | [a, b], h2 =>
  simp only [List.map_cons, List.map_nil, List.cons.injEq, V.int.injEq, and_true] at h2
  have := (List.pairwise_cons.mp up).1 b List.mem_cons_self
  omega
theorem th_some {M : Hp} {a : Addr} {xs : List V} (h : M a = some (.lst xs)) (l : xs.length ≤ 25) (b : ∀ x ∈ xs, Th M x 3 1) : Th M (.ref a) 100 2 := (Th.lst (n := 3) (k := 1) h b).mono (by omega) (by decide)
theorem th_some' {M : Hp} {a : Addr} {xs : List V} (h : M a = some (.tup xs)) (l : xs.length ≤ 25) (b : ∀ x ∈ xs, Th M x 3 1) : Th M (.ref a) 100 2 := (Th.tup (n := 3) (k := 1) h b).mono (by omega) (by decide)
theorem st_eq {t : TS} {D : Ends} {σ σ' : L2.St} {H : Hp} (e : σ = σ') (h : t D σ' H) : t D σ H := by rw [e]; exact h
theorem dup_cut {zs : List Int} {r y : Int} {c1 c2 : List V} (up : zs.Pairwise (· < ·)) (r0 : 0 ≤ r) (r1 : r < (zs.length : Nat)) (hy : atI (zs.map V.int) r = some (.int y)) (h1 : cutV (zs.map V.int) none (some r) = c1) (h2 : cutV (zs.map V.int) (some r) none = c2) (ns : List Int) (e : (c1 ++ [.int y]) ++ c2 = ns.map V.int) (rs : Rise ns) : False := by
 have my : V.int y ∈ c2 := by
  rw [← h2]
  have er : r = ((r.toNat : Nat) : Int) := by omega
  unfold cutV
  rw [HT.sIx_none]
  rw [er] at hy ⊢
  rw [HT.sIx_nat]
  have hlt : r.toNat < (zs.map V.int).length := by rw [List.length_map]; omega
  rw [Nat.min_eq_left (Nat.le_of_lt hlt), ← List.length_drop, List.take_length]
  rw [atI_nat (List.getElem?_eq_getElem hlt)] at hy
  have hy' := Option.some.inj hy
  rw [← hy', List.drop_eq_getElem_cons hlt]
  exact List.mem_cons_self
 obtain ⟨l1, l2, rfl, e1, e2⟩ := List.map_eq_append_iff.mp e.symm
 rw [← e2] at my
 obtain ⟨z, hz, ez⟩ := List.mem_map.mp my
 have ez := V.int.inj ez
 have m1 : V.int y ∈ l1.map V.int := by rw [e1]; exact List.mem_append_right _ List.mem_cons_self
 obtain ⟨z', hz', ez'⟩ := List.mem_map.mp m1
 have ez' := V.int.inj ez'
 have := (List.pairwise_append.mp rs.up).2.2 z' hz' z hz
 omega
theorem turn_cut {zs : List Int} {r y y2 : Int} {c1 c2 : List V} (up : zs.Pairwise (· < ·)) (r0 : 0 ≤ r) (r1 : r < (zs.length : Int) - 1) (hy : atI (zs.map V.int) (1 + r) = some (.int y)) (hy2 : atI (zs.map V.int) ((1 + r) - 1) = some (.int y2)) (ns : List Int) (e : (c1 ++ [.int y, .int y2]) ++ c2 = ns.map V.int) (rs : Rise ns) : False := by
 have e1 : 1 + r = ((r.toNat + 1 : Nat) : Int) := by omega
 have e2 : (1 + r) - 1 = ((r.toNat : Nat) : Int) := by omega
 have h1 : r.toNat + 1 < zs.length := by omega
 have h2 : r.toNat < zs.length := by omega
 rw [e1, atI_nat (by rw [List.getElem?_map, List.getElem?_eq_getElem h1]; rfl)] at hy
 rw [e2, atI_nat (by rw [List.getElem?_map, List.getElem?_eq_getElem h2]; rfl)] at hy2
 have hy := V.int.inj (Option.some.inj hy)
 have hy2 := V.int.inj (Option.some.inj hy2)
 have lt : zs[r.toNat] < zs[r.toNat + 1] := List.pairwise_iff_getElem.mp up _ _ h2 h1 (by omega)
 obtain ⟨l1, l2, rfl, e3, _⟩ := List.map_eq_append_iff.mp e.symm
 have rs1 : Rise l1 := ⟨(List.pairwise_append.mp rs.up).1, fun x hx => rs.bd x (List.mem_append_left _ hx)⟩
 have := no_last2 l1 e3.symm rs1
 omega
abbrev sNls : Stmt := top 53
def spNls : Sp := fun vs H Q _ => ∃ (d p a : Addr) (zs : List Int), vs = [.ref d, .ref a] ∧ Sto H d p ∧ msk (S1 d) H a = some (.lst (zs.map V.int)) ∧ zs.length ≤ 10 ∧ Rise zs ∧ (∀ x ∈ zs, x < 10 ^ 29) ∧
 ∀ (v : V) (H' : Hp), Sto H' d p → Same (msk (S1 d) H) (msk (S1 d) H') → Th (msk (S1 d) H') v 100 2 → NR (msk (S1 d) H') 0 v → Q v H'
def BadL (zs : List Int) (v1 : V) (c : List V) : Prop := c.length ≤ 25 ∧ (∀ x ∈ c, x ∈ zs.map V.int ∨ x = v1) ∧ ∀ ns : List Int, c = ns.map V.int → Rise ns → False
def ItemL (zs : List Int) (v1 : V) (qt qd : Addr) (bs : List (Addr × HO)) (x : V) : Prop := x = .ref qt ∨ x = .non ∨ x = .int 5 ∨ x = .ref qd ∨ x = .str "" ∨ ∃ u c, x = .ref u ∧ (u, HO.lst c) ∈ bs ∧ BadL zs v1 c
theorem ItemL.more {zs : List Int} {v1 : V} {qt qd : Addr} {bs bs' : List (Addr × HO)} {x : V} (h : ItemL zs v1 qt qd bs x) (g : ∀ z ∈ bs, z ∈ bs') : ItemL zs v1 qt qd bs' x := by
 rcases h with h | h | h | h | h | ⟨u, c, h1, h2, h3⟩
 ·exact .inl h
 ·exact .inr (.inl h)
 ·exact .inr (.inr (.inl h))
 ·exact .inr (.inr (.inr (.inl h)))
 ·exact .inr (.inr (.inr (.inr (.inl h))))
 ·exact .inr (.inr (.inr (.inr (.inr ⟨u, c, h1, g _ h2, h3⟩))))
theorem ItemL.of {zs : List Int} {v1 : V} {qt qd u : Addr} {bs : List (Addr × HO)} {c : List V} (h2 : (u, HO.lst c) ∈ bs) (h3 : BadL zs v1 c) : ItemL zs v1 qt qd bs (.ref u) := .inr (.inr (.inr (.inr (.inr ⟨u, c, rfl, h2, h3⟩))))
section
variable {f tk : Addr} {fd tkd : FuncData}
theorem scNls : FnScope ["store", "row", "at", "odd", "bad", "some", "to", "turned"] ["store", "row"] (defScope sNls) := ⟨rfl, rfl, rfl, by decide +kernel, rfl, by decide +kernel, by decide +kernel⟩
set_option maxHeartbeats 0 in
theorem ok_nls (F : Fun K "_law_no_list" "_law_no_list" sNls f fd) (B : BtR mg) (GT : FnOk P w K mg base CX0 1 tk tkd ["store", "many"] spTk) (bT : Binds K tkd ["store", "many"] []) (kT : Kee K tk) (mT : mg "_law_take" = some (.ref tk)) : FnOk P w K mg base CX0 2 f fd ["store", "row"] spNls := by
 refine F.ok scNls (fun vs H Q E h => ?_) (fun cdv A outer s H0 vs Q E hr h => ?_)
 ·obtain ⟨d, p, a, zs, rfl, _⟩ := h
  rfl
 obtain ⟨d, p, a, zs, rfl, D, ha, z10, rz, bz, q⟩ := h
 refine ⟨_, (@pss_cons _ _ _ _ _ (ps_set (i := 2) scNls.nd rfl (Or.inl rfl) (pe_call GT hr rfl mT kT bT .nil pass0 (QA.h (qa_cons (QE.mk (pv 0)) (qa_cons (qe_op op_add (QE.mk (pe_callB call_len_seq rfl B.len PySem.boot_len (QA.h (qa_cons (QE.mk (pv 1)) qa_nil)))) (QE.mk pe_int)) qa_nil))))) (@pss_cons _ _ _ _ _ (ps_set (i := 3) scNls.nd rfl (Or.inl rfl) (QE.h (qe_lst (qa_cons (QE.mk (pe_un un_neg pe_int)) (qa_cons (QE.mk pe_bl) (qa_cons (QE.mk pe_bl) (qa_cons (QE.mk pe_non) (qa_cons (QE.mk pe_str) (qa_cons (qe_lst (qa_cons (QE.mk pe_int) qa_nil)) (qa_cons (qe_tup (qa_cons (QE.mk pe_int) qa_nil)) (qa_cons (QE.mk pe_dnewK) (qa_cons (qe_op op_sub (QE.mk pe_int) (qe_op op_pow (QE.mk pe_int) (QE.mk pe_int))) (qa_cons (qe_op op_sub (QE.mk (pe_un un_neg pe_int)) (QE.mk (pe_call GT hr rfl mT kT bT .nil pass0 (QA.h (qa_cons (QE.mk (pv 0)) (qa_cons (QE.mk pe_int) qa_nil)))))) qa_nil))))))))))))) (@pss_cons _ _ _ _ _ (ps_set (i := 3) scNls.nd rfl (Or.inl rfl) (pe_ix ix_list (pv 3) (pe_call GT hr rfl mT kT bT .nil pass0 (QA.h (qa_cons (QE.mk (pv 0)) (qa_cons (QE.mk pe_int) qa_nil)))) (fun _ _ => rfl))) (@pss_cons _ _ _ _ _ (ps_set (i := 4) scNls.nd rfl (Or.inl rfl) (QE.h (qe_op op_cat (qe_op op_cat (QE.mk (pe_slice sl_list (pv 1) po_none (po_some (pv 2)))) (qe_lst (qa_cons (QE.mk (pv 3)) qa_nil))) (QE.mk (pe_slice sl_list (pv 1) (po_some (pv 2)) po_none))))) (@pss_cons _ _ _ _ _ (ps_set (i := 5) scNls.nd rfl (Or.inl rfl) (QE.h (qe_lst (qa_cons (QE.mk (pv 4)) (qa_cons (QE.mk (pv 4)) (qa_cons (QE.mk (pv 4)) (qa_cons (QE.mk (pe_callTy call_tuple_of rfl B.tuple PyProof.Rows.boot_tuple (QA.h (qa_cons (QE.mk (pv 1)) qa_nil)))) (qa_cons (QE.mk pe_non) (qa_cons (QE.mk pe_int) (qa_cons (QE.mk pe_dnewK) (qa_cons (QE.mk pe_str) qa_nil))))))))))) (@pss_cons _ _ _ _ _ (ps_if (pt_cmpR (op_neD hr.units) (pv 1) (pe_lst pa_nil) (nomark _)) (@pss_cons _ _ _ _ _ (ps_set (i := 2) scNls.nd rfl (Or.inl rfl) (pe_call GT hr rfl mT kT bT .nil pass0 (QA.h (qa_cons (QE.mk (pv 0)) (qa_cons (QE.mk (pe_callB call_len_seq rfl B.len PySem.boot_len (QA.h (qa_cons (QE.mk (pv 1)) qa_nil)))) qa_nil))))) (@pss_cons _ _ _ _ _ (ps_expr (pe_bm PySem.F.plainAttrs_list PySem.F.slot_list_append PySem.F.type_list_append mt_append (pv 5) (QA.h (qa_cons (qe_op op_cat (qe_op op_cat (QE.mk (pe_slice sl_list (pv 1) po_none (po_some (pv 2)))) (qe_lst (qa_cons (QE.mk (pe_ix ix_list (pv 1) (pv 2) (fun _ _ => rfl))) qa_nil))) (QE.mk (pe_slice sl_list (pv 1) (po_some (pv 2)) po_none))) qa_nil)))) (@pss_one _ _ _ (ps_expr (pe_bm PySem.F.plainAttrs_list PySem.F.slot_list_append PySem.F.type_list_append mt_append (pv 5) (QA.h (qa_cons (qe_op op_cat (qe_op op_cat (QE.mk (pe_slice sl_list (pv 1) po_none (po_some (pv 2)))) (qe_lst (qa_cons (QE.mk (pv 3)) qa_nil))) (QE.mk (pe_slice sl_list (pv 1) (po_some (pe_op op_add (pv 2) pe_int)) po_none))) qa_nil))))))) pss_nil) (@pss_cons _ _ _ _ _ (ps_if (pt_cmpR op_gt (pe_callB call_len_seq rfl B.len PySem.boot_len (QA.h (qa_cons (QE.mk (pv 1)) qa_nil))) pe_int (nomark _)) (@pss_cons _ _ _ _ _ (ps_set (i := 6) scNls.nd rfl (Or.inl rfl) (QE.h (qe_op op_add (QE.mk pe_int) (QE.mk (pe_call GT hr rfl mT kT bT .nil pass0 (QA.h (qa_cons (QE.mk (pv 0)) (qa_cons (qe_op op_sub (QE.mk (pe_callB call_len_seq rfl B.len PySem.boot_len (QA.h (qa_cons (QE.mk (pv 1)) qa_nil)))) (QE.mk pe_int)) qa_nil)))))))) (@pss_cons _ _ _ _ _ (ps_set (i := 7) scNls.nd rfl (Or.inl rfl) (QE.h (qe_op op_cat (qe_op op_cat (QE.mk (pe_slice sl_list (pv 1) po_none (po_some (pe_op op_sub (pv 6) pe_int)))) (qe_lst (qa_cons (QE.mk (pe_ix ix_list (pv 1) (pv 6) (fun _ _ => rfl))) (qa_cons (QE.mk (pe_ix ix_list (pv 1) (pe_op op_sub (pv 6) pe_int) (fun _ _ => rfl))) qa_nil)))) (QE.mk (pe_slice sl_list (pv 1) (po_some (pe_op op_add (pv 6) pe_int)) po_none))))) (@pss_one _ _ _ (ps_set (i := 5) scNls.nd rfl (Or.inl rfl) (QE.h (qe_op op_cat (QE.mk (pv 5)) (qe_lst (qa_cons (QE.mk (pv 7)) (qa_cons (QE.mk (pv 7)) qa_nil))))))))) pss_nil) (@pss_one _ _ _ (ps_ret (pe_ix ix_list (pv 5) (pe_call GT hr rfl mT kT bT .nil pass0 (QA.h (qa_cons (QE.mk (pv 0)) (qa_cons (QE.mk (pe_callB call_len_seq rfl B.len PySem.boot_len (QA.h (qa_cons (QE.mk (pv 5)) qa_nil)))) qa_nil)))) (fun _ _ => rfl))))))))))), ?_⟩
 have L0 : Lv d p H0 H0 [] := Lv.start D
 refine ⟨_, rfl, _, rfl, a, _, rfl, .inl (SqL.of (L0.old ha)), _, _, rfl, rfl, d, p, _, rfl, L0.D, (by (try simp only [List.length_append, List.length_cons, List.length_nil, List.length_map, List.length_reverse]); omega), ?_⟩
 intro r1 H1 r10 r11 D1 o1
 have L1 := L0.mv D1 (off_msk o1)
 clear L0 D1 o1
 simp only [List.length_append, List.length_cons, List.length_nil, List.length_map] at r11
 refine ⟨_, rfl, (by show 1 ≤ sizeLine; decide), ?_⟩
 intro q1 hq1
 have L2 := L1.new hq1 (.lst [.int 1])
 generalize upd H1 q1 (.lst [.int 1]) = H2 at L2 ⊢
 clear L1 hq1
 refine ⟨(by show 1 ≤ sizeLine; decide), ?_⟩
 intro q2 hq2
 have L3 := L2.new hq2 (.tup [.int 1])
 generalize upd H2 q2 (.tup [.int 1]) = H3 at L3 ⊢
 clear L2 hq2
 intro q3 hq3
 have L4 := L3.new hq3 (.dK [])
 generalize upd H3 q3 (.dK []) = H4 at L4 ⊢
 clear L3 hq3
 refine ⟨_, _, rfl, rfl, ⟨by decide, by decide, by decide⟩, _, _, rfl, rfl, _, rfl, _, rfl, d, p, _, rfl, L4.D, by decide, ?_⟩
 intro r2 H5 r20 r21 D5 o5
 have L5 := L4.mv D5 (off_msk o5)
 clear L4 D5 o5
 refine ⟨_, _, rfl, rfl, (by show 10 ≤ sizeLine; decide), ?_⟩
 intro q4 hq4
 have L6 := L5.new hq4 (.lst [.int (-1), .bl true, .bl false, .non, .str "1", .ref q1, .ref q2, .ref q3, .int (0 - ((10 : Int) ^ (25 : Int).toNat)), .int ((-1) - r2)])
 generalize upd H5 q4 (.lst [.int (-1), .bl true, .bl false, .non, .str "1", .ref q1, .ref q2, .ref q3, .int (0 - ((10 : Int) ^ (25 : Int).toNat)), .int ((-1) - r2)]) = H6 at L6 ⊢
 clear L5 hq4
 refine ⟨_, rfl, _, rfl, d, p, _, rfl, L6.D, by decide, ?_⟩
 intro r3 H7 r30 r31 D7 o7
 have L7 := L6.mv D7 (off_msk o7)
 clear L6 D7 o7
 obtain ⟨v1, hv1, mv1⟩ := pick_any (xs := [(.int (-1) : V), (.bl true : V), (.bl false : V), (.non : V), (.str "1" : V), (.ref q1 : V), (.ref q2 : V), (.ref q3 : V), (.int (0 - ((10 : Int) ^ (25 : Int).toNat)) : V), (.int ((-1) - r2) : V)]) r30 r31
 refine ⟨q4, _, r3, v1, rfl, rfl, SqL.of (L7.at (by repeat (first | exact List.mem_cons_self | apply List.mem_cons_of_mem))), hv1, ?_⟩
 refine ⟨_, rfl, _, rfl, _, rfl, a, _, rfl, SqL.of (L7.old ha), ?_⟩
 have lc2 : (cutV (zs.map V.int) none (some r1)).length ≤ ((zs.map V.int)).length := cutV_length _ _ _
 have mc2 : ∀ x ∈ cutV (zs.map V.int) none (some r1), x ∈ (zs.map V.int) := fun x hx => cut_mem hx
 generalize hc2 : cutV (zs.map V.int) none (some r1) = c2 at lc2 mc2 ⊢
 (try simp only [List.length_map, List.length_append, List.length_cons, List.length_nil] at lc2)
 intro q5 hq5
 have L8 := L7.new hq5 (.lst c2)
 generalize upd H7 q5 (.lst c2) = H8 at L8 ⊢
 clear L7 hq5
 refine ⟨_, rfl, (by show 1 ≤ sizeLine; decide), ?_⟩
 intro q6 hq6
 have L9 := L8.new hq6 (.lst [v1])
 generalize upd H8 q6 (.lst [v1]) = H9 at L9 ⊢
 clear L8 hq6
 refine ⟨q5, q6, _, _, rfl, rfl, L9.at (by repeat (first | exact List.mem_cons_self | apply List.mem_cons_of_mem)), L9.at (by repeat (first | exact List.mem_cons_self | apply List.mem_cons_of_mem)), small (by (try simp only [List.length_append, List.length_cons, List.length_nil, List.length_map, List.length_reverse]); omega), ?_⟩
 intro q7 hq7
 have L10 := L9.new hq7 (.lst (c2 ++ [v1]))
 generalize upd H9 q7 (.lst (c2 ++ [v1])) = H10 at L10 ⊢
 clear L9 hq7
 replace L10 := L10.drop2
 refine ⟨_, rfl, _, rfl, _, rfl, a, _, rfl, SqL.of (L10.old ha), ?_⟩
 have lc3 : (cutV (zs.map V.int) (some r1) none).length ≤ ((zs.map V.int)).length := cutV_length _ _ _
 have mc3 : ∀ x ∈ cutV (zs.map V.int) (some r1) none, x ∈ (zs.map V.int) := fun x hx => cut_mem hx
 generalize hc3 : cutV (zs.map V.int) (some r1) none = c3 at lc3 mc3 ⊢
 (try simp only [List.length_map, List.length_append, List.length_cons, List.length_nil] at lc3)
 intro q8 hq8
 have L11 := L10.new hq8 (.lst c3)
 generalize upd H10 q8 (.lst c3) = H11 at L11 ⊢
 clear L10 hq8
 refine ⟨q7, q8, _, _, rfl, rfl, L11.at (by repeat (first | exact List.mem_cons_self | apply List.mem_cons_of_mem)), L11.at (by repeat (first | exact List.mem_cons_self | apply List.mem_cons_of_mem)), small (by (try simp only [List.length_append, List.length_cons, List.length_nil, List.length_map, List.length_reverse]); omega), ?_⟩
 intro q9 hq9
 have L12 := L11.new hq9 (.lst ((c2 ++ [v1]) ++ c3))
 generalize upd H11 q9 (.lst ((c2 ++ [v1]) ++ c3)) = H12 at L12 ⊢
 clear L11 hq9
 replace L12 := L12.drop2
 refine ⟨_, rfl, _, rfl, _, rfl, _, rfl, a, _, rfl, .inl ⟨SqL.of (L12.old ha), ?_⟩⟩
 intro q10 hq10
 have L13 := L12.new hq10 (.tup ((zs.map V.int)))
 generalize upd H12 q10 (.tup ((zs.map V.int))) = H13 at L13 ⊢
 clear L12 hq10
 intro q11 hq11
 have L14 := L13.new hq11 (.dK [])
 generalize upd H13 q11 (.dK []) = H14 at L14 ⊢
 clear L13 hq11
 refine ⟨(by show 8 ≤ sizeLine; decide), ?_⟩
 intro q12 hq12
 have L15 := L14.new hq12 (.lst [.ref q9, .ref q9, .ref q9, .ref q10, .non, .int 5, .ref q11, .str ""])
 generalize upd H14 q12 (.lst [.ref q9, .ref q9, .ref q9, .ref q10, .non, .int 5, .ref q11, .str ""]) = H15 at L15 ⊢
 clear L14 hq12
 have neg1 : ∀ n : Int, v1 = .int n → n < 0 := by
  simp only [List.mem_cons, List.not_mem_nil, or_false] at mv1
  rcases mv1 with e | e | e | e | e | e | e | e | e | e <;> rw [e] <;> intro n h <;> cases h
  ·decide
  ·decide
  ·omega
 have bad9 : BadL zs v1 ((c2 ++ [v1]) ++ c3) := ⟨by simp only [List.length_append, List.length_cons, List.length_nil]; omega, fun x hx => by
  rcases List.mem_append.mp hx with h | h
  ·rcases List.mem_append.mp h with h | h
   ·exact .inl (mc2 x h)
   ·exact .inr (List.mem_singleton.mp h)
  ·exact .inl (mc3 x h), fun ns e r => no_neg (x := v1) (List.mem_append_left _ (List.mem_append_right _ List.mem_cons_self)) neg1 ns e r⟩
 obtain ⟨bs, hbs⟩ : ∃ bs : List (Addr × HO), bs = [(q11, .dK []), (q10, .tup (zs.map V.int)), (q9, .lst ((c2 ++ [v1]) ++ c3)), (q4, .lst [.int (-1), .bl true, .bl false, .non, .str "1", .ref q1, .ref q2, .ref q3, .int (0 - ((10 : Int) ^ (25 : Int).toNat)), .int ((-1) - r2)]), (q3, .dK []), (q2, .tup [.int 1]), (q1, .lst [.int 1])] := ⟨_, rfl⟩
 have b11 : (q11, HO.dK []) ∈ bs := by rw [hbs]; exact (by repeat (first | exact List.mem_cons_self | apply List.mem_cons_of_mem))
 have b10 : (q10, HO.tup (zs.map V.int)) ∈ bs := by rw [hbs]; exact (by repeat (first | exact List.mem_cons_self | apply List.mem_cons_of_mem))
 have b9 : (q9, HO.lst ((c2 ++ [v1]) ++ c3)) ∈ bs := by rw [hbs]; exact (by repeat (first | exact List.mem_cons_self | apply List.mem_cons_of_mem))
 have b3 : (q3, HO.dK []) ∈ bs := by rw [hbs]; exact (by repeat (first | exact List.mem_cons_self | apply List.mem_cons_of_mem))
 have b2 : (q2, HO.tup [.int 1]) ∈ bs := by rw [hbs]; exact (by repeat (first | exact List.mem_cons_self | apply List.mem_cons_of_mem))
 have b1 : (q1, HO.lst [.int 1]) ∈ bs := by rw [hbs]; exact (by repeat (first | exact List.mem_cons_self | apply List.mem_cons_of_mem))
 replace L15 : Lv d p H0 H15 ((q12, .lst [.ref q9, .ref q9, .ref q9, .ref q10, .non, .int 5, .ref q11, .str ""]) :: bs) := by rw [hbs]; exact L15
 clear hbs
 have it0 : ∀ x ∈ [(.ref q9 : V), .ref q9, .ref q9, .ref q10, .non, .int 5, .ref q11, .str ""], ItemL zs v1 q10 q11 bs x := fun x hx => by
  simp only [List.mem_cons, List.not_mem_nil, or_false] at hx
  rcases hx with e | e | e | e | e | e | e | e <;> rw [e]
  ·exact .of b9 bad9
  ·exact .of b9 bad9
  ·exact .of b9 bad9
  ·exact .inl rfl
  ·exact .inr (.inl rfl)
  ·exact .inr (.inr (.inl rfl))
  ·exact .inr (.inr (.inr (.inl rfl)))
  ·exact .inr (.inr (.inr (.inr (.inl rfl))))
 have lx0 : [(.ref q9 : V), .ref q9, .ref q9, .ref q10, .non, .int 5, .ref q11, .str ""].length = 8 := rfl
 generalize [(.ref q9 : V), .ref q9, .ref q9, .ref q10, .non, .int 5, .ref q11, .str ""] = xs at L15 it0 lx0
 dsimp only [gName]
 refine st_eq (σ' := [some (.ref d), some (.ref a), some (.int r1), some v1, some (.ref q9), some (.ref q12), none, none]) rfl ?_
 refine seq_post (fun σ' H' => ∃ (y2 : Option V) (xs : List V) (bs : List (Addr × HO)), σ' = [some (.ref d), some (.ref a), y2, some v1, some (.ref q9), some (.ref q12), none, none] ∧ Lv d p H0 H' ((q12, .lst xs) :: bs) ∧ 1 ≤ xs.length ∧ xs.length ≤ 10 ∧ (∀ x ∈ xs, ItemL zs v1 q10 q11 bs x) ∧ (q11, HO.dK []) ∈ bs ∧ (q10, HO.tup (zs.map V.int)) ∈ bs ∧ (q3, HO.dK []) ∈ bs ∧ (q2, HO.tup [.int 1]) ∈ bs ∧ (q1, HO.lst [.int 1]) ∈ bs) (fun N hN => ?_) ?_
 ·refine ⟨_, rfl, (by show 0 ≤ sizeLine; decide), ?_⟩
  intro e0 he0
  have L16 := L15.new he0 (.lst [])
  generalize upd H15 e0 (.lst []) = H20 at L16 ⊢
  refine ⟨_, rcv_nil (SqL.of (L16.old ha)) (SqL.of (L16.at (by repeat (first | exact List.mem_cons_self | apply List.mem_cons_of_mem)))), _, rfl, ite2 (fun c => ?_) (fun c => ?_)⟩
  ·have z1 : 1 ≤ zs.length := by
    cases zs with
    | nil => exact absurd c (by decide)
    | cons x r => exact Nat.succ_le_succ (Nat.zero_le _)
   have L20 := (L16.perm (List.Perm.swap _ _ _)).drop1
   refine ⟨_, rfl, _, rfl, a, _, rfl, .inl (SqL.of (L20.old ha)), d, p, _, rfl, L20.D, (by (try simp only [List.length_append, List.length_cons, List.length_nil, List.length_map, List.length_reverse]); omega), ?_⟩
   intro r1 H21 r10 r11 D21 o21
   have L21 := L20.mv D21 (off_msk o21)
   clear L20 D21 o21
   simp only [List.length_append, List.length_cons, List.length_nil, List.length_map] at r11
   obtain ⟨y, hy, my⟩ := pick_int zs r10 (by omega)
   refine ⟨_, rfl, .inl ⟨rfl, _, SqL.of (L21.at (by repeat (first | exact List.mem_cons_self | apply List.mem_cons_of_mem)))⟩, _, rfl, _, rfl, _, rfl, a, _, rfl, SqL.of (L21.old ha), ?_⟩
   have lc1 : (cutV (zs.map V.int) none (some r1)).length ≤ ((zs.map V.int)).length := cutV_length _ _ _
   have mc1 : ∀ x ∈ cutV (zs.map V.int) none (some r1), x ∈ (zs.map V.int) := fun x hx => cut_mem hx
   generalize hc1 : cutV (zs.map V.int) none (some r1) = c1 at lc1 mc1 ⊢
   (try simp only [List.length_map, List.length_append, List.length_cons, List.length_nil] at lc1)
   intro u1 hu1
   have L22 := L21.new hu1 (.lst c1)
   generalize upd H21 u1 (.lst c1) = H22 at L22 ⊢
   clear L21 hu1
   refine ⟨_, rfl, _, rfl, a, _, r1, .int y, rfl, rfl, SqL.of (L22.old ha), hy, (by show 1 ≤ sizeLine; decide), ?_⟩
   intro u2 hu2
   have L23 := L22.new hu2 (.lst [.int y])
   generalize upd H22 u2 (.lst [.int y]) = H23 at L23 ⊢
   clear L22 hu2
   refine ⟨u1, u2, _, _, rfl, rfl, L23.at (by repeat (first | exact List.mem_cons_self | apply List.mem_cons_of_mem)), L23.at (by repeat (first | exact List.mem_cons_self | apply List.mem_cons_of_mem)), small (by (try simp only [List.length_append, List.length_cons, List.length_nil, List.length_map, List.length_reverse]); omega), ?_⟩
   intro u3 hu3
   have L24 := L23.new hu3 (.lst (c1 ++ [.int y]))
   generalize upd H23 u3 (.lst (c1 ++ [.int y])) = H24 at L24 ⊢
   clear L23 hu3
   replace L24 := L24.drop2
   refine ⟨_, rfl, _, rfl, _, rfl, a, _, rfl, SqL.of (L24.old ha), ?_⟩
   have lc2 : (cutV (zs.map V.int) (some r1) none).length ≤ ((zs.map V.int)).length := cutV_length _ _ _
   have mc2 : ∀ x ∈ cutV (zs.map V.int) (some r1) none, x ∈ (zs.map V.int) := fun x hx => cut_mem hx
   generalize hc2 : cutV (zs.map V.int) (some r1) none = c2 at lc2 mc2 ⊢
   (try simp only [List.length_map, List.length_append, List.length_cons, List.length_nil] at lc2)
   intro u4 hu4
   have L25 := L24.new hu4 (.lst c2)
   generalize upd H24 u4 (.lst c2) = H25 at L25 ⊢
   clear L24 hu4
   refine ⟨u3, u4, _, _, rfl, rfl, L25.at (by repeat (first | exact List.mem_cons_self | apply List.mem_cons_of_mem)), L25.at (by repeat (first | exact List.mem_cons_self | apply List.mem_cons_of_mem)), small (by (try simp only [List.length_append, List.length_cons, List.length_nil, List.length_map, List.length_reverse]); omega), ?_⟩
   intro u5 hu5
   have L26 := L25.new hu5 (.lst ((c1 ++ [.int y]) ++ c2))
   generalize upd H25 u5 (.lst ((c1 ++ [.int y]) ++ c2)) = H26 at L26 ⊢
   clear L25 hu5
   replace L26 := L26.drop2
   refine ⟨q12, _, _, rfl, rfl, L26.at (by repeat (first | exact List.mem_cons_self | apply List.mem_cons_of_mem)), (by (try simp only [List.length_append, List.length_cons, List.length_nil]); exact Nat.lt_of_lt_of_le (m := 100) (by omega) (by decide)), ?_⟩
   have L27 := (L26.perm (List.Perm.swap _ _ _)).put (.lst (xs ++ [.ref u5]))
   generalize upd H26 q12 (.lst (xs ++ [.ref u5])) = H27 at L27 ⊢
   refine ⟨_, rfl, .inl ⟨rfl, _, SqL.of (L27.at (by repeat (first | exact List.mem_cons_self | apply List.mem_cons_of_mem)))⟩, _, rfl, _, rfl, _, rfl, a, _, rfl, SqL.of (L27.old ha), ?_⟩
   rw [hc1]
   intro u6 hu6
   have L28 := L27.new hu6 (.lst c1)
   generalize upd H27 u6 (.lst c1) = H28 at L28 ⊢
   clear L27 hu6
   refine ⟨_, rfl, (by show 1 ≤ sizeLine; decide), ?_⟩
   intro u7 hu7
   have L29 := L28.new hu7 (.lst [v1])
   generalize upd H28 u7 (.lst [v1]) = H29 at L29 ⊢
   clear L28 hu7
   refine ⟨u6, u7, _, _, rfl, rfl, L29.at (by repeat (first | exact List.mem_cons_self | apply List.mem_cons_of_mem)), L29.at (by repeat (first | exact List.mem_cons_self | apply List.mem_cons_of_mem)), small (by (try simp only [List.length_append, List.length_cons, List.length_nil, List.length_map, List.length_reverse]); omega), ?_⟩
   intro u8 hu8
   have L30 := L29.new hu8 (.lst (c1 ++ [v1]))
   generalize upd H29 u8 (.lst (c1 ++ [v1])) = H30 at L30 ⊢
   clear L29 hu8
   replace L30 := L30.drop2
   refine ⟨_, rfl, _, rfl, _, _, rfl, rfl, _, rfl, a, _, rfl, SqL.of (L30.old ha), ?_⟩
   have lc3 : (cutV (zs.map V.int) (some (r1 + 1)) none).length ≤ ((zs.map V.int)).length := cutV_length _ _ _
   have mc3 : ∀ x ∈ cutV (zs.map V.int) (some (r1 + 1)) none, x ∈ (zs.map V.int) := fun x hx => cut_mem hx
   generalize hc3 : cutV (zs.map V.int) (some (r1 + 1)) none = c3 at lc3 mc3 ⊢
   (try simp only [List.length_map, List.length_append, List.length_cons, List.length_nil] at lc3)
   intro u9 hu9
   have L31 := L30.new hu9 (.lst c3)
   generalize upd H30 u9 (.lst c3) = H31 at L31 ⊢
   clear L30 hu9
   refine ⟨u8, u9, _, _, rfl, rfl, L31.at (by repeat (first | exact List.mem_cons_self | apply List.mem_cons_of_mem)), L31.at (by repeat (first | exact List.mem_cons_self | apply List.mem_cons_of_mem)), small (by (try simp only [List.length_append, List.length_cons, List.length_nil, List.length_map, List.length_reverse]); omega), ?_⟩
   intro u10 hu10
   have L32 := L31.new hu10 (.lst ((c1 ++ [v1]) ++ c3))
   generalize upd H31 u10 (.lst ((c1 ++ [v1]) ++ c3)) = H32 at L32 ⊢
   clear L31 hu10
   replace L32 := L32.drop2
   refine ⟨q12, _, _, rfl, rfl, L32.at (by repeat (first | exact List.mem_cons_self | apply List.mem_cons_of_mem)), (by (try simp only [List.length_append, List.length_cons, List.length_nil]); exact Nat.lt_of_lt_of_le (m := 100) (by omega) (by decide)), ?_⟩
   have L33 := (L32.perm (List.Perm.swap _ _ _)).put (.lst ((xs ++ [.ref u5]) ++ [.ref u10]))
   generalize upd H32 q12 (.lst ((xs ++ [.ref u5]) ++ [.ref u10])) = H33 at L33 ⊢
   have k5 : BadL zs v1 ((c1 ++ [.int y]) ++ c2) := ⟨by simp only [List.length_append, List.length_cons, List.length_nil]; omega, fun x hx => by
    rcases List.mem_append.mp hx with h | h
    ·rcases List.mem_append.mp h with h | h
     ·exact .inl (mc1 x h)
     ·rw [List.mem_singleton.mp h]; exact .inl (List.mem_map.mpr ⟨y, my, rfl⟩)
    ·exact .inl (mc2 x h), fun ns e r => dup_cut rz.up r10 r11 hy hc1 hc2 ns e r⟩
   have k10 : BadL zs v1 ((c1 ++ [v1]) ++ c3) := ⟨by simp only [List.length_append, List.length_cons, List.length_nil]; omega, fun x hx => by
    rcases List.mem_append.mp hx with h | h
    ·rcases List.mem_append.mp h with h | h
     ·exact .inl (mc1 x h)
     ·exact .inr (List.mem_singleton.mp h)
    ·exact .inl (mc3 x h), fun ns e r => no_neg (x := v1) (List.mem_append_left _ (List.mem_append_right _ List.mem_cons_self)) neg1 ns e r⟩
   have sub : ∀ z ∈ bs, z ∈ (u10, HO.lst ((c1 ++ [v1]) ++ c3)) :: (u5, HO.lst ((c1 ++ [.int y]) ++ c2)) :: bs := fun z hz => List.mem_cons_of_mem _ (List.mem_cons_of_mem _ hz)
   exact hN _ _ ⟨_, _, _, rfl, L33, by simp only [List.length_append, List.length_cons, List.length_nil]; omega, by simp only [List.length_append, List.length_cons, List.length_nil]; omega, fun x hx => by
    rcases List.mem_append.mp hx with h | h
    ·rcases List.mem_append.mp h with h | h
     ·exact (it0 x h).more sub
     ·rw [List.mem_singleton.mp h]; exact .of (List.mem_cons_of_mem _ List.mem_cons_self) k5
    ·rw [List.mem_singleton.mp h]; exact .of List.mem_cons_self k10, sub _ b11, sub _ b10, sub _ b3, sub _ b2, sub _ b1⟩
  ·exact hN _ _ ⟨_, xs, bs, rfl, (L16.perm (List.Perm.swap _ _ _)).drop1, by omega, by omega, it0, b11, b10, b3, b2, b1⟩
 clear it0 lx0 b11 b10 b9 b3 b2 b1 L15 bs xs
 rintro _ H50 ⟨y2, xs, bs, rfl, L50, lx1, lx2, it, b11, b10, b3, b2, b1⟩
 refine seq_post (fun σ' H' => ∃ (y2 y6 y7 : Option V) (sl : Addr) (xs : List V) (bs : List (Addr × HO)), σ' = [some (.ref d), some (.ref a), y2, some v1, some (.ref q9), some (.ref sl), y6, y7] ∧ Lv d p H0 H' ((sl, .lst xs) :: bs) ∧ 1 ≤ xs.length ∧ xs.length ≤ 12 ∧ (∀ x ∈ xs, ItemL zs v1 q10 q11 bs x) ∧ (q11, HO.dK []) ∈ bs ∧ (q10, HO.tup (zs.map V.int)) ∈ bs ∧ (q3, HO.dK []) ∈ bs ∧ (q2, HO.tup [.int 1]) ∈ bs ∧ (q1, HO.lst [.int 1]) ∈ bs) (fun N hN => ?_) ?_
 ·refine ⟨_, rfl, a, _, rfl, .inl (SqL.of (L50.old ha)), _, _, rfl, rfl, _, rfl, ite2 (fun c => ?_) (fun c => ?_)⟩
  ·have z2 : 2 ≤ zs.length := by
    have c' := of_decide_eq_true c
    rw [List.length_map] at c'
    omega
   refine ⟨_, rfl, _, rfl, a, _, rfl, .inl (SqL.of (L50.old ha)), _, _, rfl, rfl, d, p, _, rfl, L50.D, (by (try simp only [List.length_append, List.length_cons, List.length_nil, List.length_map, List.length_reverse]); omega), ?_⟩
   intro r1 H51 r10 r11 D51 o51
   have L51 := L50.mv D51 (off_msk o51)
   clear L50 D51 o51
   simp only [List.length_append, List.length_cons, List.length_nil, List.length_map] at r11
   refine ⟨_, _, rfl, rfl, ?_⟩
   obtain ⟨y, hy, my⟩ := pick_int zs (r := 1 + r1) (by omega) (by omega)
   obtain ⟨y2, hy2, my2⟩ := pick_int zs (r := (1 + r1) - 1) (by omega) (by omega)
   refine ⟨_, rfl, _, rfl, _, _, rfl, rfl, _, rfl, a, _, rfl, SqL.of (L51.old ha), ?_⟩
   have lc1 : (cutV (zs.map V.int) none (some ((1 + r1) - 1))).length ≤ ((zs.map V.int)).length := cutV_length _ _ _
   have mc1 : ∀ x ∈ cutV (zs.map V.int) none (some ((1 + r1) - 1)), x ∈ (zs.map V.int) := fun x hx => cut_mem hx
   generalize hc1 : cutV (zs.map V.int) none (some ((1 + r1) - 1)) = c1 at lc1 mc1 ⊢
   (try simp only [List.length_map, List.length_append, List.length_cons, List.length_nil] at lc1)
   intro w1 hw1
   have L52 := L51.new hw1 (.lst c1)
   generalize upd H51 w1 (.lst c1) = H52 at L52 ⊢
   clear L51 hw1
   refine ⟨_, rfl, _, rfl, a, _, (1 + r1), .int y, rfl, rfl, SqL.of (L52.old ha), hy, _, rfl, _, rfl, _, _, rfl, rfl, a, _, ((1 + r1) - 1), .int y2, rfl, rfl, SqL.of (L52.old ha), hy2, two_le, ?_⟩
   intro w2 hw2
   have L53 := L52.new hw2 (.lst [.int y, .int y2])
   generalize upd H52 w2 (.lst [.int y, .int y2]) = H53 at L53 ⊢
   clear L52 hw2
   refine ⟨w1, w2, _, _, rfl, rfl, L53.at (by repeat (first | exact List.mem_cons_self | apply List.mem_cons_of_mem)), L53.at (by repeat (first | exact List.mem_cons_self | apply List.mem_cons_of_mem)), small (by (try simp only [List.length_append, List.length_cons, List.length_nil, List.length_map, List.length_reverse]); omega), ?_⟩
   intro w3 hw3
   have L54 := L53.new hw3 (.lst (c1 ++ [.int y, .int y2]))
   generalize upd H53 w3 (.lst (c1 ++ [.int y, .int y2])) = H54 at L54 ⊢
   clear L53 hw3
   replace L54 := L54.drop2
   refine ⟨_, rfl, _, rfl, _, _, rfl, rfl, _, rfl, a, _, rfl, SqL.of (L54.old ha), ?_⟩
   have lc2 : (cutV (zs.map V.int) (some ((1 + r1) + 1)) none).length ≤ ((zs.map V.int)).length := cutV_length _ _ _
   have mc2 : ∀ x ∈ cutV (zs.map V.int) (some ((1 + r1) + 1)) none, x ∈ (zs.map V.int) := fun x hx => cut_mem hx
   generalize hc2 : cutV (zs.map V.int) (some ((1 + r1) + 1)) none = c2 at lc2 mc2 ⊢
   (try simp only [List.length_map, List.length_append, List.length_cons, List.length_nil] at lc2)
   intro w4 hw4
   have L55 := L54.new hw4 (.lst c2)
   generalize upd H54 w4 (.lst c2) = H55 at L55 ⊢
   clear L54 hw4
   refine ⟨w3, w4, _, _, rfl, rfl, L55.at (by repeat (first | exact List.mem_cons_self | apply List.mem_cons_of_mem)), L55.at (by repeat (first | exact List.mem_cons_self | apply List.mem_cons_of_mem)), small (by (try simp only [List.length_append, List.length_cons, List.length_nil, List.length_map, List.length_reverse]); omega), ?_⟩
   intro w5 hw5
   have L56 := L55.new hw5 (.lst ((c1 ++ [.int y, .int y2]) ++ c2))
   generalize upd H55 w5 (.lst ((c1 ++ [.int y, .int y2]) ++ c2)) = H56 at L56 ⊢
   clear L55 hw5
   replace L56 := L56.drop2
   refine ⟨_, rfl, _, rfl, _, rfl, two_le, ?_⟩
   intro w6 hw6
   have L57 := L56.new hw6 (.lst [.ref w5, .ref w5])
   generalize upd H56 w6 (.lst [.ref w5, .ref w5]) = H57 at L57 ⊢
   clear L56 hw6
   refine ⟨q12, w6, _, _, rfl, rfl, L57.at (by repeat (first | exact List.mem_cons_self | apply List.mem_cons_of_mem)), L57.at (by repeat (first | exact List.mem_cons_self | apply List.mem_cons_of_mem)), small (by (try simp only [List.length_append, List.length_cons, List.length_nil, List.length_map, List.length_reverse]); omega), ?_⟩
   intro w7 hw7
   have L58 := L57.new hw7 (.lst (xs ++ [.ref w5, .ref w5]))
   generalize upd H57 w7 (.lst (xs ++ [.ref w5, .ref w5])) = H58 at L58 ⊢
   clear L57 hw7
   replace L58 := L58.drop1
   have k5 : BadL zs v1 ((c1 ++ [.int y, .int y2]) ++ c2) := ⟨by simp only [List.length_append, List.length_cons, List.length_nil]; omega, fun x hx => by
    rcases List.mem_append.mp hx with h | h
    ·rcases List.mem_append.mp h with h | h
     ·exact .inl (mc1 x h)
     ·simp only [List.mem_cons, List.not_mem_nil, or_false] at h
      rcases h with h | h <;> rw [h]
      ·exact .inl (List.mem_map.mpr ⟨y, my, rfl⟩)
      ·exact .inl (List.mem_map.mpr ⟨y2, my2, rfl⟩)
    ·exact .inl (mc2 x h), fun ns e r => turn_cut rz.up r10 r11 hy hy2 ns e r⟩
   have sub : ∀ z ∈ bs, z ∈ (w5, HO.lst ((c1 ++ [.int y, .int y2]) ++ c2)) :: (q12, HO.lst xs) :: bs := fun z hz => List.mem_cons_of_mem _ (List.mem_cons_of_mem _ hz)
   exact hN _ _ ⟨_, _, _, w7, _, _, rfl, L58, by simp only [List.length_append, List.length_cons, List.length_nil]; omega, by simp only [List.length_append, List.length_cons, List.length_nil]; omega, fun x hx => by
    rcases List.mem_append.mp hx with h | h
    ·exact (it x h).more sub
    ·simp only [List.mem_cons, List.not_mem_nil, or_false] at h
     rcases h with h | h <;> rw [h] <;> exact .of List.mem_cons_self k5, sub _ b11, sub _ b10, sub _ b3, sub _ b2, sub _ b1⟩
  ·exact hN _ _ ⟨_, _, _, q12, xs, bs, rfl, L50, lx1, by omega, it, b11, b10, b3, b2, b1⟩
 clear it b11 b10 b3 b2 b1 L50 lx1 lx2 bs xs
 rintro _ H70 ⟨y2, y6, y7, sl, xs, bs, rfl, L70, lx1, lx2, it, b11, b10, b3, b2, b1⟩
 refine ⟨_, rfl, _, rfl, _, rfl, sl, _, rfl, .inl (SqL.of (L70.at (by repeat (first | exact List.mem_cons_self | apply List.mem_cons_of_mem)))), d, p, _, rfl, L70.D, by omega, ?_⟩
 intro rz1 H71 rz10 rz11 D71 o71
 have L71 := L70.mv D71 (off_msk o71)
 obtain ⟨v, hv, hm⟩ := pick_any (xs := xs) rz10 rz11
 refine ⟨sl, _, rz1, v, rfl, rfl, SqL.of (L71.at (by repeat (first | exact List.mem_cons_self | apply List.mem_cons_of_mem))), hv, ?_⟩
 have up : ∀ {z : Addr × HO}, z ∈ bs → msk (S1 d) H71 z.1 = some z.2 := fun hz => L71.L _ (List.mem_cons_of_mem _ hz)
 have iz : ∀ x ∈ zs.map V.int, Th (msk (S1 d) H71) x 3 1 := fun x hx => by
  obtain ⟨z, hz, e⟩ := List.mem_map.mp hx
  rw [← e]
  exact Th.int (by have := bz z hz; have := rz.bd z hz; omega)
 have iv : Th (msk (S1 d) H71) v1 3 1 := by
  simp only [List.mem_cons, List.not_mem_nil, or_false] at mv1
  rcases mv1 with e | e | e | e | e | e | e | e | e | e <;> rw [e]
  ·exact Th.int (by decide)
  ·exact Th.bl _
  ·exact Th.bl _
  ·exact Th.non
  ·exact Th.str (by decide) (by decide)
  ·exact (Th.lst (xs := [.int 1]) (n := 0) (k := 0) (up b1) fun x hx => by rw [List.mem_singleton.mp hx]; exact Th.int (by decide)).mono (by decide) (by decide)
  ·exact (Th.tup (xs := [.int 1]) (n := 0) (k := 0) (up b2) fun x hx => by rw [List.mem_singleton.mp hx]; exact Th.int (by decide)).mono (by decide) (by decide)
  ·exact Th.dct (up b3)
  ·exact Th.int (by decide)
  ·exact Th.int (by omega)
 rcases it v hm with e | e | e | e | e | ⟨u, c, e, hu, h1, h2, h3⟩ <;> rw [e]
 ·exact q _ H71 L71.D L71.G (th_some' (up b10) (by rw [List.length_map]; omega) iz) (nr_tup (up b10))
 ·exact q _ H71 L71.D L71.G Th.non nr_non
 ·exact q _ H71 L71.D L71.G (Th.int (by decide)) (fun b ns e => nomatch e)
 ·exact q _ H71 L71.D L71.G (Th.dct (up b11)) (fun b ns e hb => by cases e; rw [up b11] at hb; cases hb)
 ·exact q _ H71 L71.D L71.G (Th.str (by decide) (by decide)) (fun b ns e => nomatch e)
 ·refine q _ H71 L71.D L71.G (th_some (up hu) h1 fun x hx => ?_) (nr_lst (up hu) fun ns e r _ _ => h3 ns e r)
  rcases h2 x hx with h | h
  ·exact iz x h
  ·rw [h]; exact iv
end
abbrev sNop : Stmt := top 54
theorem Lv.add {d p : Addr} {H0 H H' : Hp} {bs : List (Addr × HO)} {D : Addr} {o : HO} (h : Lv d p H0 H bs) (g : Same H H') (hD : H D = none) (e : H' D = some o) : Lv d p H0 H' ((D, o) :: bs) := by
 have h2 := h.new hD o
 refine ⟨h.D.ex g, h.pp, fun b u q => msk_same g _ _ (h.G _ _ q), fun x hx => ?_, h2.F, h2.nd⟩
 rcases List.mem_cons.mp hx with z | z
 ·rw [z]
  show msk (S1 d) H' D = some o
  rw [msk_in (h.D.out3 hD)]
  exact e
 ·exact msk_same g _ _ (h.L x z)
def spNop : Sp := fun vs H Q _ => ∃ (d p t a b : Addr) (ns ss : List Int), vs = [.ref d, .ref t] ∧ Sto H d p ∧ IsPl (msk (S1 d) H) t a b ns ss ∧ (∀ x ∈ ns, x < 10 ^ 29) ∧ (∀ x ∈ ss, x < 10 ^ 29) ∧
 ∀ (v : V) (H' : Hp), Sto H' d p → Same (msk (S1 d) H) (msk (S1 d) H') → NP (msk (S1 d) H') v → Q v H'
theorem nr_same {M M' : Hp} {few n k : Nat} {x : V} (th : Th M x n k) (h : NR M few x) (g : Same M M') : NR M' few x := fun b ns e hb r f l => by
 subst e
 obtain ⟨d, hd, _⟩ := th
 cases hd with
 | lst ha _ => rw [g _ _ ha] at hb; rw [Option.some.inj hb] at ha; exact h b ns rfl ha r f l
 | tup ha _ => rw [g _ _ ha] at hb; cases hb
 | dct ha => rw [g _ _ ha] at hb; cases hb
theorem nr_mono {M : Hp} {x : V} (h : NR M 0 x) : NR M 1 x := fun b ns e hb r _ l => h b ns e hb r (Nat.zero_le _) l
theorem last_inS {R : List Int} (h : 1 ≤ R.length) : ∃ x, atI (R.map V.int) (-1) = some (.int x) ∧ x ∈ R := by
 have h' : R ≠ [] := fun z => by rw [z] at h; exact absurd h (by decide)
 refine ⟨R.getLast h', ?_, List.getLast_mem h'⟩
 have e : R = R.dropLast ++ [R.getLast h'] := (List.dropLast_concat_getLast h').symm
 have e2 : R.map V.int = R.dropLast.map V.int ++ [.int (R.getLast h')] := by
  conv => lhs; rw [e]
  rw [List.map_append]
  rfl
 rw [e2]
 exact atI_last _ _
section
variable {f tk nl : Addr} {fd tkd nld : FuncData}
theorem scNop : FnScope ["store", "plan", "numbers", "sums", "more", "great", "wide", "one", "other", "some"] ["store", "plan"] (defScope sNop) := ⟨rfl, rfl, rfl, by decide +kernel, rfl, by decide +kernel, by decide +kernel⟩
set_option maxHeartbeats 0 in
theorem ok_nop (F : Fun K "_law_no_plan" "_law_no_plan" sNop f fd) (B : BtR mg) (GT : FnOk P w K mg base CX0 2 tk tkd ["store", "many"] spTk) (bT : Binds K tkd ["store", "many"] []) (kT : Kee K tk) (mT : mg "_law_take" = some (.ref tk))
  (GL : FnOk P w K mg base CX0 2 nl nld ["store", "row"] spNls) (bL : Binds K nld ["store", "row"] []) (kL : Kee K nl) (mL : mg "_law_no_list" = some (.ref nl)) : FnOk P w K mg base CX0 3 f fd ["store", "plan"] spNop := by
 refine F.ok scNop (fun vs H Q E h => ?_) (fun cdv A outer s H0 vs Q E hr h => ?_)
 ·obtain ⟨d, p, t, a, b, ns, ss, rfl, _⟩ := h
  rfl
 obtain ⟨d, p, t, a, b, ns, ss, rfl, D, pl, bn, bs, q⟩ := h
 refine ⟨_, (@pss_cons _ _ _ _ _ (ps_asg (pv 1) (pg_tup rfl (pgs_cons (pg_name (i := 2) scNop.nd rfl (Or.inr rfl)) (pgs_cons (pg_name (i := 3) scNop.nd rfl (Or.inl rfl)) pgs_nil)))) (@pss_cons _ _ _ _ _ (ps_comp ["k"] rfl (blk_ok (defScope sNop) ["store", "plan", "numbers", "sums", "more", "great", "wide", "one", "other", "some"] rfl rfl (by decide +kernel)) (pi_range1 rfl B.range (QA.h (qa_cons (qe_op op_sub (QE.mk pe_int) (QE.mk (pe_callB call_len_seq rfl B.len PySem.boot_len (QA.h (qa_cons (QE.mk (pv 2)) qa_nil))))) qa_nil))) (fun pins C fp s3 H3 => ⟨(pg_name (i := 0) (show (blkN ["k"] ["store", "plan", "numbers", "sums", "more", "great", "wide", "one", "other", "some"]).Nodup by decide +kernel) rfl (Or.inl rfl)), pif_nil, (pe_op op_add (pe_op op_add (pe_ix (ix_listK K) (pv 3) (pe_un un_neg pe_int) (fun _ _ => rfl)) pe_int) (pv 0))⟩) (j := 4) scNop.nd rfl (Or.inl rfl) rfl) (@pss_cons _ _ _ _ _ (ps_set (i := 5) scNop.nd rfl (Or.inr rfl) (pe_ix ix_list (pe_op op_cat (pe_lst (QA.h (qa_cons (QE.mk pe_int) qa_nil))) (pv 3)) (pe_un un_neg pe_int) (fun _ _ => rfl))) (@pss_cons _ _ _ _ _ (ps_comp ["k"] rfl (blk_ok (defScope sNop) ["store", "plan", "numbers", "sums", "more", "great", "wide", "one", "other", "some"] rfl rfl (by decide +kernel)) (pi_range1 rfl B.range (QA.h (qa_cons (qe_op op_sub (QE.mk pe_int) (QE.mk (pe_callB call_len_seq rfl B.len PySem.boot_len (QA.h (qa_cons (QE.mk (pv 3)) qa_nil))))) qa_nil))) (fun pins C fp s3 H3 => ⟨(pg_name (i := 0) (show (blkN ["k"] ["store", "plan", "numbers", "sums", "more", "great", "wide", "one", "other", "some"]).Nodup by decide +kernel) rfl (Or.inl rfl)), pif_nil, (pe_op op_add (pe_op op_add (pv 6) pe_int) (pv 0))⟩) (j := 6) scNop.nd rfl (Or.inl rfl) rfl) (@pss_cons _ _ _ _ _ (ps_set (i := 7) scNop.nd rfl (Or.inl rfl) (pe_tup (QA.h (qa_cons (QE.mk (pe_call GL hr rfl mL kL bL .nil pass0 (QA.h (qa_cons (QE.mk (pv 0)) (qa_cons (QE.mk (pv 2)) qa_nil))))) (qa_cons (QE.mk (pv 3)) qa_nil))))) (@pss_cons _ _ _ _ _ (ps_set (i := 8) scNop.nd rfl (Or.inl rfl) (pe_tup (QA.h (qa_cons (QE.mk (pv 2)) (qa_cons (QE.mk (pe_call GL hr rfl mL kL bL .nil pass0 (QA.h (qa_cons (QE.mk (pv 0)) (qa_cons (QE.mk (pv 3)) qa_nil))))) qa_nil))))) (@pss_cons _ _ _ _ _ (ps_set (i := 9) scNop.nd rfl (Or.inl rfl) (QE.h (qe_lst (qa_cons (QE.mk (pv 7)) (qa_cons (QE.mk (pv 8)) (qa_cons (QE.mk (pv 7)) (qa_cons (QE.mk (pv 8)) (qa_cons (QE.mk (pv 7)) (qa_cons (QE.mk (pv 8)) (qa_cons (qe_tup (qa_cons (qe_lst qa_nil) (qa_cons (QE.mk (pv 3)) qa_nil))) qa_nil)))))))))) (@pss_cons _ _ _ _ _ (ps_set (i := 9) scNop.nd rfl (Or.inl rfl) (QE.h (qe_op op_cat (QE.mk (pv 9)) (qe_lst (qa_cons (qe_tup (qa_cons (qe_op op_cat (QE.mk (pv 2)) (QE.mk (pv 4))) (qa_cons (QE.mk (pv 3)) qa_nil))) (qa_cons (qe_tup (qa_cons (QE.mk (pv 2)) (qa_cons (qe_op op_cat (QE.mk (pv 3)) (QE.mk (pv 6))) qa_nil))) qa_nil)))))) (@pss_cons _ _ _ _ _ (ps_set (i := 9) scNop.nd rfl (Or.inl rfl) (QE.h (qe_op op_cat (QE.mk (pv 9)) (qe_lst (qa_cons (qe_tup (qa_cons (QE.mk (pv 2)) qa_nil)) (qa_cons (qe_tup (qa_cons (QE.mk (pv 3)) qa_nil)) (qa_cons (qe_tup (qa_cons (QE.mk (pv 2)) (qa_cons (QE.mk (pv 3)) (qa_cons (qe_lst qa_nil) qa_nil)))) qa_nil))))))) (@pss_cons _ _ _ _ _ (ps_set (i := 9) scNop.nd rfl (Or.inl rfl) (QE.h (qe_op op_cat (QE.mk (pv 9)) (qe_lst (qa_cons (qe_lst (qa_cons (QE.mk (pv 2)) (qa_cons (QE.mk (pv 3)) qa_nil))) (qa_cons (QE.mk pe_non) (qa_cons (QE.mk pe_int) (qa_cons (QE.mk pe_str) (qa_cons (QE.mk pe_dnewK) (qa_cons (qe_tup qa_nil) (qa_cons (QE.mk pe_bl) (qa_cons (QE.mk (pv 2)) (qa_cons (QE.mk pe_str) qa_nil))))))))))))) (@pss_one _ _ _ (ps_ret (pe_ix ix_list (pv 9) (pe_call GT hr rfl mT kT bT .nil pass0 (QA.h (qa_cons (QE.mk (pv 0)) (qa_cons (QE.mk (pe_callB call_len_seq rfl B.len PySem.boot_len (QA.h (qa_cons (QE.mk (pv 9)) qa_nil)))) qa_nil)))) (fun _ _ => rfl)))))))))))))), ?_⟩
 have L0 : Lv d p H0 H0 [] := Lv.start D
 have ok := pl.ok
 have n1 := ok.n1
 have n10 := ok.n2
 have s10 := ok.s2
 have nml : (ns.map V.int).length = ns.length := List.length_map _
 have sml : (ss.map V.int).length = ss.length := List.length_map _
 obtain ⟨la, hla, mla⟩ := last_inS n1
 obtain ⟨gr, hgr', mgr⟩ := last_inS (R := 0 :: ss) (by rw [List.length_cons]; omega)
 have hgr : atI ([V.int 0] ++ ss.map V.int) (-1) = some (.int gr) := hgr'
 have lab : 0 ≤ la ∧ la < 10 ^ 29 := ⟨ok.n.bd la mla, bn la mla⟩
 have grb : 0 ≤ gr ∧ gr < 10 ^ 29 := by
  rcases List.mem_cons.mp mgr with e | e
  ·rw [e]; decide
  ·exact ⟨ok.s.bd gr e, bs gr e⟩
 refine ⟨_, rfl, t, _, rfl, SqT.of (L0.old pl.t), rfl, _, _, rfl, _, _, rfl, rfl, ?_⟩
 refine ⟨_, rfl, a, _, rfl, .inl (SqL.of (L0.old pl.a)), _, _, rfl, rfl, _, rfl, by rw [nml]; omega, by rw [nml]; omega, fun m1 hm1 => ?_⟩
 refine turns_range (σ := [some (.ref d), some (.ref t), some (.ref a), some (.ref b), none, none, none, none, none, none]) (lo := 0) (n := (11 - (((ns.map V.int).length : Nat) : Int)).toNat) (fun _ => true) (fun i => .int (la + 1 + (0 + (i : Int)))) hm1 (by rw [nml]; omega) (fun i H' hi g P hP => hP _ Same.rfl') (fun i H' hi _ g P hP => ?_) fun H1 g1 e1 => ?_
 ·exact ⟨_, rfl, _, rfl, a, _, -1, .int la, rfl, rfl, SqL.of (g _ _ (L0.old pl.a)), hla, _, _, rfl, rfl, _, rfl, _, _, rfl, rfl, hP _ Same.rfl'⟩
 rw [List.filter_eq_self.mpr fun _ _ => rfl, nml] at e1
 have L1 := L0.add g1 hm1 e1
 have lm : ((List.range (11 - ((ns.length : Nat) : Int)).toNat).map fun i : Nat => V.int (la + 1 + (0 + (i : Int)))).length = 11 - ns.length := by rw [List.length_map, List.length_range]; omega
 have im : ∀ x ∈ ((List.range (11 - ((ns.length : Nat) : Int)).toNat).map fun i : Nat => V.int (la + 1 + (0 + (i : Int)))), ∃ z : Int, x = .int z ∧ z.natAbs < 10 ^ 30 := fun x hx => by
  obtain ⟨i, hi, e⟩ := List.mem_map.mp hx
  have := List.mem_range.mp hi
  exact ⟨_, e.symm, by omega⟩
 generalize ((List.range (11 - ((ns.length : Nat) : Int)).toNat).map fun i : Nat => V.int (la + 1 + (0 + (i : Int)))) = ms at L1 lm im
 refine ⟨(by show 1 ≤ sizeLine; decide), ?_⟩
 intro z1 hz1
 have L2 := L1.new hz1 (.lst [.int 0])
 generalize upd H1 z1 (.lst [.int 0]) = H2 at L2 ⊢
 refine ⟨_, rfl, z1, b, _, _, rfl, rfl, L2.at (by repeat (first | exact List.mem_cons_self | apply List.mem_cons_of_mem)), L2.old pl.b, small (by rw [sml]; show 1 + ss.length ≤ 1000; omega), ?_⟩
 intro z2 hz2
 have L3 := L2.new hz2 (.lst ([.int 0] ++ ss.map V.int))
 generalize upd H2 z2 (.lst ([.int 0] ++ ss.map V.int)) = H3 at L3 ⊢
 refine ⟨_, rfl, z2, _, (-1), .int gr, rfl, rfl, SqL.of (L3.at (by repeat (first | exact List.mem_cons_self | apply List.mem_cons_of_mem))), hgr, ?_⟩
 refine ⟨_, rfl, b, _, rfl, .inl (SqL.of (L3.old pl.b)), _, _, rfl, rfl, _, rfl, by rw [sml]; omega, by rw [sml]; omega, fun w1 hw1 => ?_⟩
 refine turns_range (σ := [some (.ref d), some (.ref t), some (.ref a), some (.ref b), some (.ref m1), some (.int gr), none, none, none, none]) (lo := 0) (n := (11 - (((ss.map V.int).length : Nat) : Int)).toNat) (fun _ => true) (fun i => .int (gr + 1 + (0 + (i : Int)))) hw1 (by rw [sml]; omega) (fun i H' hi g P hP => hP _ Same.rfl') (fun i H' hi _ g P hP => ?_) fun H4 g4 e4 => ?_
 ·exact ⟨_, rfl, _, _, rfl, rfl, _, rfl, _, _, rfl, rfl, hP _ Same.rfl'⟩
 rw [List.filter_eq_self.mpr fun _ _ => rfl, sml] at e4
 have L4 := L3.add g4 hw1 e4
 have lw : ((List.range (11 - ((ss.length : Nat) : Int)).toNat).map fun i : Nat => V.int (gr + 1 + (0 + (i : Int)))).length = 11 - ss.length := by rw [List.length_map, List.length_range]; omega
 have iw : ∀ x ∈ ((List.range (11 - ((ss.length : Nat) : Int)).toNat).map fun i : Nat => V.int (gr + 1 + (0 + (i : Int)))), ∃ z : Int, x = .int z ∧ z.natAbs < 10 ^ 30 := fun x hx => by
  obtain ⟨i, hi, e⟩ := List.mem_map.mp hx
  have := List.mem_range.mp hi
  exact ⟨_, e.symm, by omega⟩
 generalize ((List.range (11 - ((ss.length : Nat) : Int)).toNat).map fun i : Nat => V.int (gr + 1 + (0 + (i : Int)))) = ws at L4 lw iw
 refine ⟨_, rfl, _, rfl, d, p, a, ns, rfl, L4.D, L4.G _ _ pl.a, n10, ok.n, (fun x hx => by have := bn x hx; omega), fun v1 H5 S5 g5 t1 nr1 => ?_⟩
 have L5 := L4.mv S5 g5
 refine ⟨_, rfl, two_le, ?_⟩
 intro o1 ho1
 have L6 := L5.new ho1 (.tup [v1, .ref b])
 have g6 : Same (msk (S1 d) H5) (msk (S1 d) (upd H5 o1 (.tup [v1, .ref b]))) := msk_same (Same.new ho1 _)
 generalize upd H5 o1 (.tup [v1, .ref b]) = H6 at L6 g6 ⊢
 refine ⟨_, rfl, _, rfl, _, rfl, d, p, b, ss, rfl, L6.D, L6.G _ _ pl.b, s10, ok.s, (fun x hx => by have := bs x hx; omega), fun v2 H7 S7 g7 t2 nr2 => ?_⟩
 have L7 := L6.mv S7 g7
 refine ⟨two_le, ?_⟩
 intro o2 ho2
 have L8 := L7.new ho2 (.tup [.ref a, v2])
 have g8 : Same (msk (S1 d) H7) (msk (S1 d) (upd H7 o2 (.tup [.ref a, v2]))) := msk_same (Same.new ho2 _)
 generalize upd H7 o2 (.tup [.ref a, v2]) = H8 at L8 g8 ⊢
 have ha := L8.G _ _ pl.a
 have hb := L8.G _ _ pl.b
 have hm := L8.m (q := m1) (o := .lst ms) (by repeat (first | exact List.mem_cons_self | apply List.mem_cons_of_mem))
 have hw := L8.m (q := w1) (o := .lst ws) (by repeat (first | exact List.mem_cons_self | apply List.mem_cons_of_mem))
 have ho1' := L8.m (q := o1) (o := .tup [v1, .ref b]) (by repeat (first | exact List.mem_cons_self | apply List.mem_cons_of_mem))
 have ho2' := L8.m (q := o2) (o := .tup [.ref a, v2]) (by repeat (first | exact List.mem_cons_self | apply List.mem_cons_of_mem))
 have g58 : Same (msk (S1 d) H5) (msk (S1 d) H8) := fun b u e => g8 _ _ (g7 _ _ (g6 _ _ e))
 have n1' := nr_same t1 nr1 g58
 have n2' := nr_same t2 nr2 g8
 have t1' := t1.same g58
 have t2' := t2.same g8
 have G8 := L8.G
 replace L8 : Lv d p H8 H8 [] := Lv.start L8.D
 clear g58 nr1 nr2 t1 t2 g5 g6 g7 g8 L0 L1 L2 L3 L4 L5 L6 L7 S5 S7 hz1 hz2 ho1 ho2 hm1 hw1 e1 e4 g1 g4 hgr' hgr hla
 refine ⟨_, rfl, _, rfl, _, rfl, _, rfl, _, rfl, _, rfl, (by show 0 ≤ sizeLine; decide), ?_⟩
 intro q1 hq1
 have L9 := L8.new hq1 (.lst [])
 generalize upd H8 q1 (.lst []) = H9 at L9 ⊢
 clear L8 hq1
 refine ⟨_, rfl, two_le, ?_⟩
 intro q2 hq2
 have L10 := L9.new hq2 (.tup [.ref q1, .ref b])
 generalize upd H9 q2 (.tup [.ref q1, .ref b]) = H10 at L10 ⊢
 clear L9 hq2
 refine ⟨(by show 7 ≤ sizeLine; decide), ?_⟩
 intro q3 hq3
 have L11 := L10.new hq3 (.lst [.ref o1, .ref o2, .ref o1, .ref o2, .ref o1, .ref o2, .ref q2])
 generalize upd H10 q3 (.lst [.ref o1, .ref o2, .ref o1, .ref o2, .ref o1, .ref o2, .ref q2]) = H11 at L11 ⊢
 clear L10 hq3
 refine ⟨_, rfl, _, rfl, _, rfl, a, m1, _, _, rfl, rfl, L11.old ha, L11.old hm, small (by (try simp only [List.length_append, List.length_cons, List.length_nil, List.length_map, List.length_reverse]); omega), ?_⟩
 intro q4 hq4
 have L12 := L11.new hq4 (.lst ((ns.map V.int) ++ ms))
 generalize upd H11 q4 (.lst ((ns.map V.int) ++ ms)) = H12 at L12 ⊢
 clear L11 hq4
 refine ⟨_, rfl, two_le, ?_⟩
 intro q5 hq5
 have L13 := L12.new hq5 (.tup [.ref q4, .ref b])
 generalize upd H12 q5 (.tup [.ref q4, .ref b]) = H13 at L13 ⊢
 clear L12 hq5
 refine ⟨_, rfl, _, rfl, _, rfl, b, w1, _, _, rfl, rfl, L13.old hb, L13.old hw, small (by (try simp only [List.length_append, List.length_cons, List.length_nil, List.length_map, List.length_reverse]); omega), ?_⟩
 intro q6 hq6
 have L14 := L13.new hq6 (.lst ((ss.map V.int) ++ ws))
 generalize upd H13 q6 (.lst ((ss.map V.int) ++ ws)) = H14 at L14 ⊢
 clear L13 hq6
 refine ⟨two_le, ?_⟩
 intro q7 hq7
 have L15 := L14.new hq7 (.tup [.ref a, .ref q6])
 generalize upd H14 q7 (.tup [.ref a, .ref q6]) = H15 at L15 ⊢
 clear L14 hq7
 refine ⟨two_le, ?_⟩
 intro q8 hq8
 have L16 := L15.new hq8 (.lst [.ref q5, .ref q7])
 generalize upd H15 q8 (.lst [.ref q5, .ref q7]) = H16 at L16 ⊢
 clear L15 hq8
 refine ⟨q3, q8, _, _, rfl, rfl, L16.at (by repeat (first | exact List.mem_cons_self | apply List.mem_cons_of_mem)), L16.at (by repeat (first | exact List.mem_cons_self | apply List.mem_cons_of_mem)), small (by (try simp only [List.length_append, List.length_cons, List.length_nil, List.length_map, List.length_reverse]); omega), ?_⟩
 intro q9 hq9
 have L17 := L16.new hq9 (.lst ([.ref o1, .ref o2, .ref o1, .ref o2, .ref o1, .ref o2, .ref q2] ++ [.ref q5, .ref q7]))
 generalize upd H16 q9 (.lst ([.ref o1, .ref o2, .ref o1, .ref o2, .ref o1, .ref o2, .ref q2] ++ [.ref q5, .ref q7])) = H17 at L17 ⊢
 clear L16 hq9
 replace L17 := L17.drop1
 refine ⟨_, rfl, _, rfl, (by show 1 ≤ sizeLine; decide), ?_⟩
 intro q10 hq10
 have L18 := L17.new hq10 (.tup [.ref a])
 generalize upd H17 q10 (.tup [.ref a]) = H18 at L18 ⊢
 clear L17 hq10
 refine ⟨_, rfl, (by show 1 ≤ sizeLine; decide), ?_⟩
 intro q11 hq11
 have L19 := L18.new hq11 (.tup [.ref b])
 generalize upd H18 q11 (.tup [.ref b]) = H19 at L19 ⊢
 clear L18 hq11
 refine ⟨_, rfl, _, rfl, (by show 0 ≤ sizeLine; decide), ?_⟩
 intro q12 hq12
 have L20 := L19.new hq12 (.lst [])
 generalize upd H19 q12 (.lst []) = H20 at L20 ⊢
 clear L19 hq12
 refine ⟨(by show 3 ≤ sizeLine; decide), ?_⟩
 intro q13 hq13
 have L21 := L20.new hq13 (.tup [.ref a, .ref b, .ref q12])
 generalize upd H20 q13 (.tup [.ref a, .ref b, .ref q12]) = H21 at L21 ⊢
 clear L20 hq13
 refine ⟨(by show 3 ≤ sizeLine; decide), ?_⟩
 intro q14 hq14
 have L22 := L21.new hq14 (.lst [.ref q10, .ref q11, .ref q13])
 generalize upd H21 q14 (.lst [.ref q10, .ref q11, .ref q13]) = H22 at L22 ⊢
 clear L21 hq14
 refine ⟨q9, q14, _, _, rfl, rfl, L22.at (by repeat (first | exact List.mem_cons_self | apply List.mem_cons_of_mem)), L22.at (by repeat (first | exact List.mem_cons_self | apply List.mem_cons_of_mem)), small (by (try simp only [List.length_append, List.length_cons, List.length_nil, List.length_map, List.length_reverse]); omega), ?_⟩
 intro q15 hq15
 have L23 := L22.new hq15 (.lst (([.ref o1, .ref o2, .ref o1, .ref o2, .ref o1, .ref o2, .ref q2] ++ [.ref q5, .ref q7]) ++ [.ref q10, .ref q11, .ref q13]))
 generalize upd H22 q15 (.lst (([.ref o1, .ref o2, .ref o1, .ref o2, .ref o1, .ref o2, .ref q2] ++ [.ref q5, .ref q7]) ++ [.ref q10, .ref q11, .ref q13])) = H23 at L23 ⊢
 clear L22 hq15
 replace L23 := L23.drop1
 refine ⟨_, rfl, _, rfl, _, rfl, two_le, ?_⟩
 intro q16 hq16
 have L24 := L23.new hq16 (.lst [.ref a, .ref b])
 generalize upd H23 q16 (.lst [.ref a, .ref b]) = H24 at L24 ⊢
 clear L23 hq16
 intro q17 hq17
 have L25 := L24.new hq17 (.dK [])
 generalize upd H24 q17 (.dK []) = H25 at L25 ⊢
 clear L24 hq17
 refine ⟨(by show 0 ≤ sizeLine; decide), ?_⟩
 intro q18 hq18
 have L26 := L25.new hq18 (.tup [])
 generalize upd H25 q18 (.tup []) = H26 at L26 ⊢
 clear L25 hq18
 refine ⟨_, rfl, (by show 9 ≤ sizeLine; decide), ?_⟩
 intro q19 hq19
 have L27 := L26.new hq19 (.lst [.ref q16, .non, .int 5, .str "", .ref q17, .ref q18, .bl true, .ref a, .str "1: 3"])
 generalize upd H26 q19 (.lst [.ref q16, .non, .int 5, .str "", .ref q17, .ref q18, .bl true, .ref a, .str "1: 3"]) = H27 at L27 ⊢
 clear L26 hq19
 refine ⟨q15, q19, _, _, rfl, rfl, L27.at (by repeat (first | exact List.mem_cons_self | apply List.mem_cons_of_mem)), L27.at (by repeat (first | exact List.mem_cons_self | apply List.mem_cons_of_mem)), small (by (try simp only [List.length_append, List.length_cons, List.length_nil, List.length_map, List.length_reverse]); omega), ?_⟩
 intro q20 hq20
 have L28 := L27.new hq20 (.lst ((([.ref o1, .ref o2, .ref o1, .ref o2, .ref o1, .ref o2, .ref q2] ++ [.ref q5, .ref q7]) ++ [.ref q10, .ref q11, .ref q13]) ++ [.ref q16, .non, .int 5, .str "", .ref q17, .ref q18, .bl true, .ref a, .str "1: 3"]))
 generalize upd H27 q20 (.lst ((([.ref o1, .ref o2, .ref o1, .ref o2, .ref o1, .ref o2, .ref q2] ++ [.ref q5, .ref q7]) ++ [.ref q10, .ref q11, .ref q13]) ++ [.ref q16, .non, .int 5, .str "", .ref q17, .ref q18, .bl true, .ref a, .str "1: 3"])) = H28 at L28 ⊢
 clear L27 hq20
 replace L28 := L28.drop1
 refine ⟨_, rfl, _, rfl, _, rfl, q20, _, rfl, .inl (SqL.of (L28.at (by repeat (first | exact List.mem_cons_self | apply List.mem_cons_of_mem)))), d, p, _, rfl, L28.D, (by (try simp only [List.length_append, List.length_cons, List.length_nil, List.length_map, List.length_reverse]); omega), ?_⟩
 intro r1 H29 r10 r11 D29 o29
 have L29 := L28.mv D29 (off_msk o29)
 clear L28 D29 o29
 simp only [List.length_append, List.length_cons, List.length_nil, List.length_map] at r11
 obtain ⟨v1, hv1, mv1⟩ := pick_any (xs := [(.ref o1 : V), (.ref o2 : V), (.ref o1 : V), (.ref o2 : V), (.ref o1 : V), (.ref o2 : V), (.ref q2 : V), (.ref q5 : V), (.ref q7 : V), (.ref q10 : V), (.ref q11 : V), (.ref q13 : V), (.ref q16 : V), (.non : V), (.int 5 : V), (.str "" : V), (.ref q17 : V), (.ref q18 : V), (.bl true : V), (.ref a : V), (.str "1: 3" : V)]) r10 r11
 refine ⟨q20, _, r1, v1, rfl, rfl, SqL.of (L29.at (by repeat (first | exact List.mem_cons_self | apply List.mem_cons_of_mem))), hv1, q v1 H29 L29.D (fun b u e => L29.G _ _ (G8 b u e)) ?_⟩
 have gK : Same (msk (S1 d) H8) (msk (S1 d) H29) := L29.G
 have iN : ∀ x ∈ ns.map V.int, Th (msk (S1 d) H29) x 3 1 := fun x hx => by
  obtain ⟨z, hz, e⟩ := List.mem_map.mp hx
  rw [← e]
  exact Th.int (by have := bn z hz; have := ok.n.bd z hz; omega)
 have iS : ∀ x ∈ ss.map V.int, Th (msk (S1 d) H29) x 3 1 := fun x hx => by
  obtain ⟨z, hz, e⟩ := List.mem_map.mp hx
  rw [← e]
  exact Th.int (by have := bs z hz; have := ok.s.bd z hz; omega)
 have ii : ∀ {ys : List V}, (∀ x ∈ ys, ∃ z : Int, x = .int z ∧ z.natAbs < 10 ^ 30) → ∀ x ∈ ys, Th (msk (S1 d) H29) x 3 1 := fun h x hx => by
  obtain ⟨z, rfl, hz⟩ := h x hx
  exact Th.int hz
 have in2 : ∀ {xs ys : List V}, (∀ x ∈ xs, Th (msk (S1 d) H29) x 3 1) → (∀ x ∈ ys, Th (msk (S1 d) H29) x 3 1) → ∀ x ∈ xs ++ ys, Th (msk (S1 d) H29) x 3 1 := fun h1 h2 x hx => (List.mem_append.mp hx).elim (h1 x) (h2 x)
 have tN : Th (msk (S1 d) H29) (.ref a) 100 2 := th_some (gK _ _ ha) (by rw [nml]; omega) iN
 have tS : Th (msk (S1 d) H29) (.ref b) 100 2 := th_some (gK _ _ hb) (by rw [sml]; omega) iS
 have t0 : ∀ {b : Addr}, msk (S1 d) H29 b = some (.lst []) → Th (msk (S1 d) H29) (.ref b) 100 2 := fun hb => th_some hb (by decide) fun x hx => absurd hx List.not_mem_nil
 have P1 : NP (msk (S1 d) H29) (.ref o1) := np_pair (gK _ _ ho1') (t1'.same gK) tS (.inl (nr_mono (nr_same t1' n1' gK)))
 have P2 : NP (msk (S1 d) H29) (.ref o2) := np_pair (gK _ _ ho2') tN (t2'.same gK) (.inr (nr_same t2' n2' gK))
 simp only [List.mem_cons, List.not_mem_nil, or_false] at mv1
 rcases mv1 with e | e | e | e | e | e | e | e | e | e | e | e | e | e | e | e | e | e | e | e | e <;> rw [e]
 ·exact P1
 ·exact P2
 ·exact P1
 ·exact P2
 ·exact P1
 ·exact P2
 ·exact np_pair (L29.m (by repeat (first | exact List.mem_cons_self | apply List.mem_cons_of_mem))) (t0 (L29.m (by repeat (first | exact List.mem_cons_self | apply List.mem_cons_of_mem)))) tS (.inl (nr_lst (L29.m (by repeat (first | exact List.mem_cons_self | apply List.mem_cons_of_mem))) fun ns e r f _ => by cases ns with | nil => exact absurd f (by decide) | cons x r => cases e))
 ·refine np_pair (L29.m (by repeat (first | exact List.mem_cons_self | apply List.mem_cons_of_mem))) (th_some (L29.m (by repeat (first | exact List.mem_cons_self | apply List.mem_cons_of_mem))) (by simp only [List.length_append]; omega) (in2 iN (ii im))) tS (.inl (nr_lst (L29.m (by repeat (first | exact List.mem_cons_self | apply List.mem_cons_of_mem))) fun ns' e r _ l => ?_))
  have := congrArg List.length e
  rw [List.length_append, nml, lm, List.length_map] at this
  omega
 ·refine np_pair (L29.m (by repeat (first | exact List.mem_cons_self | apply List.mem_cons_of_mem))) tN (th_some (L29.m (by repeat (first | exact List.mem_cons_self | apply List.mem_cons_of_mem))) (by simp only [List.length_append]; omega) (in2 iS (ii iw))) (.inr (nr_lst (L29.m (by repeat (first | exact List.mem_cons_self | apply List.mem_cons_of_mem))) fun ns' e r _ l => ?_))
  have := congrArg List.length e
  rw [List.length_append, sml, lw, List.length_map] at this
  omega
 ·exact np_tup (L29.m (by repeat (first | exact List.mem_cons_self | apply List.mem_cons_of_mem))) (fun x hx => by rw [List.mem_singleton.mp hx]; exact tN) (by show 1 ≤ 5; decide) (by show 1 ≠ 2; decide)
 ·exact np_tup (L29.m (by repeat (first | exact List.mem_cons_self | apply List.mem_cons_of_mem))) (fun x hx => by rw [List.mem_singleton.mp hx]; exact tS) (by show 1 ≤ 5; decide) (by show 1 ≠ 2; decide)
 ·refine np_tup (L29.m (by repeat (first | exact List.mem_cons_self | apply List.mem_cons_of_mem))) (fun x hx => ?_) (by show 3 ≤ 5; decide) (by show 3 ≠ 2; decide)
  simp only [List.mem_cons, List.not_mem_nil, or_false] at hx
  rcases hx with e | e | e <;> rw [e]
  ·exact tN
  ·exact tS
  ·exact t0 (L29.m (by repeat (first | exact List.mem_cons_self | apply List.mem_cons_of_mem)))
 ·refine np_lst (L29.m (by repeat (first | exact List.mem_cons_self | apply List.mem_cons_of_mem))) (fun x hx => ?_) (by show 2 ≤ 15; decide)
  simp only [List.mem_cons, List.not_mem_nil, or_false] at hx
  rcases hx with e | e <;> rw [e]
  ·exact tN
  ·exact tS
 ·exact np_flat Th.non (fun t h => nomatch h)
 ·exact np_flat (Th.int (by decide)) (fun t h => nomatch h)
 ·exact np_flat (Th.str (by decide) (by decide)) (fun t h => nomatch h)
 ·exact np_dct (L29.m (by repeat (first | exact List.mem_cons_self | apply List.mem_cons_of_mem)))
 ·exact np_tup (L29.m (by repeat (first | exact List.mem_cons_self | apply List.mem_cons_of_mem))) (fun x hx => absurd hx List.not_mem_nil) (by decide) (by decide)
 ·exact np_flat (Th.bl _) (fun t h => nomatch h)
 ·exact np_lst (gK _ _ ha) (fun x hx => (iN x hx).mono (by decide) (by decide)) (by rw [nml]; omega)
 ·exact np_flat (Th.str (by decide) (by decide)) (fun t h => nomatch h)
end
abbrev sKin : Stmt := top 52
theorem boot_ValueError : bootBuiltins "ValueError" = some (.type "ValueError") := by decide +kernel
structure ExT (mg : Str → Option Value) (x0 x1 x2 x3 x4 x5 x6 x7 x8 x9 x10 x11 XS : Addr) : Prop where
 m0 : mg "NoPlan" = some (.ref x0)
 m1 : mg "NoNumber" = some (.ref x1)
 m2 : mg "NoKind" = some (.ref x2)
 m3 : mg "NoPlace" = some (.ref x3)
 m4 : mg "NoRow" = some (.ref x4)
 m5 : mg "NoCut" = some (.ref x5)
 m6 : mg "NoPart" = some (.ref x6)
 m7 : mg "NoSum" = some (.ref x7)
 m8 : mg "TooMany" = some (.ref x8)
 m9 : mg "NoText" = some (.ref x9)
 m10 : mg "NoName" = some (.ref x10)
 m11 : mg "NoSaying" = some (.ref x11)
 mS : mg "SumError" = some (.ref XS)
 mV : mg "ValueError" = none
structure ExD (K : PySem.W.Frag) (xs : List Addr) (XS D : Addr) (n : Int) : Prop where
 k : xs.map (fun x => PySem.W.kitOne K (.ref D) (.ref x)) = (List.range 12).map fun i : Nat => some (decide ((i : Int) = n))
 v : PySem.W.kitOne K (.ref D) (.type "ValueError") = some true
 c : ExcCls K D
 e : PySem.W.exmOne K (.ref D) (.ref XS) = some true
 i : PySem.W.excIn K D bmV "ValueError.__new__" = true
 lt : n < 12
theorem rcv_bls {K : PySem.W.Frag} {H : Hp} {a b : Addr} {bs : List Bool} (h1 : H a = some (.lst (bs.map V.bl))) (h2 : H b = some (.lst (bs.map V.bl))) : RcV K H (.ref a) (.ref b) true := by
 have q : RcV K H (.ref a) (.ref b) ((List.range (bs.map V.bl).length).all fun _ => true) := by
  refine RcV.lst (SqL.of h1) (SqL.of h2) rfl fun j x y hx hy => ?_
  rw [hx] at hy
  cases hy
  rw [List.getElem?_map] at hx
  cases e : bs[j]? with
  | none => rw [e] at hx; cases hx
  | some z =>
   rw [e] at hx
   cases hx
   have q := EqV.bl (K := K) (H := H) (n := 4) z z
   rw [beq_self_eq_true] at q
   exact q
 rw [List.all_eq_true.mpr fun _ _ => rfl] at q
 exact q
def dueOf (nx du : Int) : Prop := (nx = 0 ∧ du = 0) ∨ (nx = 1 ∧ du = 1) ∨ (nx = 3 ∧ du = 2) ∨ (nx = 4 ∧ du = 3)
def spKinG (K : PySem.W.Frag) (xs : List Addr) (XS : Addr) : Sp := fun vs H Q _ => ∃ (ea D : Addr) (nx du : Int), vs = [.ref ea, .int du] ∧ dueOf nx du ∧ H ea = some (.ext (ExcAt ea (.ref D))) ∧ ExD K xs XS D nx ∧ ∀ H', Same H H' → Q (.bl true) H'
section
variable {f x0 x1 x2 x3 x4 x5 x6 x7 x8 x9 x10 x11 XS : Addr} {fd : FuncData}
theorem scKin : FnScope ["caught", "due", "kinds"] ["caught", "due"] (defScope sKin) := ⟨rfl, rfl, rfl, by decide +kernel, rfl, by decide +kernel, by decide +kernel⟩
theorem ok_kin (F : Fun K "_law_kinds" "_law_kinds" sKin f fd) (B : Bt2 mg) (T : ExT mg x0 x1 x2 x3 x4 x5 x6 x7 x8 x9 x10 x11 XS) : FnOk P w K mg base CX0 1 f fd ["caught", "due"] (spKinG K [x0, x1, x2, x3, x4, x5, x6, x7, x8, x9, x10, x11] XS) := by
 refine F.ok scKin (fun vs H Q E h => ?_) (fun cdv A outer s H vs Q E hr h => ?_)
 ·obtain ⟨ea, D, nx, du, rfl, _⟩ := h
  rfl
 obtain ⟨ea, D, nx, du, rfl, hdu, he, ex, q⟩ := h
 refine ⟨_, (@pss_cons _ _ _ _ _ (ps_set (i := 2) scKin.nd rfl (Or.inl rfl) (pe_lst (pa_cons (pe_callB call_isiE rfl B.isinstance boot_isinstance (pa_cons (pv 0) (pa_cons (pe_glob (v := .ref x0) rfl T.m0 rfl) pa_nil))) (pa_cons (pe_callB call_isiE rfl B.isinstance boot_isinstance (pa_cons (pv 0) (pa_cons (pe_glob (v := .ref x1) rfl T.m1 rfl) pa_nil))) (pa_cons (pe_callB call_isiE rfl B.isinstance boot_isinstance (pa_cons (pv 0) (pa_cons (pe_glob (v := .ref x3) rfl T.m3 rfl) pa_nil))) pa_nil))))) (@pss_cons _ _ _ _ _ (ps_set (i := 2) scKin.nd rfl (Or.inl rfl) (pe_op op_cat (pv 2) (pe_lst (pa_cons (pe_callB call_isiE rfl B.isinstance boot_isinstance (pa_cons (pv 0) (pa_cons (pe_glob (v := .ref x4) rfl T.m4 rfl) pa_nil))) (pa_cons (pe_callB call_isiE rfl B.isinstance boot_isinstance (pa_cons (pv 0) (pa_cons (pe_glob (v := .ref x2) rfl T.m2 rfl) pa_nil))) pa_nil))))) (@pss_cons _ _ _ _ _ (ps_set (i := 2) scKin.nd rfl (Or.inl rfl) (pe_op op_cat (pv 2) (pe_lst (pa_cons (pe_callB call_isiE rfl B.isinstance boot_isinstance (pa_cons (pv 0) (pa_cons (pe_glob (v := .ref x5) rfl T.m5 rfl) pa_nil))) (pa_cons (pe_callB call_isiE rfl B.isinstance boot_isinstance (pa_cons (pv 0) (pa_cons (pe_glob (v := .ref x6) rfl T.m6 rfl) pa_nil))) pa_nil))))) (@pss_cons _ _ _ _ _ (ps_set (i := 2) scKin.nd rfl (Or.inl rfl) (pe_op op_cat (pv 2) (pe_lst (pa_cons (pe_callB call_isiE rfl B.isinstance boot_isinstance (pa_cons (pv 0) (pa_cons (pe_glob (v := .ref x7) rfl T.m7 rfl) pa_nil))) (pa_cons (pe_callB call_isiE rfl B.isinstance boot_isinstance (pa_cons (pv 0) (pa_cons (pe_glob (v := .ref x8) rfl T.m8 rfl) pa_nil))) pa_nil))))) (@pss_cons _ _ _ _ _ (ps_set (i := 2) scKin.nd rfl (Or.inl rfl) (pe_op op_cat (pv 2) (pe_lst (pa_cons (pe_callB call_isiE rfl B.isinstance boot_isinstance (pa_cons (pv 0) (pa_cons (pe_glob (v := .ref x9) rfl T.m9 rfl) pa_nil))) (pa_cons (pe_callB call_isiE rfl B.isinstance boot_isinstance (pa_cons (pv 0) (pa_cons (pe_glob (v := .ref x10) rfl T.m10 rfl) pa_nil))) pa_nil))))) (@pss_cons _ _ _ _ _ (ps_expr (pe_bm PySem.F.plainAttrs_list PySem.F.slot_list_append PySem.F.type_list_append mt_append (pv 2) (pa_cons (pe_callB call_isiE rfl B.isinstance boot_isinstance (pa_cons (pv 0) (pa_cons (pe_glob (v := .ref x11) rfl T.m11 rfl) pa_nil))) pa_nil))) (@pss_cons _ _ _ _ _ (ps_if (PW.pt (pw_or (pt_cmpR op_isN (pv 0) pe_non (nomark _)) (pw_or1 (pt_not (pt_val (pe_callB call_isiE rfl B.isinstance boot_isinstance (pa_cons (pv 0) (pa_cons (pe_bltn (v := .ty "ValueError") rfl T.mV boot_ValueError rfl) pa_nil)))))))) (@pss_one _ _ _ (ps_ret pe_bl)) pss_nil) (@pss_one _ _ _ (ps_ret (pe_cmpR (op_eqD hr.units) (pv 2) (pe_comp ["k"] rfl (blk_ok (defScope sKin) ["caught", "due", "kinds"] rfl rfl (by decide +kernel)) (pi_range1 rfl B.range (pa_cons pe_int pa_nil)) (fun pins C fp s3 H3 => ⟨(pg_name (i := 0) (show (blkN ["k"] ["caught", "due", "kinds"]).Nodup by decide +kernel) rfl (Or.inl rfl)), pif_nil, (pe_cmpR op_eq (pv 0) (pv 2) (nomark _))⟩)) (nomark _))))))))))), ?_⟩
 have kk : ∀ (i : Nat) (x : Addr), [x0, x1, x2, x3, x4, x5, x6, x7, x8, x9, x10, x11][i]? = some x → PySem.W.kitOne K (.ref D) (.ref x) = some (decide ((i : Int) = nx)) := fun i x hx => by
  have hk := congrArg (fun l : List (Option Bool) => l[i]?) ex.k
  simp only [List.getElem?_map, hx, Option.map_some] at hk
  have hi : i < 12 := (List.getElem?_eq_some_iff.mp hx).1
  rw [List.getElem?_range hi] at hk
  exact Option.some.inj hk
 refine ⟨_, rfl, ea, D, _, _, _, rfl, he, ex.c, fun _ z => z, kk 0 _ rfl, _, rfl, ea, D, _, _, _, rfl, he, ex.c, fun _ z => z, kk 1 _ rfl, _, rfl, ea, D, _, _, _, rfl, he, ex.c, fun _ z => z, kk 3 _ rfl, (by show 3 ≤ sizeLine; decide), ?_⟩
 intro q0 hq0
 have kq0 : Same H (upd H q0 (.lst [V.bl (decide (((0 : Nat) : Int) = nx)), V.bl (decide (((1 : Nat) : Int) = nx)), V.bl (decide (((3 : Nat) : Int) = nx))])) := Same.new hq0 _
 have eq0 : upd H q0 (.lst [V.bl (decide (((0 : Nat) : Int) = nx)), V.bl (decide (((1 : Nat) : Int) = nx)), V.bl (decide (((3 : Nat) : Int) = nx))]) q0 = some (.lst [V.bl (decide (((0 : Nat) : Int) = nx)), V.bl (decide (((1 : Nat) : Int) = nx)), V.bl (decide (((3 : Nat) : Int) = nx))]) := upd_same
 have cq0 : H q0 = none := hq0
 generalize upd H q0 (.lst [V.bl (decide (((0 : Nat) : Int) = nx)), V.bl (decide (((1 : Nat) : Int) = nx)), V.bl (decide (((3 : Nat) : Int) = nx))]) = H0 at kq0 eq0 ⊢
 have g0 := kq0
 refine ⟨_, rfl, _, rfl, ea, D, _, _, _, rfl, (g0 _ _ he), ex.c, fun _ z => z, kk 4 _ rfl, _, rfl, ea, D, _, _, _, rfl, (g0 _ _ he), ex.c, fun _ z => z, kk 2 _ rfl, two_le, ?_⟩
 intro q1 hq1
 have kq1 : Same H0 (upd H0 q1 (.lst [V.bl (decide (((4 : Nat) : Int) = nx)), V.bl (decide (((2 : Nat) : Int) = nx))])) := Same.new hq1 _
 have eq1 : upd H0 q1 (.lst [V.bl (decide (((4 : Nat) : Int) = nx)), V.bl (decide (((2 : Nat) : Int) = nx))]) q1 = some (.lst [V.bl (decide (((4 : Nat) : Int) = nx)), V.bl (decide (((2 : Nat) : Int) = nx))]) := upd_same
 have cq1 : H q1 = none := none_of_same g0 hq1
 generalize upd H0 q1 (.lst [V.bl (decide (((4 : Nat) : Int) = nx)), V.bl (decide (((2 : Nat) : Int) = nx))]) = H1 at kq1 eq1 ⊢
 have g1 := g0.trans kq1
 refine ⟨_, _, _, _, rfl, rfl, kq1 _ _ eq0, eq1, (by show 5 ≤ sizeLine; decide), ?_⟩
 intro q2 hq2
 have kq2 : Same H1 (upd H1 q2 (.lst ([V.bl (decide (((0 : Nat) : Int) = nx)), V.bl (decide (((1 : Nat) : Int) = nx)), V.bl (decide (((3 : Nat) : Int) = nx))] ++ [V.bl (decide (((4 : Nat) : Int) = nx)), V.bl (decide (((2 : Nat) : Int) = nx))]))) := Same.new hq2 _
 have eq2 : upd H1 q2 (.lst ([V.bl (decide (((0 : Nat) : Int) = nx)), V.bl (decide (((1 : Nat) : Int) = nx)), V.bl (decide (((3 : Nat) : Int) = nx))] ++ [V.bl (decide (((4 : Nat) : Int) = nx)), V.bl (decide (((2 : Nat) : Int) = nx))])) q2 = some (.lst ([V.bl (decide (((0 : Nat) : Int) = nx)), V.bl (decide (((1 : Nat) : Int) = nx)), V.bl (decide (((3 : Nat) : Int) = nx))] ++ [V.bl (decide (((4 : Nat) : Int) = nx)), V.bl (decide (((2 : Nat) : Int) = nx))])) := upd_same
 have cq2 : H q2 = none := none_of_same g1 hq2
 generalize upd H1 q2 (.lst ([V.bl (decide (((0 : Nat) : Int) = nx)), V.bl (decide (((1 : Nat) : Int) = nx)), V.bl (decide (((3 : Nat) : Int) = nx))] ++ [V.bl (decide (((4 : Nat) : Int) = nx)), V.bl (decide (((2 : Nat) : Int) = nx))])) = H2 at kq2 eq2 ⊢
 have g2 := g1.trans kq2
 refine ⟨_, rfl, _, rfl, ea, D, _, _, _, rfl, (g2 _ _ he), ex.c, fun _ z => z, kk 5 _ rfl, _, rfl, ea, D, _, _, _, rfl, (g2 _ _ he), ex.c, fun _ z => z, kk 6 _ rfl, two_le, ?_⟩
 intro q3 hq3
 have kq3 : Same H2 (upd H2 q3 (.lst [V.bl (decide (((5 : Nat) : Int) = nx)), V.bl (decide (((6 : Nat) : Int) = nx))])) := Same.new hq3 _
 have eq3 : upd H2 q3 (.lst [V.bl (decide (((5 : Nat) : Int) = nx)), V.bl (decide (((6 : Nat) : Int) = nx))]) q3 = some (.lst [V.bl (decide (((5 : Nat) : Int) = nx)), V.bl (decide (((6 : Nat) : Int) = nx))]) := upd_same
 have cq3 : H q3 = none := none_of_same g2 hq3
 generalize upd H2 q3 (.lst [V.bl (decide (((5 : Nat) : Int) = nx)), V.bl (decide (((6 : Nat) : Int) = nx))]) = H3 at kq3 eq3 ⊢
 have g3 := g2.trans kq3
 refine ⟨_, _, _, _, rfl, rfl, kq3 _ _ eq2, eq3, (by show 7 ≤ sizeLine; decide), ?_⟩
 intro q4 hq4
 have kq4 : Same H3 (upd H3 q4 (.lst (([V.bl (decide (((0 : Nat) : Int) = nx)), V.bl (decide (((1 : Nat) : Int) = nx)), V.bl (decide (((3 : Nat) : Int) = nx))] ++ [V.bl (decide (((4 : Nat) : Int) = nx)), V.bl (decide (((2 : Nat) : Int) = nx))]) ++ [V.bl (decide (((5 : Nat) : Int) = nx)), V.bl (decide (((6 : Nat) : Int) = nx))]))) := Same.new hq4 _
 have eq4 : upd H3 q4 (.lst (([V.bl (decide (((0 : Nat) : Int) = nx)), V.bl (decide (((1 : Nat) : Int) = nx)), V.bl (decide (((3 : Nat) : Int) = nx))] ++ [V.bl (decide (((4 : Nat) : Int) = nx)), V.bl (decide (((2 : Nat) : Int) = nx))]) ++ [V.bl (decide (((5 : Nat) : Int) = nx)), V.bl (decide (((6 : Nat) : Int) = nx))])) q4 = some (.lst (([V.bl (decide (((0 : Nat) : Int) = nx)), V.bl (decide (((1 : Nat) : Int) = nx)), V.bl (decide (((3 : Nat) : Int) = nx))] ++ [V.bl (decide (((4 : Nat) : Int) = nx)), V.bl (decide (((2 : Nat) : Int) = nx))]) ++ [V.bl (decide (((5 : Nat) : Int) = nx)), V.bl (decide (((6 : Nat) : Int) = nx))])) := upd_same
 have cq4 : H q4 = none := none_of_same g3 hq4
 generalize upd H3 q4 (.lst (([V.bl (decide (((0 : Nat) : Int) = nx)), V.bl (decide (((1 : Nat) : Int) = nx)), V.bl (decide (((3 : Nat) : Int) = nx))] ++ [V.bl (decide (((4 : Nat) : Int) = nx)), V.bl (decide (((2 : Nat) : Int) = nx))]) ++ [V.bl (decide (((5 : Nat) : Int) = nx)), V.bl (decide (((6 : Nat) : Int) = nx))])) = H4 at kq4 eq4 ⊢
 have g4 := g3.trans kq4
 refine ⟨_, rfl, _, rfl, ea, D, _, _, _, rfl, (g4 _ _ he), ex.c, fun _ z => z, kk 7 _ rfl, _, rfl, ea, D, _, _, _, rfl, (g4 _ _ he), ex.c, fun _ z => z, kk 8 _ rfl, two_le, ?_⟩
 intro q5 hq5
 have kq5 : Same H4 (upd H4 q5 (.lst [V.bl (decide (((7 : Nat) : Int) = nx)), V.bl (decide (((8 : Nat) : Int) = nx))])) := Same.new hq5 _
 have eq5 : upd H4 q5 (.lst [V.bl (decide (((7 : Nat) : Int) = nx)), V.bl (decide (((8 : Nat) : Int) = nx))]) q5 = some (.lst [V.bl (decide (((7 : Nat) : Int) = nx)), V.bl (decide (((8 : Nat) : Int) = nx))]) := upd_same
 have cq5 : H q5 = none := none_of_same g4 hq5
 generalize upd H4 q5 (.lst [V.bl (decide (((7 : Nat) : Int) = nx)), V.bl (decide (((8 : Nat) : Int) = nx))]) = H5 at kq5 eq5 ⊢
 have g5 := g4.trans kq5
 refine ⟨_, _, _, _, rfl, rfl, kq5 _ _ eq4, eq5, (by show 9 ≤ sizeLine; decide), ?_⟩
 intro q6 hq6
 have kq6 : Same H5 (upd H5 q6 (.lst ((([V.bl (decide (((0 : Nat) : Int) = nx)), V.bl (decide (((1 : Nat) : Int) = nx)), V.bl (decide (((3 : Nat) : Int) = nx))] ++ [V.bl (decide (((4 : Nat) : Int) = nx)), V.bl (decide (((2 : Nat) : Int) = nx))]) ++ [V.bl (decide (((5 : Nat) : Int) = nx)), V.bl (decide (((6 : Nat) : Int) = nx))]) ++ [V.bl (decide (((7 : Nat) : Int) = nx)), V.bl (decide (((8 : Nat) : Int) = nx))]))) := Same.new hq6 _
 have eq6 : upd H5 q6 (.lst ((([V.bl (decide (((0 : Nat) : Int) = nx)), V.bl (decide (((1 : Nat) : Int) = nx)), V.bl (decide (((3 : Nat) : Int) = nx))] ++ [V.bl (decide (((4 : Nat) : Int) = nx)), V.bl (decide (((2 : Nat) : Int) = nx))]) ++ [V.bl (decide (((5 : Nat) : Int) = nx)), V.bl (decide (((6 : Nat) : Int) = nx))]) ++ [V.bl (decide (((7 : Nat) : Int) = nx)), V.bl (decide (((8 : Nat) : Int) = nx))])) q6 = some (.lst ((([V.bl (decide (((0 : Nat) : Int) = nx)), V.bl (decide (((1 : Nat) : Int) = nx)), V.bl (decide (((3 : Nat) : Int) = nx))] ++ [V.bl (decide (((4 : Nat) : Int) = nx)), V.bl (decide (((2 : Nat) : Int) = nx))]) ++ [V.bl (decide (((5 : Nat) : Int) = nx)), V.bl (decide (((6 : Nat) : Int) = nx))]) ++ [V.bl (decide (((7 : Nat) : Int) = nx)), V.bl (decide (((8 : Nat) : Int) = nx))])) := upd_same
 have cq6 : H q6 = none := none_of_same g5 hq6
 generalize upd H5 q6 (.lst ((([V.bl (decide (((0 : Nat) : Int) = nx)), V.bl (decide (((1 : Nat) : Int) = nx)), V.bl (decide (((3 : Nat) : Int) = nx))] ++ [V.bl (decide (((4 : Nat) : Int) = nx)), V.bl (decide (((2 : Nat) : Int) = nx))]) ++ [V.bl (decide (((5 : Nat) : Int) = nx)), V.bl (decide (((6 : Nat) : Int) = nx))]) ++ [V.bl (decide (((7 : Nat) : Int) = nx)), V.bl (decide (((8 : Nat) : Int) = nx))])) = H6 at kq6 eq6 ⊢
 have g6 := g5.trans kq6
 refine ⟨_, rfl, _, rfl, ea, D, _, _, _, rfl, (g6 _ _ he), ex.c, fun _ z => z, kk 9 _ rfl, _, rfl, ea, D, _, _, _, rfl, (g6 _ _ he), ex.c, fun _ z => z, kk 10 _ rfl, two_le, ?_⟩
 intro q7 hq7
 have kq7 : Same H6 (upd H6 q7 (.lst [V.bl (decide (((9 : Nat) : Int) = nx)), V.bl (decide (((10 : Nat) : Int) = nx))])) := Same.new hq7 _
 have eq7 : upd H6 q7 (.lst [V.bl (decide (((9 : Nat) : Int) = nx)), V.bl (decide (((10 : Nat) : Int) = nx))]) q7 = some (.lst [V.bl (decide (((9 : Nat) : Int) = nx)), V.bl (decide (((10 : Nat) : Int) = nx))]) := upd_same
 have cq7 : H q7 = none := none_of_same g6 hq7
 generalize upd H6 q7 (.lst [V.bl (decide (((9 : Nat) : Int) = nx)), V.bl (decide (((10 : Nat) : Int) = nx))]) = H7 at kq7 eq7 ⊢
 have g7 := g6.trans kq7
 refine ⟨_, _, _, _, rfl, rfl, kq7 _ _ eq6, eq7, (by show 11 ≤ sizeLine; decide), ?_⟩
 intro q8 hq8
 have kq8 : Same H7 (upd H7 q8 (.lst (((([V.bl (decide (((0 : Nat) : Int) = nx)), V.bl (decide (((1 : Nat) : Int) = nx)), V.bl (decide (((3 : Nat) : Int) = nx))] ++ [V.bl (decide (((4 : Nat) : Int) = nx)), V.bl (decide (((2 : Nat) : Int) = nx))]) ++ [V.bl (decide (((5 : Nat) : Int) = nx)), V.bl (decide (((6 : Nat) : Int) = nx))]) ++ [V.bl (decide (((7 : Nat) : Int) = nx)), V.bl (decide (((8 : Nat) : Int) = nx))]) ++ [V.bl (decide (((9 : Nat) : Int) = nx)), V.bl (decide (((10 : Nat) : Int) = nx))]))) := Same.new hq8 _
 have eq8 : upd H7 q8 (.lst (((([V.bl (decide (((0 : Nat) : Int) = nx)), V.bl (decide (((1 : Nat) : Int) = nx)), V.bl (decide (((3 : Nat) : Int) = nx))] ++ [V.bl (decide (((4 : Nat) : Int) = nx)), V.bl (decide (((2 : Nat) : Int) = nx))]) ++ [V.bl (decide (((5 : Nat) : Int) = nx)), V.bl (decide (((6 : Nat) : Int) = nx))]) ++ [V.bl (decide (((7 : Nat) : Int) = nx)), V.bl (decide (((8 : Nat) : Int) = nx))]) ++ [V.bl (decide (((9 : Nat) : Int) = nx)), V.bl (decide (((10 : Nat) : Int) = nx))])) q8 = some (.lst (((([V.bl (decide (((0 : Nat) : Int) = nx)), V.bl (decide (((1 : Nat) : Int) = nx)), V.bl (decide (((3 : Nat) : Int) = nx))] ++ [V.bl (decide (((4 : Nat) : Int) = nx)), V.bl (decide (((2 : Nat) : Int) = nx))]) ++ [V.bl (decide (((5 : Nat) : Int) = nx)), V.bl (decide (((6 : Nat) : Int) = nx))]) ++ [V.bl (decide (((7 : Nat) : Int) = nx)), V.bl (decide (((8 : Nat) : Int) = nx))]) ++ [V.bl (decide (((9 : Nat) : Int) = nx)), V.bl (decide (((10 : Nat) : Int) = nx))])) := upd_same
 have cq8 : H q8 = none := none_of_same g7 hq8
 generalize upd H7 q8 (.lst (((([V.bl (decide (((0 : Nat) : Int) = nx)), V.bl (decide (((1 : Nat) : Int) = nx)), V.bl (decide (((3 : Nat) : Int) = nx))] ++ [V.bl (decide (((4 : Nat) : Int) = nx)), V.bl (decide (((2 : Nat) : Int) = nx))]) ++ [V.bl (decide (((5 : Nat) : Int) = nx)), V.bl (decide (((6 : Nat) : Int) = nx))]) ++ [V.bl (decide (((7 : Nat) : Int) = nx)), V.bl (decide (((8 : Nat) : Int) = nx))]) ++ [V.bl (decide (((9 : Nat) : Int) = nx)), V.bl (decide (((10 : Nat) : Int) = nx))])) = H8 at kq8 eq8 ⊢
 have g8 := g7.trans kq8
 refine ⟨_, rfl, .inl ⟨rfl, _, SqL.of eq8⟩, _, rfl, ea, D, _, _, _, rfl, g8 _ _ he, ex.c, fun _ z => z, kk 11 _ rfl, q8, _, _, rfl, rfl, eq8, (by show 11 < sizeLine; decide), ?_⟩
 have gA : Same H (upd H8 q8 (.lst (((List.range 12).map fun i : Nat => decide ((i : Int) = du)).map V.bl))) := fun b u hb => by rw [upd_ne (ne_of_none hb cq8)]; exact g8 _ _ hb
 have eA : upd H8 q8 (.lst (((List.range 12).map fun i : Nat => decide ((i : Int) = du)).map V.bl)) q8 = some (.lst (((List.range 12).map fun i : Nat => decide ((i : Int) = du)).map V.bl)) := upd_same
 rw [show ((((([V.bl (decide (((0 : Nat) : Int) = nx)), V.bl (decide (((1 : Nat) : Int) = nx)), V.bl (decide (((3 : Nat) : Int) = nx))] ++ [V.bl (decide (((4 : Nat) : Int) = nx)), V.bl (decide (((2 : Nat) : Int) = nx))]) ++ [V.bl (decide (((5 : Nat) : Int) = nx)), V.bl (decide (((6 : Nat) : Int) = nx))]) ++ [V.bl (decide (((7 : Nat) : Int) = nx)), V.bl (decide (((8 : Nat) : Int) = nx))]) ++ [V.bl (decide (((9 : Nat) : Int) = nx)), V.bl (decide (((10 : Nat) : Int) = nx))]) ++ [V.bl (decide (((11 : Nat) : Int) = nx))] : List V) = ((List.range 12).map fun i : Nat => decide ((i : Int) = du)).map V.bl from (by rcases hdu with ⟨h1, h2⟩ | ⟨h1, h2⟩ | ⟨h1, h2⟩ | ⟨h1, h2⟩ <;> rw [h1, h2] <;> rfl)]
 generalize upd H8 q8 (.lst (((List.range 12).map fun i : Nat => decide ((i : Int) = du)).map V.bl)) = HZ at eA gA ⊢
 refine ⟨_, rfl, rfl, _, rfl, iteF ?_⟩
 refine ⟨_, rfl, ea, D, _, _, _, rfl, gA _ _ he, ex.c, fun _ z => z, ex.v, _, rfl, iteF ?_⟩
 refine ⟨_, rfl, 12, rfl, by decide, by decide, fun D' hD => ?_⟩
 refine turns_range (σ := [some (.ref ea), some (.int du), some (.ref q8)]) (lo := 0) (n := (12 : Int).toNat) (fun _ => true) (fun i => .bl (decide ((i : Int) = du))) hD (by decide) (fun i H' hi g P hP => hP _ Same.rfl') (fun i H' hi _ g P hP => ?_) fun H8 g8 e8 => ?_
 ·refine ⟨_, rfl, _, rfl, rfl, ?_⟩
  have e : decide (V.int (0 + (i : Int)) = V.int du) = decide ((i : Int) = du) := by
   rw [Int.zero_add]
   exact decide_eq_decide.mpr ⟨fun h => V.int.inj h, fun h => by rw [h]⟩
  rw [e]
  exact hP _ Same.rfl'
 ·refine ⟨true, rcv_bls (bs := (List.range 12).map fun i : Nat => decide ((i : Int) = du)) (g8 _ _ eA) ?_, q _ (gA.trans g8)⟩
  rw [e8, List.filter_eq_self.mpr fun _ _ => rfl, List.map_map]
  rfl
end
abbrev sCau : Stmt := top 55
theorem pl_uni {H : Hp} {t a b a' b' : Addr} {ns ss ns' ss' : List Int} (p : IsPl H t a b ns ss) (p' : IsPl H t a' b' ns' ss') : ns = ns' ∧ ss = ss' := by
 have z := p.t.symm.trans p'.t
 cases z
 have z1 := p.a.symm.trans p'.a
 have z2 := p.b.symm.trans p'.b
 exact ⟨map_inj_on (fun _ _ _ _ h => V.int.inj h) (HO.lst.inj (Option.some.inj z1)), map_inj_on (fun _ _ _ _ h => V.int.inj h) (HO.lst.inj (Option.some.inj z2))⟩
def Refd (H : Hp) (door : Int) (v : V) (d e g : PyData) (nx : Int) : Prop := (planD d = false ∧ nx = 0) ∨ (planD d = true ∧ ∃ (t a b : Addr) (ns ss : List Int), v = .ref t ∧ IsPl H t a b ns ss ∧
 ((door = 2 ∧ nx = 1 ∧ (numIn ns e && numIn ns g) = false) ∨ (door = 3 ∧ nx = 3 ∧ ∀ i : Int, e = .int i → 0 ≤ i → ¬ i < (cntW ns ss false : Nat)) ∨ (door = 4 ∧ nx = 4 ∧ rowD ns ss e = false)))
def spCauR (K : PySem.W.Frag) (xs : List Addr) (XS : Addr) : Sp := fun vs H Q _ => ∃ (door : Int) (v u x : V) (d e g : PyData) (nx : Int), vs = [.int door, v, u, x] ∧ Dat H v d ∧ Dat H u e ∧ Dat H x g ∧ 0 ≤ door ∧ door < 5 ∧ (door = 4 → shortD e) ∧ Refd H door v d e g nx ∧
 ∀ (ea D : Addr) (H' : Hp), Same H H' → H' ea = some (.ext (ExcAt ea (.ref D))) → ExD K xs XS D nx → Q (.ref ea) H'
def spCauG : Sp := fun vs H Q _ => ∃ (door : Int) (t a b : Addr) (ns ss : List Int) (i j : Nat), vs = [.int door, .ref t, .int (ns.getD i 0), .int (ns.getD j 0)] ∧ 0 ≤ door ∧ door < 3 ∧ IsPl H t a b ns ss ∧ i < ns.length ∧ j < ns.length ∧ ∀ H', Same H H' → Q .non H'
section
variable {f cr cg cb rb no XP XN XR XL XS : Addr} {xs : List Addr} {fd crd cgd cbd rbd nod : FuncData} {sp1 sp2 : Sp}
theorem scCau : FnScope ["door", "plan", "one", "other", "caught", "e"] ["door", "plan", "one", "other"] (defScope sCau) := ⟨rfl, rfl, rfl, by decide +kernel, rfl, by decide +kernel, by decide +kernel⟩
theorem ok_cauR (F : Fun K "_law_caught" "_law_caught" sCau f fd) (mXS : mg "SumError" = some (.ref XS)) (exP : ExD K xs XS XP 0) (exN : ExD K xs XS XN 1) (exL : ExD K xs XS XL 3) (exR : ExD K xs XS XR 4)
  (GR : FnOk P w K mg base (CX1 P w) 27 cr crd ["plan"] (spNoPl XP)) (bR : Binds K crd ["plan"] []) (kR : Kee K cr) (mR : mg "count_rows" = some (.ref cr))
  (GG : FnOk P w K mg base (CX1 P w) 27 cg cgd ["plan"] (spNoPl XP)) (bG : Binds K cgd ["plan"] []) (kG : Kee K cg) (mG : mg "count_rings" = some (.ref cg))
  (GB : FnOk P w K mg base (CX1 P w) 27 cb cbd ["plan", "one", "other"] (spCbR XP XN)) (bB : Binds K cbd ["plan", "one", "other"] []) (kB : Kee K cb) (mB : mg "count_between" = some (.ref cb))
  (GY : FnOk P w K mg base (CX1 P w) 27 rb rbd ["plan", "number"] (spRbR XP XL)) (bY : Binds K rbd ["plan", "number"] []) (kY : Kee K rb) (mY : mg "row_by" = some (.ref rb))
  (GN : FnOk P w K mg base (CX1 P w) 27 no nod ["plan", "thing"] (spNoR XP XR)) (bN : Binds K nod ["plan", "thing"] []) (kN : Kee K no) (mN : mg "number_of" = some (.ref no)) : FnOk P w K mg base CX0 28 f fd ["door", "plan", "one", "other"] (spCauR K xs XS) := by
 refine F.ok scCau (fun vs H Q E h => ?_) (fun cdv A outer s H vs Q E hr h => ?_)
 ·obtain ⟨door, v, u, x, d, e, g, nx, rfl, _⟩ := h
  rfl
 obtain ⟨door, v, u, x, d, e, g, nx, rfl, hd, he, hg, d0, d5, sh, rf, q⟩ := h
 refine ⟨_, (@pss_cons _ _ _ _ _ (ps_set (i := 4) scCau.nd rfl (Or.inl rfl) pe_non) (@pss_cons _ _ _ _ _ (ps_try (S := XS) (i := 4) (j := 5) (pb_if (fun _ _ z => z) (pt_cmpR op_eq (pv 0) pe_int (nomark _)) (pb_call (fun _ _ z => z) GR hr rfl mR kR bR .nil (pa_cons (pv 1) pa_nil)) (pb_if (fun _ _ z => z) (pt_cmpR op_eq (pv 0) pe_int (nomark _)) (pb_call (fun _ _ z => z) GG hr rfl mG kG bG .nil (pa_cons (pv 1) pa_nil)) (pb_if (fun _ _ z => z) (pt_cmpR op_eq (pv 0) pe_int (nomark _)) (pb_call (fun _ _ z => z) GB hr rfl mB kB bB .nil (pa_cons (pv 1) (pa_cons (pv 2) (pa_cons (pv 3) pa_nil)))) (pb_if (fun _ _ z => z) (pt_cmpR op_eq (pv 0) pe_int (nomark _)) (pb_call (fun _ _ z => z) GY hr rfl mY kY bY .nil (pa_cons (pv 1) (pa_cons (pv 2) pa_nil))) (pb_call (fun _ _ z => z) GN hr rfl mN kN bN .nil (pa_cons (pv 1) (pa_cons (pv 2) pa_nil))))))) rfl rfl rfl scCau.nd rfl mXS rfl (Or.inl rfl) rfl rfl (by decide)) (@pss_one _ _ _ (ps_ret (pv 4))))), ?_⟩
 have noP : planD d = false → nx = 0 := fun c => by
  rcases rf with ⟨_, h⟩ | ⟨h, _⟩
  ·exact h
  ·rw [c] at h; cases h
 have onP : planD d = false → ∀ {H' : Hp}, Same H H' → ∀ ea, H' ea = none → Q (.ref ea) (upd H' ea (.ext (ExcAt ea (.ref XP)))) := fun c H' g' ea hn => q ea XP _ (g'.trans (Same.new hn _)) upd_same (by rw [noP c]; exact exP)
 refine ⟨_, rfl, rfl, _, rfl, ite2 (fun c => ?_) (fun c0 => ?_)⟩
 ·have e0 : door = 0 := V.int.inj (of_decide_eq_true c)
  have cP : planD d = false := by
   rcases rf with ⟨h, _⟩ | ⟨_, t, a, b, ns, ss, _, _, ⟨h, _⟩ | ⟨h, _⟩ | ⟨h, _⟩⟩
   ·exact h
   all_goals omega
  exact ⟨_, rfl, v, d, rfl, hd, cP, exP.e, fun ea hn => ⟨_, rfl, onP cP Same.rfl' ea hn⟩⟩
 refine ⟨_, rfl, rfl, _, rfl, ite2 (fun c => ?_) (fun c1 => ?_)⟩
 ·have e0 : door = 1 := V.int.inj (of_decide_eq_true c)
  have cP : planD d = false := by
   rcases rf with ⟨h, _⟩ | ⟨_, t, a, b, ns, ss, _, _, ⟨h, _⟩ | ⟨h, _⟩ | ⟨h, _⟩⟩
   ·exact h
   all_goals omega
  exact ⟨_, rfl, v, d, rfl, hd, cP, exP.e, fun ea hn => ⟨_, rfl, onP cP Same.rfl' ea hn⟩⟩
 refine ⟨_, rfl, rfl, _, rfl, ite2 (fun c => ?_) (fun c2 => ?_)⟩
 ·have e0 : door = 2 := V.int.inj (of_decide_eq_true c)
  refine ⟨_, rfl, _, rfl, _, rfl, v, d, u, e, x, g, rfl, hd, he, hg, fun c => ⟨exP.e, fun ea hn => ⟨_, rfl, onP c Same.rfl' ea hn⟩⟩, fun c t a b ns ss ev pl => ?_⟩
  rcases rf with ⟨h, _⟩ | ⟨_, t', a', b', ns', ss', ev', pl', ⟨_, h, h2⟩ | ⟨h, _⟩ | ⟨h, _⟩⟩
  ·rw [c] at h; cases h
  ·rw [ev] at ev'
   cases ev'
   obtain ⟨rfl, rfl⟩ := pl_uni pl pl'
   exact ⟨h2, exN.e, fun ea hn => ⟨_, rfl, q ea XN _ (Same.new hn _) upd_same (by rw [h]; exact exN)⟩⟩
  all_goals omega
 refine ⟨_, rfl, rfl, _, rfl, ite2 (fun c => ?_) (fun c3 => ?_)⟩
 ·have e0 : door = 3 := V.int.inj (of_decide_eq_true c)
  refine ⟨_, rfl, _, rfl, v, d, u, e, rfl, hd, he, fun c => ⟨exP.e, fun ea hn => ⟨_, rfl, onP c Same.rfl' ea hn⟩⟩, fun c t a b ns ss ev pl => ?_⟩
  rcases rf with ⟨h, _⟩ | ⟨_, t', a', b', ns', ss', ev', pl', ⟨h, _⟩ | ⟨_, h, h2⟩ | ⟨h, _⟩⟩
  ·rw [c] at h; cases h
  ·omega
  ·rw [ev] at ev'
   cases ev'
   obtain ⟨rfl, rfl⟩ := pl_uni pl pl'
   exact ⟨h2, fun H' g' => ⟨exL.e, fun ea hn => ⟨_, rfl, q ea XL _ (g'.trans (Same.new hn _)) upd_same (by rw [h]; exact exL)⟩⟩⟩
  ·omega
 ·have e0 : door = 4 := by
   have n0 : door ≠ 0 := fun z => c0 (decide_eq_true (by rw [z]))
   have n1 : door ≠ 1 := fun z => c1 (decide_eq_true (by rw [z]))
   have n2 : door ≠ 2 := fun z => c2 (decide_eq_true (by rw [z]))
   have n3 : door ≠ 3 := fun z => c3 (decide_eq_true (by rw [z]))
   omega
  refine ⟨_, rfl, _, rfl, v, d, u, e, rfl, hd, he, sh e0, fun c => ⟨exP.e, fun ea hn => ⟨_, rfl, onP c Same.rfl' ea hn⟩⟩, fun c t a b ns ss ev pl => ?_⟩
  rcases rf with ⟨h, _⟩ | ⟨_, t', a', b', ns', ss', ev', pl', ⟨h, _⟩ | ⟨h, _⟩ | ⟨_, h, h2⟩⟩
  ·rw [c] at h; cases h
  ·omega
  ·omega
  ·rw [ev] at ev'
   cases ev'
   obtain ⟨rfl, rfl⟩ := pl_uni pl pl'
   exact ⟨h2, fun H' g' => ⟨exR.e, fun ea hn => ⟨_, rfl, q ea XR _ (g'.trans (Same.new hn _)) upd_same (by rw [h]; exact exR)⟩⟩⟩
theorem ok_cauG (F : Fun K "_law_caught" "_law_caught" sCau f fd) (mXS : mg "SumError" = some (.ref XS))
  (GR : FnOk P w K mg base (CX1 P w) 27 cr crd ["plan"] (spCount fun ns ss => cntW ns ss false)) (bR : Binds K crd ["plan"] []) (kR : Kee K cr) (mR : mg "count_rows" = some (.ref cr))
  (GG : FnOk P w K mg base (CX1 P w) 27 cg cgd ["plan"] (spCount ringsW)) (bG : Binds K cgd ["plan"] []) (kG : Kee K cg) (mG : mg "count_rings" = some (.ref cg))
  (GB : FnOk P w K mg base (CX1 P w) 27 cb cbd ["plan", "one", "other"] spCb) (bB : Binds K cbd ["plan", "one", "other"] []) (kB : Kee K cb) (mB : mg "count_between" = some (.ref cb))
  (GY : FnOk P w K mg base (CX1 P w) 27 rb rbd ["plan", "number"] sp1) (bY : Binds K rbd ["plan", "number"] []) (kY : Kee K rb) (mY : mg "row_by" = some (.ref rb))
  (GN : FnOk P w K mg base (CX1 P w) 27 no nod ["plan", "thing"] sp2) (bN : Binds K nod ["plan", "thing"] []) (kN : Kee K no) (mN : mg "number_of" = some (.ref no)) : FnOk P w K mg base CX0 28 f fd ["door", "plan", "one", "other"] spCauG := by
 refine F.ok scCau (fun vs H Q E h => ?_) (fun cdv A outer s H vs Q E hr h => ?_)
 ·obtain ⟨door, t, a, b, ns, ss, i, j, rfl, _⟩ := h
  rfl
 obtain ⟨door, t, a, b, ns, ss, i, j, rfl, d0, d3, pl, hi, hj, q⟩ := h
 refine ⟨_, (@pss_cons _ _ _ _ _ (ps_set (i := 4) scCau.nd rfl (Or.inl rfl) pe_non) (@pss_cons _ _ _ _ _ (ps_try (S := XS) (i := 4) (j := 5) (pb_if (fun _ _ z => z) (pt_cmpR op_eq (pv 0) pe_int (nomark _)) (pb_call (fun _ _ z => z) GR hr rfl mR kR bR .nil (pa_cons (pv 1) pa_nil)) (pb_if (fun _ _ z => z) (pt_cmpR op_eq (pv 0) pe_int (nomark _)) (pb_call (fun _ _ z => z) GG hr rfl mG kG bG .nil (pa_cons (pv 1) pa_nil)) (pb_if (fun _ _ z => z) (pt_cmpR op_eq (pv 0) pe_int (nomark _)) (pb_call (fun _ _ z => z) GB hr rfl mB kB bB .nil (pa_cons (pv 1) (pa_cons (pv 2) (pa_cons (pv 3) pa_nil)))) (pb_if (fun _ _ z => z) (pt_cmpR op_eq (pv 0) pe_int (nomark _)) (pb_call (fun _ _ z => z) GY hr rfl mY kY bY .nil (pa_cons (pv 1) (pa_cons (pv 2) pa_nil))) (pb_call (fun _ _ z => z) GN hr rfl mN kN bN .nil (pa_cons (pv 1) (pa_cons (pv 2) pa_nil))))))) rfl rfl rfl scCau.nd rfl mXS rfl (Or.inl rfl) rfl rfl (by decide)) (@pss_one _ _ _ (ps_ret (pv 4))))), ?_⟩
 refine ⟨_, rfl, rfl, _, rfl, ite2 (fun c => ?_) (fun c0 => ?_)⟩
 ·exact ⟨_, rfl, t, a, b, ns, ss, rfl, pl, fun H' g' => ⟨_, rfl, q _ g'⟩⟩
 refine ⟨_, rfl, rfl, _, rfl, ite2 (fun c => ?_) (fun c1 => ?_)⟩
 ·exact ⟨_, rfl, t, a, b, ns, ss, rfl, pl, fun H' g' => ⟨_, rfl, q _ g'⟩⟩
 refine ⟨_, rfl, rfl, _, rfl, ite2 (fun c => ?_) (fun c2 => ?_)⟩
 ·exact ⟨_, rfl, _, rfl, _, rfl, t, a, b, ns, ss, i, j, rfl, pl, hi, hj, fun H' g' => ⟨_, rfl, q _ g'⟩⟩
 ·exfalso
  have n0 : door ≠ 0 := fun z => c0 (decide_eq_true (by rw [z]))
  have n1 : door ≠ 1 := fun z => c1 (decide_eq_true (by rw [z]))
  have n2 : door ≠ 2 := fun z => c2 (decide_eq_true (by rw [z]))
  omega
end
abbrev sRef : Stmt := top 56
theorem Refd.same {H H' : Hp} {door nx : Int} {v : V} {d e g : PyData} (h : Refd H door v d e g nx) (s : Same H H') : Refd H' door v d e g nx :=
 h.imp id fun ⟨h1, t, a, b, ns, ss, e1, p, r⟩ => ⟨h1, t, a, b, ns, ss, e1, p.same s, r⟩
def spRef : Sp := fun vs H Q _ => ∃ (door : Int) (v u x : V) (d e g : PyData) (nx du : Int), vs = [.int door, v, u, x, .int du] ∧ Dat H v d ∧ Dat H u e ∧ Dat H x g ∧ Fine 2000 4 d ∧ Fine 2000 4 e ∧ Fine 2000 4 g ∧ 0 ≤ door ∧ door < 5 ∧ (door = 4 → shortD e) ∧ dueOf nx du ∧ Refd H door v d e g nx ∧ ∀ H', Same H H' → Q (.bl true) H'
section
variable {f ca ki XS : Addr} {xs : List Addr} {fd cad kid : FuncData}
theorem scRef : FnScope ["door", "plan", "one", "other", "due", "kept", "caught"] ["door", "plan", "one", "other", "due"] (defScope sRef) := ⟨rfl, rfl, rfl, by decide +kernel, rfl, by decide +kernel, by decide +kernel⟩
theorem ok_ref (F : Fun K "_law_refused" "_law_refused" sRef f fd) (B : BtR mg)
  (GC : FnOk P w K mg base CX0 28 ca cad ["door", "plan", "one", "other"] (spCauR K xs XS)) (bC : Binds K cad ["door", "plan", "one", "other"] []) (kC : Kee K ca) (mC : mg "_law_caught" = some (.ref ca))
  (GK : FnOk P w K mg base CX0 28 ki kid ["caught", "due"] (spKinG K xs XS)) (bK : Binds K kid ["caught", "due"] []) (kK : Kee K ki) (mK : mg "_law_kinds" = some (.ref ki)) : FnOk P w K mg base CX0 29 f fd ["door", "plan", "one", "other", "due"] spRef := by
 refine F.ok scRef (fun vs H Q E h => ?_) (fun cdv A outer s H vs Q E hr h => ?_)
 ·obtain ⟨door, v, u, x, d, e, g, nx, du, rfl, _⟩ := h
  rfl
 obtain ⟨door, v, u, x, d, e, g, nx, du, rfl, hd, he, hg, fd_, fe, fg, d0, d5, sh, hdu, rf, q⟩ := h
 have lst3 : ∀ {M : Hp} {l : Addr}, Same H M → M l = some (.lst [v, u, x]) → Dat M (.ref l) (.list [d, e, g]) := fun {M l} gM hl => .lst hl (.cons (hd.same gM) (.cons (he.same gM) (.cons (hg.same gM) .nil)))
 have fine : Fine 6104 5 (.list [d, e, g]) := by
  refine ⟨?_, ?_, ?_, ?_⟩
  ·have a1 := fd_.show_; have a2 := fe.show_; have a3 := fg.show_
   simp only [PyData.showable, PyData.showableAll, a1, a2, a3, Bool.and_self]
  ·have a1 := fd_.leaf; have a2 := fe.leaf; have a3 := fg.leaf
   simp only [PyData.leavesShort, PyData.leavesShortAll, a1, a2, a3, Bool.and_self]
  ·have a1 := fd_.bulk; have a2 := fe.bulk; have a3 := fg.bulk
   simp only [PyData.bulk, PyData.bulkAll]
   omega
  ·have a1 := fd_.deep; have a2 := fe.deep; have a3 := fg.deep
   simp only [PyData.depth, PyData.depthAll]
   omega
 have dl := fine.len (by decide)
 refine ⟨_, (@pss_cons _ _ _ _ _ (ps_set (i := 5) scRef.nd rfl (Or.inl rfl) (pe_callB (call_repr hr.units hr.gd) rfl B.repr boot_repr (pa_cons (pe_lst (pa_cons (pv 1) (pa_cons (pv 2) (pa_cons (pv 3) pa_nil)))) pa_nil))) (@pss_cons _ _ _ _ _ (ps_set (i := 6) scRef.nd rfl (Or.inl rfl) (pe_call GC hr rfl mC kC bC .nil pass0 (pa_cons (pv 0) (pa_cons (pv 1) (pa_cons (pv 2) (pa_cons (pv 3) pa_nil)))))) (@pss_one _ _ _ (ps_ret (pe_and (pe_call GK hr rfl mK kK bK .nil pass0 (pa_cons (pv 6) (pa_cons (pv 4) pa_nil))) (pe_one (pe_cmpR op_eq (pe_callB (call_repr hr.units hr.gd) rfl B.repr boot_repr (pa_cons (pe_lst (pa_cons (pv 1) (pa_cons (pv 2) (pa_cons (pv 3) pa_nil)))) pa_nil)) (pv 5) (nomark _)))))))), ?_⟩
 refine ⟨_, rfl, _, rfl, _, rfl, (by show 3 ≤ sizeLine; decide), fun l hl => ?_⟩
 have g1 : Same H (upd H l (.lst [v, u, x])) := Same.new hl _
 refine ⟨_, _, rfl, lst3 g1 upd_same, fine.show_, Nat.le_trans fine.deep (by decide), dl, ?_⟩
 generalize upd H l (.lst [v, u, x]) = H1 at g1 ⊢
 refine ⟨_, rfl, _, rfl, _, rfl, _, rfl, door, v, u, x, d, e, g, nx, rfl, hd.same g1, he.same g1, hg.same g1, d0, d5, sh, rf.same g1, fun ea D H2 g2 hea ex => ?_⟩
 have g12 := g1.trans g2
 refine ⟨_, rfl, _, rfl, ea, D, nx, du, rfl, hdu, hea, ex, fun H3 g3 => ?_⟩
 have g13 := g12.trans g3
 refine ⟨_, rfl, iteT ?_⟩
 refine ⟨_, rfl, _, rfl, _, rfl, (by show 3 ≤ sizeLine; decide), fun l2 hl2 => ?_⟩
 have g4 : Same H3 (upd H3 l2 (.lst [v, u, x])) := Same.new hl2 _
 refine ⟨_, _, rfl, lst3 (g13.trans g4) upd_same, fine.show_, Nat.le_trans fine.deep (by decide), dl, _, rfl, rfl, ?_⟩
 rw [decide_eq_true rfl]
 exact q _ (g13.trans g4)
end
abbrev sOd : Stmt := top 57
def Thg (M : Hp) (v : V) (p : PyData → Prop) : Prop := ∃ dd, Dat M v dd ∧ Fine 2000 4 dd ∧ p dd
theorem Thg.same {M M' : Hp} {v : V} {p : PyData → Prop} (h : Thg M v p) (g : Same M M') : Thg M' v p := let ⟨d, a, b, c⟩ := h; ⟨d, a.same g, b, c⟩
def noPl (many : Int) (d : PyData) : Prop := ∀ i : Int, d = .int i → 0 ≤ i → ¬ i < many
theorem thg_pl {M : Hp} {v : V} {many : Int} (th : Th M v 2000 4) (h : ∀ i : Int, v = .int i → i < 0 ∨ many ≤ i) : Thg M v (noPl many) := by
 obtain ⟨d, hd, f⟩ := th
 refine ⟨d, hd, f, fun i e i0 lt => ?_⟩
 subst e
 cases hd
 rcases h i rfl with z | z <;> omega
theorem th_one {M : Hp} {q : Addr} (h : M q = some (.lst [.int 1])) : Th M (.ref q) 2000 4 := (Th.lst (n := 3) (k := 1) h fun x hx => by rw [List.mem_singleton.mp hx]; exact Th.int (by decide)).mono (by decide) (by decide)
theorem th_oneT {M : Hp} {q : Addr} (h : M q = some (.tup [.int 1])) : Th M (.ref q) 2000 4 := (Th.tup (n := 3) (k := 1) h fun x hx => by rw [List.mem_singleton.mp hx]; exact Th.int (by decide)).mono (by decide) (by decide)
def spOd : Sp := fun vs H Q _ => ∃ (d p : Addr) (many : Int), vs = [.ref d, .int many] ∧ Sto H d p ∧ 0 ≤ many ∧ many ≤ 10 ^ 20 ∧ ∀ (v : V) (H' : Hp), Sto H' d p → Same (msk (S1 d) H) (msk (S1 d) H') → Thg (msk (S1 d) H') v (noPl many) → Q v H'
section
variable {f tk : Addr} {fd tkd : FuncData}
theorem scOd : FnScope ["store", "many", "odd"] ["store", "many"] (defScope sOd) := ⟨rfl, rfl, rfl, by decide +kernel, rfl, by decide +kernel, by decide +kernel⟩
set_option maxHeartbeats 0 in
theorem ok_od (F : Fun K "_law_odd" "_law_odd" sOd f fd) (GT : FnOk P w K mg base CX0 1 tk tkd ["store", "many"] spTk) (bT : Binds K tkd ["store", "many"] []) (kT : Kee K tk) (mT : mg "_law_take" = some (.ref tk)) : FnOk P w K mg base CX0 2 f fd ["store", "many"] spOd := by
 refine F.ok scOd (fun vs H Q E h => ?_) (fun cdv A outer s H0 vs Q E hr h => ?_)
 ·obtain ⟨d, p, many, rfl, _⟩ := h
  rfl
 obtain ⟨d, p, many, rfl, D, m0, m20, q⟩ := h
 refine ⟨_, (@pss_cons _ _ _ _ _ (ps_set (i := 2) scOd.nd rfl (Or.inl rfl) (QE.h (qe_lst (qa_cons (QE.mk (pe_un un_neg pe_int)) (qa_cons (QE.mk (pv 1)) (qa_cons (qe_op op_add (QE.mk (pv 1)) (QE.mk (pe_call GT hr rfl mT kT bT .nil pass0 (QA.h (qa_cons (QE.mk (pv 0)) (qa_cons (QE.mk pe_int) qa_nil)))))) (qa_cons (QE.mk pe_bl) (qa_cons (QE.mk pe_bl) (qa_cons (QE.mk pe_non) (qa_cons (QE.mk pe_str) (qa_cons (qe_lst (qa_cons (QE.mk pe_int) qa_nil)) (qa_cons (qe_tup (qa_cons (QE.mk pe_int) qa_nil)) (qa_cons (QE.mk pe_dnewK) (qa_cons (qe_op op_pow (QE.mk pe_int) (QE.mk pe_int)) qa_nil)))))))))))))) (@pss_one _ _ _ (ps_ret (pe_ix ix_list (pe_op op_cat (pv 2) (pe_lst (QA.h (qa_cons (qe_op op_sub (QE.mk pe_int) (qe_op op_pow (QE.mk pe_int) (QE.mk pe_int))) (qa_cons (qe_op op_sub (QE.mk (pe_un un_neg pe_int)) (QE.mk (pe_call GT hr rfl mT kT bT .nil pass0 (QA.h (qa_cons (QE.mk (pv 0)) (qa_cons (qe_op op_add (QE.mk (pv 1)) (QE.mk pe_int)) qa_nil)))))) (qa_cons (qe_lst qa_nil) (qa_cons (QE.mk pe_str) qa_nil))))))) (pe_call GT hr rfl mT kT bT .nil pass0 (QA.h (qa_cons (QE.mk (pv 0)) (qa_cons (QE.mk pe_int) qa_nil)))) (fun _ _ => rfl))))), ?_⟩
 have L0 : Lv d p H0 H0 [] := Lv.start D
 refine ⟨_, rfl, _, rfl, _, rfl, _, rfl, d, p, _, rfl, L0.D, by decide, ?_⟩
 intro r1 H1 r10 r11 D1 o1
 have L1 := L0.mv D1 (off_msk o1)
 refine ⟨_, _, rfl, rfl, (by show 1 ≤ sizeLine; decide), ?_⟩
 intro q1 hq1
 have L2 := L1.new hq1 (.lst [.int 1])
 generalize upd H1 q1 (.lst [.int 1]) = H2 at L2 ⊢
 refine ⟨(by show 1 ≤ sizeLine; decide), ?_⟩
 intro q2 hq2
 have L3 := L2.new hq2 (.tup [.int 1])
 generalize upd H2 q2 (.tup [.int 1]) = H3 at L3 ⊢
 intro q3 hq3
 have L4 := L3.new hq3 (.dK [])
 generalize upd H3 q3 (.dK []) = H4 at L4 ⊢
 refine ⟨_, _, rfl, rfl, ⟨by decide, by decide, by decide⟩, (by show 11 ≤ sizeLine; decide), ?_⟩
 intro s1 hs1
 have L5 := L4.new hs1 (.lst [.int (-1), .int many, .int (many + r1), .bl true, .bl false, .non, .str "1", .ref q1, .ref q2, .ref q3, .int ((10 : Int) ^ (25 : Int).toNat)])
 generalize upd H4 s1 (.lst [.int (-1), .int many, .int (many + r1), .bl true, .bl false, .non, .str "1", .ref q1, .ref q2, .ref q3, .int ((10 : Int) ^ (25 : Int).toNat)]) = H5 at L5 ⊢
 refine ⟨_, rfl, _, _, rfl, rfl, ⟨by decide, by decide, by decide⟩, _, _, rfl, rfl, _, rfl, _, rfl, _, rfl, _, _, rfl, rfl, d, p, _, rfl, L5.D, by omega, ?_⟩
 intro r2 H6 r20 r21 D6 o6
 have L6 := L5.mv D6 (off_msk o6)
 refine ⟨_, _, rfl, rfl, (by show 0 ≤ sizeLine; decide), ?_⟩
 intro q4 hq4
 have L7 := L6.new hq4 (.lst [])
 generalize upd H6 q4 (.lst []) = H7 at L7 ⊢
 refine ⟨(by show 4 ≤ sizeLine; decide), ?_⟩
 intro s2 hs2
 have L8 := L7.new hs2 (.lst [.int (0 - (10 : Int) ^ (25 : Int).toNat), .int (-1 - r2), .ref q4, .str ""])
 generalize upd H7 s2 (.lst [.int (0 - (10 : Int) ^ (25 : Int).toNat), .int (-1 - r2), .ref q4, .str ""]) = H8 at L8 ⊢
 refine ⟨s1, s2, _, _, rfl, rfl, L8.at (by repeat (first | exact List.mem_cons_self | apply List.mem_cons_of_mem)), L8.at (by repeat (first | exact List.mem_cons_self | apply List.mem_cons_of_mem)), small (by show 15 ≤ 1000; decide), ?_⟩
 intro s3 hs3
 have L9 := L8.new hs3 (.lst ([.int (-1), .int many, .int (many + r1), .bl true, .bl false, .non, .str "1", .ref q1, .ref q2, .ref q3, .int ((10 : Int) ^ (25 : Int).toNat)] ++ [.int (0 - (10 : Int) ^ (25 : Int).toNat), .int (-1 - r2), .ref q4, .str ""]))
 generalize upd H8 s3 (.lst ([.int (-1), .int many, .int (many + r1), .bl true, .bl false, .non, .str "1", .ref q1, .ref q2, .ref q3, .int ((10 : Int) ^ (25 : Int).toNat)] ++ [.int (0 - (10 : Int) ^ (25 : Int).toNat), .int (-1 - r2), .ref q4, .str ""])) = H9 at L9 ⊢
 refine ⟨_, rfl, d, p, _, rfl, L9.D, by decide, ?_⟩
 intro r3 H10 r30 r31 D10 o10
 have L10 := L9.mv D10 (off_msk o10)
 obtain ⟨v, hv, hvm⟩ := pick_any (xs := ([.int (-1), .int many, .int (many + r1), .bl true, .bl false, .non, .str "1", .ref q1, .ref q2, .ref q3, .int ((10 : Int) ^ (25 : Int).toNat), .int (0 - (10 : Int) ^ (25 : Int).toNat), .int (-1 - r2), .ref q4, .str ""] : List V)) r30 (by show r3 < ((15 : Nat) : Int); exact r31)
 refine ⟨s3, _, r3, v, rfl, rfl, SqL.of (L10.at (by repeat (first | exact List.mem_cons_self | apply List.mem_cons_of_mem))), hv, q v _ L10.D L10.G ?_⟩
 simp only [List.mem_cons, List.not_mem_nil, or_false] at hvm
 have e25 : (10 : Int) ^ (25 : Int).toNat = 10 ^ 25 := by decide
 have b30 : ∀ i : Int, -(10 ^ 29) < i → i < 10 ^ 29 → i.natAbs < 10 ^ 30 := fun i h1 h2 => by omega
 rw [e25] at hvm
 rcases hvm with e | e | e | e | e | e | e | e | e | e | e | e | e | e | e <;> rw [e]
 ·exact thg_pl (Th.int (by decide)) fun i z => by cases z; omega
 ·exact thg_pl (Th.int (b30 _ (by omega) (by omega))) fun i z => by cases z; omega
 ·exact thg_pl (Th.int (b30 _ (by omega) (by omega))) fun i z => by cases z; omega
 ·exact thg_pl (Th.bl _) fun i z => by cases z
 ·exact thg_pl (Th.bl _) fun i z => by cases z
 ·exact thg_pl Th.non fun i z => by cases z
 ·exact thg_pl (Th.str (by decide) (by decide)) fun i z => by cases z
 ·exact thg_pl (th_one (L10.m (by repeat (first | exact List.mem_cons_self | apply List.mem_cons_of_mem)))) fun i z => by cases z
 ·exact thg_pl (th_oneT (L10.m (by repeat (first | exact List.mem_cons_self | apply List.mem_cons_of_mem)))) fun i z => by cases z
 ·exact thg_pl (Th.dct (L10.m (by repeat (first | exact List.mem_cons_self | apply List.mem_cons_of_mem)))) fun i z => by cases z
 ·exact thg_pl (Th.int (b30 _ (by omega) (by omega))) fun i z => by cases z; omega
 ·exact thg_pl (Th.int (b30 _ (by omega) (by omega))) fun i z => by cases z; omega
 ·exact thg_pl (Th.int (b30 _ (by omega) (by omega))) fun i z => by cases z; omega
 ·exact thg_pl ((Th.lst (n := 3) (k := 1) (L10.m (o := .lst []) (by repeat (first | exact List.mem_cons_self | apply List.mem_cons_of_mem))) fun x hx => nomatch hx).mono (by decide) (by decide)) fun i z => by cases z
 ·exact thg_pl (Th.str (by decide) (by decide)) fun i z => by cases z
end
abbrev sNrw : Stmt := top 59
theorem thg_row {M : Hp} {v : V} {ns ss : List Int} (th : Th M v 2000 4) (hs : ∀ (p : Addr) (xs : List V), v = .ref p → M p = some (.lst xs) → xs.length < 64) (h : ∀ (p : Addr) (zs : List Int), v = .ref p → M p = some (.lst (zs.map V.int)) → zs.Perm ns → False) : Thg M v fun d => shortD d ∧ rowD ns ss d = false := by
 obtain ⟨d, hd, f⟩ := th
 have sh : shortD d := by
  cases hd with
  | lst e hx =>
   show _ < 64
   rw [← hx.len]
   exact hs _ _ rfl e
  | _ => trivial
 refine ⟨d, hd, f, sh, ?_⟩
 unfold rowD
 cases ez : intsD d with
 | none => rfl
 | some zs =>
  obtain ⟨p, e, hp, _⟩ := ints_of hd sh ez
  show rowB ns ss zs = false
  cases c : rowB ns ss zs with
  | false => rfl
  | true => exact (h p zs e hp (List.isPerm_iff.mp (Bool.and_eq_true_iff.mp c).1)).elim
theorem last_max {ns : List Int} (r : Rise ns) (n1 : 1 ≤ ns.length) : ∃ x, atI (ns.map V.int) (-1) = some (.int x) ∧ x ∈ ns ∧ ∀ z ∈ ns, z ≤ x := by
 obtain ⟨l, x, rfl⟩ : ∃ l x, ns = l ++ [x] := by
  rcases List.eq_nil_or_concat ns with h | ⟨l, x, h⟩
  ·rw [h] at n1; exact absurd n1 (by decide)
  ·exact ⟨l, x, by rw [h, List.concat_eq_append]⟩
 refine ⟨x, ?_, by simp, fun z hz => ?_⟩
 ·rw [List.map_append]
  exact atI_last _ _
 ·rcases List.mem_append.mp hz with y | y
  ·exact Int.le_of_lt ((List.pairwise_append.mp r.up).2.2 z y x List.mem_cons_self)
  ·rw [List.mem_singleton.mp y]; exact Int.le_refl _
theorem cut_last (xs : List V) : cutV xs none (some (-1)) = xs.take (xs.length - 1) := by
 have e : HT.sIx xs.length xs.length (some (-1)) = xs.length - 1 := by
  show (if (-1 : Int) < 0 then ((-1 : Int) + (xs.length : Int)).toNat else min (-1 : Int).toNat xs.length) = _
  rw [if_pos (by decide)]
  omega
 unfold cutV
 rw [HT.sIx_none, e]
 rfl
theorem cut_one (xs : List V) (h : 1 ≤ xs.length) : cutV xs none (some 1) = xs.take 1 := by
 have e := HT.sIx_nat xs.length xs.length 1
 unfold cutV
 rw [HT.sIx_none, show (some (1 : Int)) = some ((1 : Nat) : Int) from rfl, e, Nat.min_eq_left h]
 rfl
def spNrw : Sp := fun vs H Q _ => ∃ (d p t a b : Addr) (ns ss : List Int), vs = [.ref d, .ref t] ∧ Sto H d p ∧ IsPl (msk (S1 d) H) t a b ns ss ∧ (∀ x ∈ ns, x < 10 ^ 29 - 1) ∧ ∀ (v : V) (H' : Hp), Sto H' d p → Same (msk (S1 d) H) (msk (S1 d) H') → Thg (msk (S1 d) H') v (fun dd => shortD dd ∧ rowD ns ss dd = false) → Q v H'
section
variable {f tk : Addr} {fd tkd : FuncData}
theorem scNrw : FnScope ["store", "plan", "beyond", "some"] ["store", "plan"] (defScope sNrw) := ⟨rfl, rfl, rfl, by decide +kernel, rfl, by decide +kernel, by decide +kernel⟩
set_option maxHeartbeats 0 in
theorem ok_nrw (F : Fun K "_law_no_row" "_law_no_row" sNrw f fd) (B : Bt3 mg) (GT : FnOk P w K mg base CX0 1 tk tkd ["store", "many"] spTk) (bT : Binds K tkd ["store", "many"] []) (kT : Kee K tk) (mT : mg "_law_take" = some (.ref tk)) : FnOk P w K mg base CX0 2 f fd ["store", "plan"] spNrw := by
 refine F.ok scNrw (fun vs H Q E h => ?_) (fun cdv A outer s H0 vs Q E hr h => ?_)
 ·obtain ⟨d, p, t, a, b, ns, ss, rfl, _⟩ := h
  rfl
 obtain ⟨d, p, t, a, b, ns, ss, rfl, D, pl, bn, q⟩ := h
 have n1 := pl.ok.n1
 have n10 := pl.ok.n2
 refine ⟨_, (@pss_cons _ _ _ _ _ (ps_set (i := 2) scNrw.nd rfl (Or.inl rfl) (QE.h (qe_op op_add (QE.mk (pe_ix ix_list (pe_ix ix_tup (pv 1) pe_int (fun _ _ => rfl)) (pe_un un_neg pe_int) (fun _ _ => rfl))) (QE.mk pe_int)))) (@pss_cons _ _ _ _ _ (ps_set (i := 3) scNrw.nd rfl (Or.inl rfl) (QE.h (qe_lst (qa_cons (qe_op op_cat (QE.mk (pe_ix ix_tup (pv 1) pe_int (fun _ _ => rfl))) (qe_lst (qa_cons (QE.mk (pv 2)) qa_nil))) (qa_cons (qe_op op_cat (QE.mk (pe_slice sl_list (pe_ix ix_tup (pv 1) pe_int (fun _ _ => rfl)) po_none (po_some (pe_un un_neg pe_int)))) (qe_lst (qa_cons (QE.mk (pv 2)) qa_nil))) (qa_cons (QE.mk (pe_slice sl_list (pe_ix ix_tup (pv 1) pe_int (fun _ _ => rfl)) po_none (po_some (pe_un un_neg pe_int)))) (qa_cons (QE.mk (pe_callTy call_tuple_of rfl B.tuple PyProof.Rows.boot_tuple (QA.h (qa_cons (QE.mk (pe_ix ix_tup (pv 1) pe_int (fun _ _ => rfl))) qa_nil)))) (qa_cons (QE.mk pe_non) qa_nil)))))))) (@pss_cons _ _ _ _ _ (ps_set (i := 3) scNrw.nd rfl (Or.inl rfl) (QE.h (qe_op op_cat (QE.mk (pv 3)) (qe_lst (qa_cons (QE.mk pe_int) (qa_cons (QE.mk pe_str) (qa_cons (QE.mk pe_dnewK) (qa_cons (qe_tup qa_nil) (qa_cons (QE.mk pe_bl) (qa_cons (qe_op op_cat (QE.mk (pe_ix ix_tup (pv 1) pe_int (fun _ _ => rfl))) (QE.mk (pe_slice sl_list (pe_ix ix_tup (pv 1) pe_int (fun _ _ => rfl)) po_none (po_some pe_int)))) (qa_cons (qe_lst (qa_cons (QE.mk (pe_ix ix_tup (pv 1) pe_int (fun _ _ => rfl))) qa_nil)) qa_nil))))))))))) (@pss_one _ _ _ (ps_ret (pe_ix ix_list (pv 3) (pe_call GT hr rfl mT kT bT .nil pass0 (QA.h (qa_cons (QE.mk (pv 0)) (qa_cons (QE.mk pe_int) qa_nil)))) (fun _ _ => rfl))))))), ?_⟩
 have L0 : Lv d p H0 H0 [] := Lv.start D
 obtain ⟨la, hla, mla, max⟩ := last_max pl.ok.n n1
 have la0 := pl.ok.n.bd la mla
 have la1 := bn la mla
 refine ⟨_, rfl, t, _, 0, _, rfl, rfl, SqT.of (L0.old pl.t), rfl, _, rfl, a, _, _, _, rfl, rfl, SqL.of (L0.old pl.a), hla, _, _, rfl, rfl, ?_⟩
 refine ⟨_, rfl, t, _, 0, _, rfl, rfl, SqT.of (L0.old pl.t), rfl, _, rfl, (by show 1 ≤ sizeLine; decide), ?_⟩
 intro q1 hq1
 have L1 := L0.new hq1 (.lst [.int (la + 1)])
 generalize upd H0 q1 (.lst [.int (la + 1)]) = H1 at L1 ⊢
 refine ⟨a, q1, _, _, rfl, rfl, L1.old pl.a, L1.at (by repeat (first | exact List.mem_cons_self | apply List.mem_cons_of_mem)), small (by rw [List.length_map]; show ns.length + 1 ≤ 1000; omega), ?_⟩
 intro q2 hq2
 have L2 := L1.new hq2 (.lst (ns.map V.int ++ [.int (la + 1)]))
 generalize upd H1 q2 (.lst (ns.map V.int ++ [.int (la + 1)])) = H2 at L2 ⊢
 refine ⟨_, rfl, t, _, 0, _, rfl, rfl, SqT.of (L2.old pl.t), rfl, _, rfl, _, rfl, a, _, rfl, SqL.of (L2.old pl.a), ?_⟩
 rw [cut_last]
 intro q3 hq3
 have L3 := L2.new hq3 (.lst ((ns.map V.int).take ((ns.map V.int).length - 1)))
 generalize upd H2 q3 (.lst ((ns.map V.int).take ((ns.map V.int).length - 1))) = H3 at L3 ⊢
 refine ⟨_, rfl, (by show 1 ≤ sizeLine; decide), ?_⟩
 intro q4 hq4
 have L4 := L3.new hq4 (.lst [.int (la + 1)])
 generalize upd H3 q4 (.lst [.int (la + 1)]) = H4 at L4 ⊢
 refine ⟨q3, q4, _, _, rfl, rfl, L4.at (by repeat (first | exact List.mem_cons_self | apply List.mem_cons_of_mem)), L4.at (by repeat (first | exact List.mem_cons_self | apply List.mem_cons_of_mem)), small (by rw [List.length_take, List.length_map]; show _ + 1 ≤ 1000; omega), ?_⟩
 intro q5 hq5
 have L5 := L4.new hq5 (.lst ((ns.map V.int).take ((ns.map V.int).length - 1) ++ [.int (la + 1)]))
 generalize upd H4 q5 (.lst ((ns.map V.int).take ((ns.map V.int).length - 1) ++ [.int (la + 1)])) = H5 at L5 ⊢
 refine ⟨_, rfl, t, _, 0, _, rfl, rfl, SqT.of (L5.old pl.t), rfl, _, rfl, _, rfl, a, _, rfl, SqL.of (L5.old pl.a), ?_⟩
 rw [cut_last]
 intro q6 hq6
 have L6 := L5.new hq6 (.lst ((ns.map V.int).take ((ns.map V.int).length - 1)))
 generalize upd H5 q6 (.lst ((ns.map V.int).take ((ns.map V.int).length - 1))) = H6 at L6 ⊢
 refine ⟨_, rfl, t, _, 0, _, rfl, rfl, SqT.of (L6.old pl.t), rfl, a, _, rfl, .inl ⟨SqL.of (L6.old pl.a), ?_⟩⟩
 intro q7 hq7
 have L7 := L6.new hq7 (.tup (ns.map V.int))
 generalize upd H6 q7 (.tup (ns.map V.int)) = H7 at L7 ⊢
 refine ⟨(by show 5 ≤ sizeLine; decide), ?_⟩
 intro s1 hs1
 have L8 := L7.new hs1 (.lst [.ref q2, .ref q5, .ref q6, .ref q7, .non])
 generalize upd H7 s1 (.lst [.ref q2, .ref q5, .ref q6, .ref q7, .non]) = H8 at L8 ⊢
 refine ⟨_, rfl, ?_⟩
 intro q8 hq8
 have L9 := L8.new hq8 (.dK [])
 generalize upd H8 q8 (.dK []) = H9 at L9 ⊢
 refine ⟨(by show 0 ≤ sizeLine; decide), ?_⟩
 intro q9 hq9
 have L10 := L9.new hq9 (.tup [])
 generalize upd H9 q9 (.tup []) = H10 at L10 ⊢
 refine ⟨_, rfl, t, _, 0, _, rfl, rfl, SqT.of (L10.old pl.t), rfl, _, rfl, t, _, 0, _, rfl, rfl, SqT.of (L10.old pl.t), rfl, _, rfl, a, _, rfl, SqL.of (L10.old pl.a), ?_⟩
 rw [cut_one _ (by rw [List.length_map]; exact n1)]
 intro q10 hq10
 have L11 := L10.new hq10 (.lst ((ns.map V.int).take 1))
 generalize upd H10 q10 (.lst ((ns.map V.int).take 1)) = H11 at L11 ⊢
 refine ⟨a, q10, _, _, rfl, rfl, L11.old pl.a, L11.at (by repeat (first | exact List.mem_cons_self | apply List.mem_cons_of_mem)), small (by rw [List.length_take, List.length_map]; show _ + _ ≤ 1000; omega), ?_⟩
 intro q11 hq11
 have L12 := L11.new hq11 (.lst (ns.map V.int ++ (ns.map V.int).take 1))
 generalize upd H11 q11 (.lst (ns.map V.int ++ (ns.map V.int).take 1)) = H12 at L12 ⊢
 refine ⟨_, rfl, t, _, 0, _, rfl, rfl, SqT.of (L12.old pl.t), rfl, (by show 1 ≤ sizeLine; decide), ?_⟩
 intro q12 hq12
 have L13 := L12.new hq12 (.lst [.ref a])
 generalize upd H12 q12 (.lst [.ref a]) = H13 at L13 ⊢
 refine ⟨(by show 7 ≤ sizeLine; decide), ?_⟩
 intro s2 hs2
 have L14 := L13.new hs2 (.lst [.int 5, .str "", .ref q8, .ref q9, .bl true, .ref q11, .ref q12])
 generalize upd H13 s2 (.lst [.int 5, .str "", .ref q8, .ref q9, .bl true, .ref q11, .ref q12]) = H14 at L14 ⊢
 refine ⟨s1, s2, _, _, rfl, rfl, L14.at (by repeat (first | exact List.mem_cons_self | apply List.mem_cons_of_mem)), L14.at (by repeat (first | exact List.mem_cons_self | apply List.mem_cons_of_mem)), small (by show 12 ≤ 1000; decide), ?_⟩
 intro s3 hs3
 have L15 := L14.new hs3 (.lst ([.ref q2, .ref q5, .ref q6, .ref q7, .non] ++ [.int 5, .str "", .ref q8, .ref q9, .bl true, .ref q11, .ref q12]))
 generalize upd H14 s3 (.lst ([.ref q2, .ref q5, .ref q6, .ref q7, .non] ++ [.int 5, .str "", .ref q8, .ref q9, .bl true, .ref q11, .ref q12])) = H15 at L15 ⊢
 refine ⟨_, rfl, _, rfl, d, p, _, rfl, L15.D, by decide, ?_⟩
 intro r1 H16 r10 r11 D16 o16
 have L16 := L15.mv D16 (off_msk o16)
 obtain ⟨v, hv, hvm⟩ := pick_any (xs := ([.ref q2, .ref q5, .ref q6, .ref q7, .non, .int 5, .str "", .ref q8, .ref q9, .bl true, .ref q11, .ref q12] : List V)) r10 (by show r1 < ((12 : Nat) : Int); exact r11)
 refine ⟨s3, _, r1, v, rfl, rfl, SqL.of (L16.at (by repeat (first | exact List.mem_cons_self | apply List.mem_cons_of_mem))), hv, q v _ L16.D L16.G ?_⟩
 simp only [List.mem_cons, List.not_mem_nil, or_false] at hvm
 have nml : (ns.map V.int).length = ns.length := List.length_map _
 have ti : ∀ {M : Hp}, ∀ x ∈ ns.map V.int, Th M x 3 1 := fun x hx => by
  obtain ⟨z, hz, rfl⟩ := List.mem_map.mp hx
  have h1 := pl.ok.n.bd z hz
  have h2 := bn z hz
  exact Th.int (by omega)
 have tb : ∀ {M : Hp}, Th M (.int (la + 1)) 3 1 := Th.int (by omega)
 have up : ∀ {M : Hp} {x : V}, Th M x 100 2 → Th M x 2000 4 := fun h => h.mono (by decide) (by decide)
 have one : ∀ {M : Hp} {u : Addr} {xs : List V}, M u = some (.lst xs) → xs.length < 64 → ∀ (p : Addr) (ys : List V), V.ref u = .ref p → M p = some (.lst ys) → ys.length < 64 := fun {M u xs} h hl p ys e h2 => by
  cases e
  rw [h] at h2
  cases h2
  exact hl
 have noL : ∀ {M : Hp} {u : Addr} {xs : List V}, M u = some (.lst xs) → xs.length ≠ ns.length → ∀ (p : Addr) (zs : List Int), V.ref u = .ref p → M p = some (.lst (zs.map V.int)) → zs.Perm ns → False := fun {M u xs} h hl p zs e h2 pm => by
  cases e
  rw [h] at h2
  cases h2
  exact hl (by rw [List.length_map]; exact pm.length_eq)
 rcases hvm with e | e | e | e | e | e | e | e | e | e | e | e <;> rw [e]
 ·have hm := L16.m (q := q2) (by repeat (first | exact List.mem_cons_self | apply List.mem_cons_of_mem))
  have hl : (ns.map V.int ++ [V.int (la + 1)]).length = ns.length + 1 := by rw [List.length_append, nml]; rfl
  exact thg_row (up (th_some hm (by omega) fun x hx => by
   rcases List.mem_append.mp hx with y | y
   ·exact ti x y
   ·rw [List.mem_singleton.mp y]; exact tb)) (one hm (by omega)) (noL hm (by omega))
 ·have hm := L16.m (q := q5) (by repeat (first | exact List.mem_cons_self | apply List.mem_cons_of_mem))
  have hl : ((ns.map V.int).take ((ns.map V.int).length - 1) ++ [V.int (la + 1)]).length = ns.length := by rw [List.length_append, List.length_take, nml]; show min _ _ + 1 = _; omega
  refine thg_row (up (th_some hm (by omega) fun x hx => ?_)) (one hm (by omega)) fun u zs e h2 pm => ?_
  ·rcases List.mem_append.mp hx with y | y
   ·exact ti x (List.mem_of_mem_take y)
   ·rw [List.mem_singleton.mp y]; exact tb
  ·cases e
   rw [hm] at h2
   have h3 := HO.lst.inj (Option.some.inj h2)
   have mb : V.int (la + 1) ∈ zs.map V.int := by rw [← h3]; exact List.mem_append_right _ List.mem_cons_self
   obtain ⟨z, hz, ez⟩ := List.mem_map.mp mb
   have := V.int.inj ez
   have := max z (pm.mem_iff.mp hz)
   omega
 ·have hm := L16.m (q := q6) (by repeat (first | exact List.mem_cons_self | apply List.mem_cons_of_mem))
  have hl : ((ns.map V.int).take ((ns.map V.int).length - 1)).length = ns.length - 1 := by rw [List.length_take, nml]; omega
  exact thg_row (up (th_some hm (by omega) fun x hx => ti x (List.mem_of_mem_take hx))) (one hm (by omega)) (noL hm (by omega))
 ·have hm := L16.m (q := q7) (by repeat (first | exact List.mem_cons_self | apply List.mem_cons_of_mem))
  exact thg_row (up (th_some' hm (by omega) fun x hx => ti x hx)) (fun u xs e h2 => by cases e; rw [hm] at h2; cases h2) fun u zs e h2 _ => by cases e; rw [hm] at h2; cases h2
 ·exact thg_row Th.non (fun u xs e => by cases e) fun u zs e => by cases e
 ·exact thg_row (Th.int (by decide)) (fun u xs e => by cases e) fun u zs e => by cases e
 ·exact thg_row (Th.str (by decide) (by decide)) (fun u xs e => by cases e) fun u zs e => by cases e
 ·have hm := L16.m (q := q8) (by repeat (first | exact List.mem_cons_self | apply List.mem_cons_of_mem))
  exact thg_row (Th.dct hm) (fun u xs e h2 => by cases e; rw [hm] at h2; cases h2) fun u zs e h2 _ => by cases e; rw [hm] at h2; cases h2
 ·have hm := L16.m (q := q9) (o := .tup []) (by repeat (first | exact List.mem_cons_self | apply List.mem_cons_of_mem))
  exact thg_row ((Th.tup (n := 3) (k := 1) hm fun x hx => nomatch hx).mono (by decide) (by decide)) (fun u xs e h2 => by cases e; rw [hm] at h2; cases h2) fun u zs e h2 _ => by cases e; rw [hm] at h2; cases h2
 ·exact thg_row (Th.bl _) (fun u xs e => by cases e) fun u zs e => by cases e
 ·have hm := L16.m (q := q11) (by repeat (first | exact List.mem_cons_self | apply List.mem_cons_of_mem))
  have hl : (ns.map V.int ++ (ns.map V.int).take 1).length = ns.length + 1 := by rw [List.length_append, List.length_take, nml]; omega
  exact thg_row (up (th_some hm (by omega) fun x hx => by
   rcases List.mem_append.mp hx with y | y
   ·exact ti x y
   ·exact ti x (List.mem_of_mem_take y))) (one hm (by omega)) (noL hm (by omega))
 ·have hm := L16.m (q := q12) (o := .lst [.ref a]) (by repeat (first | exact List.mem_cons_self | apply List.mem_cons_of_mem))
  have ha := L16.G _ _ pl.a
  refine thg_row ((Th.lst (n := 100) (k := 2) hm fun x hx => ?_).mono (by show 1 * 101 ≤ 2000; decide) (by decide)) (one hm (by show 1 < 64; decide)) fun u zs e h2 _ => ?_
  ·rw [List.mem_singleton.mp hx]
   exact th_some ha (by omega) fun x hx => ti x hx
  ·cases e
   rw [hm] at h2
   have h3 := HO.lst.inj (Option.some.inj h2)
   cases zs with
   | nil => cases h3
   | cons z r => cases h3
end
abbrev sStr : Stmt := top 58
theorem thg_num {M : Hp} {v : V} {ns : List Int} (th : Th M v 2000 4) (h : ∀ i : Int, v = .int i → i ∉ ns) : Thg M v fun d => numIn ns d = false := by
 obtain ⟨d, hd, f⟩ := th
 refine ⟨d, hd, f, ?_⟩
 cases hd with
 | int i => exact Bool.eq_false_iff.mpr fun z => h i rfl (List.contains_iff_mem.mp z)
 | _ => rfl
def spStr : Sp := fun vs H Q _ => ∃ (d p t a b : Addr) (ns ss : List Int), vs = [.ref d, .ref t] ∧ Sto H d p ∧ IsPl (msk (S1 d) H) t a b ns ss ∧ (∀ x ∈ ns, x < 10 ^ 29 - 20) ∧ ∀ (v : V) (H' : Hp), Sto H' d p → Same (msk (S1 d) H) (msk (S1 d) H') → Thg (msk (S1 d) H') v (fun dd => numIn ns dd = false) → Q v H'
section
variable {f tk : Addr} {fd tkd : FuncData}
theorem scStr : FnScope ["store", "plan", "odd", "near", "some"] ["store", "plan"] (defScope sStr) := ⟨rfl, rfl, rfl, by decide +kernel, rfl, by decide +kernel, by decide +kernel⟩
set_option maxHeartbeats 0 in
theorem ok_str (F : Fun K "_law_strange" "_law_strange" sStr f fd) (B : Bt3 mg) (GT : FnOk P w K mg base CX0 1 tk tkd ["store", "many"] spTk) (bT : Binds K tkd ["store", "many"] []) (kT : Kee K tk) (mT : mg "_law_take" = some (.ref tk)) : FnOk P w K mg base CX0 2 f fd ["store", "plan"] spStr := by
 refine F.ok scStr (fun vs H Q E h => ?_) (fun cdv A outer s H0 vs Q E hr h => ?_)
 ·obtain ⟨d, p, t, a, b, ns, ss, rfl, _⟩ := h
  rfl
 obtain ⟨d, p, t, a, b, ns, ss, rfl, D, pl, bn, q⟩ := h
 have n1 := pl.ok.n1
 have n10 := pl.ok.n2
 have nml : (ns.map V.int).length = ns.length := List.length_map _
 refine ⟨_, (@pss_cons _ _ _ _ _ (ps_set (i := 2) scStr.nd rfl (Or.inl rfl) (QE.h (qe_lst (qa_cons (QE.mk (pe_un un_neg pe_int)) (qa_cons (QE.mk pe_bl) (qa_cons (QE.mk pe_bl) (qa_cons (QE.mk pe_non) (qa_cons (QE.mk pe_str) (qa_cons (qe_lst (qa_cons (QE.mk pe_int) qa_nil)) (qa_cons (qe_tup (qa_cons (QE.mk pe_int) qa_nil)) (qa_cons (QE.mk pe_dnewK) (qa_cons (qe_op op_sub (QE.mk pe_int) (qe_op op_pow (QE.mk pe_int) (QE.mk pe_int))) (qa_cons (qe_op op_sub (QE.mk (pe_un un_neg pe_int)) (QE.mk (pe_call GT hr rfl mT kT bT .nil pass0 (QA.h (qa_cons (QE.mk (pv 0)) (qa_cons (QE.mk pe_int) qa_nil)))))) qa_nil))))))))))))) (@pss_cons _ _ _ _ _ (ps_set (i := 3) scStr.nd rfl (Or.inl rfl) (QE.h (qe_op op_cat (QE.mk (pe_comp ["one"] rfl (blk_ok (defScope sStr) ["store", "plan", "odd", "near", "some"] rfl rfl (by decide +kernel)) (pi_list (pe_ix ix_tup (pv 1) pe_int (fun _ _ => rfl))) (fun pins C fp s3 H3 => ⟨(pg_name (i := 0) (show (blkN ["one"] ["store", "plan", "odd", "near", "some"]).Nodup by decide +kernel) rfl (Or.inl rfl)), pif_nil, (pe_op op_add (pv 0) pe_int)⟩))) (QE.mk (pe_comp ["one"] rfl (blk_ok (defScope sStr) ["store", "plan", "odd", "near", "some"] rfl rfl (by decide +kernel)) (pi_list (pe_ix ix_tup (pv 1) pe_int (fun _ _ => rfl))) (fun pins C fp s3 H3 => ⟨(pg_name (i := 0) (show (blkN ["one"] ["store", "plan", "odd", "near", "some"]).Nodup by decide +kernel) rfl (Or.inl rfl)), pif_nil, (pe_op op_sub (pv 0) pe_int)⟩)))))) (@pss_cons _ _ _ _ _ (ps_set (i := 3) scStr.nd rfl (Or.inl rfl) (QE.h (qe_op op_cat (QE.mk (pv 3)) (qe_lst (qa_cons (QE.mk pe_int) (qa_cons (QE.mk (pe_call GT hr rfl mT kT bT .nil pass0 (QA.h (qa_cons (QE.mk (pv 0)) (qa_cons (qe_op op_add (QE.mk (pe_ix ix_list (pe_ix ix_tup (pv 1) pe_int (fun _ _ => rfl)) (pe_un un_neg pe_int) (fun _ _ => rfl))) (QE.mk pe_int)) qa_nil))))) qa_nil)))))) (@pss_cons _ _ _ _ _ (ps_comp ["one"] rfl (blk_ok (defScope sStr) ["store", "plan", "odd", "near", "some"] rfl rfl (by decide +kernel)) (pi_list (pv 3)) (fun pins C fp s3 H3 => ⟨(pg_name (i := 0) (show (blkN ["one"] ["store", "plan", "odd", "near", "some"]).Nodup by decide +kernel) rfl (Or.inl rfl)), (pif_one (pt_cmpR (op_notInI K) (pv 0) (pe_ix (ix_tupK K) (pv 2) pe_int (fun _ _ => rfl)) rfl)), (pv 0)⟩) (j := 3) scStr.nd rfl (Or.inl rfl) rfl) (@pss_cons _ _ _ _ _ (ps_expr (pe_bm PySem.F.plainAttrs_list PySem.F.slot_list_append PySem.F.type_list_append mt_append (pv 3) (QA.h (qa_cons (qe_op op_add (qe_op op_add (QE.mk (pe_ix ix_list (pe_ix ix_tup (pv 1) pe_int (fun _ _ => rfl)) (pe_un un_neg pe_int) (fun _ _ => rfl))) (QE.mk pe_int)) (QE.mk (pe_call GT hr rfl mT kT bT .nil pass0 (QA.h (qa_cons (QE.mk (pv 0)) (qa_cons (QE.mk pe_int) qa_nil)))))) qa_nil)))) (@pss_cons _ _ _ _ _ (ps_set (i := 4) scStr.nd rfl (Or.inl rfl) (QE.h (qe_lst (qa_cons (QE.mk (pe_ix ix_list (pv 2) (pe_call GT hr rfl mT kT bT .nil pass0 (QA.h (qa_cons (QE.mk (pv 0)) (qa_cons (QE.mk pe_int) qa_nil)))) (fun _ _ => rfl))) (qa_cons (QE.mk (pe_ix ix_list (pv 3) (pe_call GT hr rfl mT kT bT .nil pass0 (QA.h (qa_cons (QE.mk (pv 0)) (qa_cons (QE.mk (pe_callB call_len_seq rfl B.len PySem.boot_len (QA.h (qa_cons (QE.mk (pv 3)) qa_nil)))) qa_nil)))) (fun _ _ => rfl))) qa_nil))))) (@pss_one _ _ _ (ps_ret (pe_ix ix_list (pv 4) (pe_call GT hr rfl mT kT bT .nil pass0 (QA.h (qa_cons (QE.mk (pv 0)) (qa_cons (QE.mk pe_int) qa_nil)))) (fun _ _ => rfl)))))))))), ?_⟩
 have L0 : Lv d p H0 H0 [] := Lv.start D
 obtain ⟨la, hla, mla, max⟩ := last_max pl.ok.n n1
 have la0 := pl.ok.n.bd la mla
 have la1 := bn la mla
 refine ⟨_, rfl, (by show 1 ≤ sizeLine; decide), ?_⟩
 intro q1 hq1
 have L1 := L0.new hq1 (.lst [.int 1])
 generalize upd H0 q1 (.lst [.int 1]) = H1 at L1 ⊢
 refine ⟨(by show 1 ≤ sizeLine; decide), ?_⟩
 intro q2 hq2
 have L2 := L1.new hq2 (.tup [.int 1])
 generalize upd H1 q2 (.tup [.int 1]) = H2 at L2 ⊢
 intro q3 hq3
 have L3 := L2.new hq3 (.dK [])
 generalize upd H2 q3 (.dK []) = H3 at L3 ⊢
 refine ⟨_, _, rfl, rfl, ⟨by decide, by decide, by decide⟩, _, _, rfl, rfl, _, rfl, _, rfl, d, p, _, rfl, L3.D, by decide, ?_⟩
 intro r1 H4 r10 r11 D4 o4
 have L4 := L3.mv D4 (off_msk o4)
 refine ⟨_, _, rfl, rfl, (by show 10 ≤ sizeLine; decide), ?_⟩
 intro q4 hq4
 have L5 := L4.new hq4 (.lst [.int (-1), .bl true, .bl false, .non, .str "1", .ref q1, .ref q2, .ref q3, .int (0 - (10 : Int) ^ (25 : Int).toNat), .int (-1 - r1)])
 generalize upd H4 q4 (.lst [.int (-1), .bl true, .bl false, .non, .str "1", .ref q1, .ref q2, .ref q3, .int (0 - (10 : Int) ^ (25 : Int).toNat), .int (-1 - r1)]) = H5 at L5 ⊢
 refine ⟨_, rfl, t, _, 0, _, rfl, rfl, SqT.of (L5.old pl.t), rfl, a, rfl, ⟨_, SqL.of (L5.old pl.a)⟩, fun D1 hD1 => ?_⟩
 refine turns_list (σ := [some (.ref d), some (.ref t), some (.ref q4), none, none]) (xs := ns.map V.int) (fun _ => true) (fun i => .int (ns.getD i 0 + 1)) (SqL.of (L5.old pl.a)) hD1 (by rw [nml]; omega) (fun i H' hi g P hP => hP _ Same.rfl') (fun i H' hi _ g P hP => ?_) fun H6 g6 e6 => ?_
 ·have hi' : i < ns.length := by rw [nml] at hi; exact hi
  have x1 : (ns.map V.int).getD i .non = .int (ns.getD i 0) := by rw [List.getD_eq_getElem?_getD, List.getElem?_map, getD_at hi']; rfl
  rw [x1]
  exact ⟨_, rfl, _, _, rfl, rfl, hP _ Same.rfl'⟩
 obtain ⟨zs, ez, zl, zb⟩ : ∃ zs : List Int, H6 D1 = some (.lst (zs.map V.int)) ∧ zs.length = ns.length ∧ ∀ z ∈ zs, -1 ≤ z ∧ z < 10 ^ 29 := by
  refine ⟨(List.range ns.length).map fun i => ns.getD i 0 + 1, ?_, by rw [List.length_map, List.length_range], fun z hz => ?_⟩
  ·rw [e6, List.filter_eq_self.mpr fun _ _ => rfl, nml, List.map_map]; rfl
  ·obtain ⟨i, hi, rfl⟩ := List.mem_map.mp hz
   have m := List.mem_of_getElem? (getD_at (ns := ns) (List.mem_range.mp hi))
   have h1 := pl.ok.n.bd _ m
   have h2 := bn _ m
   omega
 have L6 := L5.add g6 hD1 ez
 clear g6 e6 hD1
 refine ⟨_, rfl, t, _, 0, _, rfl, rfl, SqT.of (L6.old pl.t), rfl, a, rfl, ⟨_, SqL.of (L6.old pl.a)⟩, fun D2 hD2 => ?_⟩
 refine turns_list (σ := [some (.ref d), some (.ref t), some (.ref q4), none, none]) (xs := ns.map V.int) (fun _ => true) (fun i => .int (ns.getD i 0 - 1)) (SqL.of (L6.old pl.a)) hD2 (by rw [nml]; omega) (fun i H' hi g P hP => hP _ Same.rfl') (fun i H' hi _ g P hP => ?_) fun H7 g7 e7 => ?_
 ·have hi' : i < ns.length := by rw [nml] at hi; exact hi
  have x1 : (ns.map V.int).getD i .non = .int (ns.getD i 0) := by rw [List.getD_eq_getElem?_getD, List.getElem?_map, getD_at hi']; rfl
  rw [x1]
  exact ⟨_, rfl, _, _, rfl, rfl, hP _ Same.rfl'⟩
 obtain ⟨ys, ey, yl, yb⟩ : ∃ zs : List Int, H7 D2 = some (.lst (zs.map V.int)) ∧ zs.length = ns.length ∧ ∀ z ∈ zs, -1 ≤ z ∧ z < 10 ^ 29 := by
  refine ⟨(List.range ns.length).map fun i => ns.getD i 0 - 1, ?_, by rw [List.length_map, List.length_range], fun z hz => ?_⟩
  ·rw [e7, List.filter_eq_self.mpr fun _ _ => rfl, nml, List.map_map]; rfl
  ·obtain ⟨i, hi, rfl⟩ := List.mem_map.mp hz
   have m := List.mem_of_getElem? (getD_at (ns := ns) (List.mem_range.mp hi))
   have h1 := pl.ok.n.bd _ m
   have h2 := bn _ m
   omega
 have L7 := L6.add g7 hD2 ey
 clear g7 e7 hD2
 refine ⟨D1, D2, _, _, rfl, rfl, L7.at (by repeat (first | exact List.mem_cons_self | apply List.mem_cons_of_mem)), L7.at (by repeat (first | exact List.mem_cons_self | apply List.mem_cons_of_mem)), small (by rw [List.length_map, List.length_map]; omega), ?_⟩
 intro q5 hq5
 have L8 := L7.new hq5 (.lst (zs.map V.int ++ ys.map V.int))
 generalize upd H7 q5 (.lst (zs.map V.int ++ ys.map V.int)) = H8 at L8 ⊢
 refine ⟨_, rfl, _, rfl, _, rfl, t, _, 0, _, rfl, rfl, SqT.of (L8.old pl.t), rfl, _, rfl, a, _, _, _, rfl, rfl, SqL.of (L8.old pl.a), hla, _, _, rfl, rfl, d, p, _, rfl, L8.D, by omega, ?_⟩
 intro r2 H9 r20 r21 D9 o9
 have L9 := L8.mv D9 (off_msk o9)
 refine ⟨two_le, ?_⟩
 intro q6 hq6
 have L10 := L9.new hq6 (.lst [.int 0, .int r2])
 generalize upd H9 q6 (.lst [.int 0, .int r2]) = H10 at L10 ⊢
 refine ⟨q5, q6, _, _, rfl, rfl, L10.at (by repeat (first | exact List.mem_cons_self | apply List.mem_cons_of_mem)), L10.at (by repeat (first | exact List.mem_cons_self | apply List.mem_cons_of_mem)), small (by rw [List.length_append, List.length_map, List.length_map]; show _ + 2 ≤ 1000; omega), ?_⟩
 intro q7 hq7
 have L11 := L10.new hq7 (.lst ((zs.map V.int ++ ys.map V.int) ++ [.int 0, .int r2]))
 generalize upd H10 q7 (.lst ((zs.map V.int ++ ys.map V.int) ++ [.int 0, .int r2])) = H11 at L11 ⊢
 obtain ⟨us, eu, ul, ub⟩ : ∃ us : List Int, ((zs.map V.int ++ ys.map V.int) ++ [.int 0, .int r2] : List V) = us.map V.int ∧ us.length ≤ 22 ∧ ∀ z ∈ us, -1 ≤ z ∧ z < 10 ^ 29 := by
  refine ⟨(zs ++ ys) ++ [0, r2], by rw [List.map_append, List.map_append]; rfl, by rw [List.length_append, List.length_append]; show _ + 2 ≤ 22; omega, fun z hz => ?_⟩
  rcases List.mem_append.mp hz with h | h
  ·rcases List.mem_append.mp h with h | h
   ·exact zb z h
   ·exact yb z h
  ·simp only [List.mem_cons, List.not_mem_nil, or_false] at h
   rcases h with h | h <;> omega
 rw [eu] at L11
 have uml : (us.map V.int).length = us.length := List.length_map _
 refine ⟨_, rfl, q7, rfl, ⟨_, SqL.of (L11.at (by repeat (first | exact List.mem_cons_self | apply List.mem_cons_of_mem)))⟩, fun D3 hD3 => ?_⟩
 refine turns_list (σ := [some (.ref d), some (.ref t), some (.ref q4), some (.ref q7), none]) (xs := us.map V.int) (fun i => !ns.contains (us.getD i 0)) (fun i => .int (us.getD i 0)) (SqL.of (L11.at (by repeat (first | exact List.mem_cons_self | apply List.mem_cons_of_mem)))) hD3 (by rw [uml]; omega) (fun i H' hi g P hP => ?_) (fun i H' hi _ g P hP => ?_) fun H12 g12 e12 => ?_
 ·have hi' : i < us.length := by rw [uml] at hi; exact hi
  have x1 : (us.map V.int).getD i .non = .int (us.getD i 0) := by rw [List.getD_eq_getElem?_getD, List.getElem?_map, getD_at hi']; rfl
  rw [x1]
  exact ⟨_, rfl, _, rfl, t, _, 0, _, rfl, rfl, SqT.of (g _ _ (L11.old pl.t)), rfl, a, us.getD i 0, ns, rfl, rfl, SqL.of (g _ _ (L11.old pl.a)), _, rfl, hP _ Same.rfl'⟩
 ·have hi' : i < us.length := by rw [uml] at hi; exact hi
  have x1 : (us.map V.int).getD i .non = .int (us.getD i 0) := by rw [List.getD_eq_getElem?_getD, List.getElem?_map, getD_at hi']; rfl
  rw [x1]
  exact ⟨_, rfl, hP _ Same.rfl'⟩
 obtain ⟨fs, ef, fl, fb⟩ : ∃ fs : List Int, H12 D3 = some (.lst (fs.map V.int)) ∧ fs.length ≤ 22 ∧ ∀ z ∈ fs, (-1 ≤ z ∧ z < 10 ^ 29) ∧ z ∉ ns := by
  refine ⟨((List.range us.length).filter fun i => !ns.contains (us.getD i 0)).map fun i => us.getD i 0, ?_, ?_, fun z hz => ?_⟩
  ·rw [e12, uml, List.map_map]; rfl
  ·rw [List.length_map]
   have := List.length_filter_le (fun i => !ns.contains (us.getD i 0)) (List.range us.length)
   rw [List.length_range] at this
   omega
  ·obtain ⟨i, hi, rfl⟩ := List.mem_map.mp hz
   obtain ⟨h1, h2⟩ := List.mem_filter.mp hi
   refine ⟨ub _ (List.mem_of_getElem? (getD_at (List.mem_range.mp h1))), fun z => ?_⟩
   rw [List.contains_iff_mem.mpr z] at h2
   cases h2
 have L12 := L11.add g12 hD3 ef
 clear g12 e12 hD3
 refine ⟨_, rfl, .inl ⟨rfl, _, SqL.of (L12.at (by repeat (first | exact List.mem_cons_self | apply List.mem_cons_of_mem)))⟩, _, rfl, t, _, 0, _, rfl, rfl, SqT.of (L12.old pl.t), rfl, _, rfl, a, _, _, _, rfl, rfl, SqL.of (L12.old pl.a), hla, _, _, rfl, rfl, _, rfl, d, p, _, rfl, L12.D, by decide, ?_⟩
 intro r3 H13 r30 r31 D13 o13
 have L13 := L12.mv D13 (off_msk o13)
 have fml : (fs.map V.int).length = fs.length := List.length_map _
 refine ⟨_, _, rfl, rfl, D3, _, _, rfl, rfl, L13.at (by repeat (first | exact List.mem_cons_self | apply List.mem_cons_of_mem)), Nat.lt_of_le_of_lt (show (fs.map V.int).length ≤ 22 by omega) (by show 22 < sizeLine; decide), ?_⟩
 have L14 := L13.put (.lst (fs.map V.int ++ [.int (la + 1 + r3)]))
 generalize upd H13 D3 (.lst (fs.map V.int ++ [.int (la + 1 + r3)])) = H14 at L14 ⊢
 obtain ⟨ws, ew, wl, wl2, wb⟩ : ∃ ws : List Int, (fs.map V.int ++ [.int (la + 1 + r3)] : List V) = ws.map V.int ∧ 1 ≤ ws.length ∧ ws.length ≤ 23 ∧ ∀ z ∈ ws, (-1 ≤ z ∧ z < 10 ^ 29) ∧ z ∉ ns := by
  refine ⟨fs ++ [la + 1 + r3], by rw [List.map_append]; rfl, by rw [List.length_append]; show 1 ≤ _ + 1; omega, by rw [List.length_append]; show _ + 1 ≤ 23; omega, fun z hz => ?_⟩
  rcases List.mem_append.mp hz with h | h
  ·exact fb z h
  ·rw [List.mem_singleton.mp h]
   exact ⟨by omega, fun m => by have := max _ m; omega⟩
 rw [ew] at L14
 have wml : (ws.map V.int).length = ws.length := List.length_map _
 refine ⟨_, rfl, _, rfl, d, p, _, rfl, L14.D, by decide, ?_⟩
 intro r4 H15 r40 r41 D15 o15
 have L15 := L14.mv D15 (off_msk o15)
 obtain ⟨v1, hv1, mv1⟩ := pick_any (xs := ([.int (-1), .bl true, .bl false, .non, .str "1", .ref q1, .ref q2, .ref q3, .int (0 - (10 : Int) ^ (25 : Int).toNat), .int (-1 - r1)] : List V)) r40 (by show r4 < ((10 : Nat) : Int); exact r41)
 refine ⟨q4, _, r4, v1, rfl, rfl, SqL.of (L15.at (by repeat (first | exact List.mem_cons_self | apply List.mem_cons_of_mem))), hv1, ?_⟩
 refine ⟨_, rfl, _, rfl, _, rfl, D3, _, rfl, .inl (SqL.of (L15.at (by repeat (first | exact List.mem_cons_self | apply List.mem_cons_of_mem)))), d, p, _, rfl, L15.D, by rw [wml]; omega, ?_⟩
 intro r5 H16 r50 r51 D16 o16
 have L16 := L15.mv D16 (off_msk o16)
 obtain ⟨y, hy, my⟩ := pick_int ws r50 (by rw [wml] at r51; exact r51)
 refine ⟨D3, _, r5, .int y, rfl, rfl, SqL.of (L16.at (by repeat (first | exact List.mem_cons_self | apply List.mem_cons_of_mem))), hy, two_le, ?_⟩
 intro q8 hq8
 have L17 := L16.new hq8 (.lst [v1, .int y])
 generalize upd H16 q8 (.lst [v1, .int y]) = H17 at L17 ⊢
 refine ⟨_, rfl, _, rfl, d, p, _, rfl, L17.D, by decide, ?_⟩
 intro r6 H18 r60 r61 D18 o18
 have L18 := L17.mv D18 (off_msk o18)
 obtain ⟨v, hv, hvm⟩ := pick_any (xs := ([v1, .int y] : List V)) r60 (by show r6 < ((2 : Nat) : Int); exact r61)
 refine ⟨q8, _, r6, v, rfl, rfl, SqL.of (L18.at (by repeat (first | exact List.mem_cons_self | apply List.mem_cons_of_mem))), hv, q v _ L18.D L18.G ?_⟩
 simp only [List.mem_cons, List.not_mem_nil, or_false] at hvm mv1
 have e25 : (10 : Int) ^ (25 : Int).toNat = 10 ^ 25 := by decide
 rw [e25] at mv1
 have b30 : ∀ i : Int, -(10 ^ 29) < i → i < 10 ^ 29 → i.natAbs < 10 ^ 30 := fun i h1 h2 => by omega
 have neg : ∀ {i : Int}, i < 0 → i ∉ ns := fun h m => by have := pl.ok.n.bd _ m; omega
 rcases hvm with e | e <;> rw [e]
 ·rcases mv1 with e | e | e | e | e | e | e | e | e | e <;> rw [e]
  ·exact thg_num (Th.int (by decide)) fun i z => by cases z; exact neg (by decide)
  ·exact thg_num (Th.bl _) fun i z => by cases z
  ·exact thg_num (Th.bl _) fun i z => by cases z
  ·exact thg_num Th.non fun i z => by cases z
  ·exact thg_num (Th.str (by decide) (by decide)) fun i z => by cases z
  ·exact thg_num (th_one (L18.m (by repeat (first | exact List.mem_cons_self | apply List.mem_cons_of_mem)))) fun i z => by cases z
  ·exact thg_num (th_oneT (L18.m (by repeat (first | exact List.mem_cons_self | apply List.mem_cons_of_mem)))) fun i z => by cases z
  ·exact thg_num (Th.dct (L18.m (by repeat (first | exact List.mem_cons_self | apply List.mem_cons_of_mem)))) fun i z => by cases z
  ·exact thg_num (Th.int (b30 _ (by omega) (by omega))) fun i z => by cases z; exact neg (by omega)
  ·exact thg_num (Th.int (b30 _ (by omega) (by omega))) fun i z => by cases z; exact neg (by omega)
 ·obtain ⟨⟨h1, h2⟩, h3⟩ := wb y my
  exact thg_num (Th.int (b30 _ (by omega) (by omega))) fun i z => by cases z; exact h3
end
abbrev sPr : Stmt := top 60
theorem thg_sh {M : Hp} {v : V} (th : Th M v 2000 4) (hs : ∀ (p : Addr) (xs : List V), v = .ref p → M p = some (.lst xs) → xs.length < 64) : Thg M v shortD := by
 obtain ⟨d, hd, f⟩ := th
 refine ⟨d, hd, f, ?_⟩
 cases hd with
 | lst e hx =>
  show _ < 64
  rw [← hx.len]
  exact hs _ _ rfl e
 | _ => trivial
def spPr : Sp := fun vs H Q _ => ∃ (d p t a b : Addr) (ns ss : List Int), vs = [.ref d, .ref t] ∧ Sto H d p ∧ IsPl (msk (S1 d) H) t a b ns ss ∧ (∀ x ∈ ns, x < 10 ^ 29 - 20) ∧ (∀ x ∈ ss, x < 10 ^ 29) ∧ ∀ H' : Hp, Sto H' d p → Same (msk (S1 d) H) (msk (S1 d) H') → Q (.bl true) H'
section
variable {f tk np re : Addr} {fd tkd npd red : FuncData}
theorem scPr : FnScope ["store", "plan", "k", "bad", "one", "other", "door"] ["store", "plan"] (defScope sPr) := ⟨rfl, rfl, rfl, by decide +kernel, rfl, by decide +kernel, by decide +kernel⟩
set_option maxHeartbeats 0 in
theorem ok_pr (F : Fun K "_law_plans_refused" "_law_plans_refused" sPr f fd) (B : Bt3 mg)
  (GN : FnOk P w K mg base CX0 29 np npd ["store", "plan"] spNop) (bN : Binds K npd ["store", "plan"] []) (kN : Kee K np) (mN : mg "_law_no_plan" = some (.ref np))
  (GT : FnOk P w K mg base CX0 29 tk tkd ["store", "many"] spTk) (bT : Binds K tkd ["store", "many"] []) (kT : Kee K tk) (mT : mg "_law_take" = some (.ref tk))
  (GR : FnOk P w K mg base CX0 29 re red ["door", "plan", "one", "other", "due"] spRef) (bR : Binds K red ["door", "plan", "one", "other", "due"] []) (kR : Kee K re) (mR : mg "_law_refused" = some (.ref re)) : FnOk P w K mg base CX0 30 f fd ["store", "plan"] spPr := by
 refine F.ok scPr (fun vs H Q E h => ?_) (fun cdv A outer s H vs Q E hr h => ?_)
 ·obtain ⟨d, p, t, a, b, ns, ss, rfl, _⟩ := h
  rfl
 obtain ⟨d, p, t, a, b, ns, ss, rfl, D, pl, bn, bs, q⟩ := h
 have n1 := pl.ok.n1
 have n10 := pl.ok.n2
 have nml : (ns.map V.int).length = ns.length := List.length_map _
 obtain ⟨la, hla, mla, max⟩ := last_max pl.ok.n n1
 obtain ⟨fi, hfi, mfi⟩ := pick_int ns (r := 0) (by decide) (by omega)
 have i30 : ∀ z ∈ ns, z.natAbs < 10 ^ 30 := fun z hz => by
  have h1 := pl.ok.n.bd z hz
  have h2 := bn z hz
  omega
 refine ⟨_, (@pss_cons _ _ _ _ _ (ps_for PassesOwn.never rfl (pi_range1 rfl B.range (QA.h (qa_cons (QE.mk pe_int) qa_nil))) (pg_name (i := 2) scPr.nd rfl (Or.inl rfl)) (@pss_cons _ _ _ _ _ (ps_set (i := 3) scPr.nd rfl (Or.inl rfl) (pe_call GN hr rfl mN kN bN .nil pass0 (QA.h (qa_cons (QE.mk (pv 0)) (qa_cons (QE.mk (pv 1)) qa_nil))))) (@pss_cons _ _ _ _ _ (ps_set (i := 4) scPr.nd rfl (Or.inl rfl) (pe_ix ix_list (pe_lst (QA.h (qa_cons (QE.mk (pe_ix ix_list (pe_ix ix_tup (pv 1) pe_int (fun _ _ => rfl)) pe_int (fun _ _ => rfl))) (qa_cons (QE.mk pe_non) (qa_cons (QE.mk pe_int) (qa_cons (QE.mk (pe_un un_neg pe_int)) (qa_cons (QE.mk pe_str) (qa_cons (QE.mk (pe_callTy call_list_of rfl B.list PyProof.Rows.boot_list (QA.h (qa_cons (QE.mk (pe_ix ix_tup (pv 1) pe_int (fun _ _ => rfl))) qa_nil)))) qa_nil)))))))) (pe_call GT hr rfl mT kT bT .nil pass0 (QA.h (qa_cons (QE.mk (pv 0)) (qa_cons (QE.mk pe_int) qa_nil)))) (fun _ _ => rfl))) (@pss_cons _ _ _ _ _ (ps_set (i := 5) scPr.nd rfl (Or.inl rfl) (pe_ix ix_list (pe_lst (QA.h (qa_cons (QE.mk (pe_ix ix_list (pe_ix ix_tup (pv 1) pe_int (fun _ _ => rfl)) (pe_un un_neg pe_int) (fun _ _ => rfl))) (qa_cons (QE.mk pe_non) (qa_cons (QE.mk pe_bl) (qa_cons (qe_lst (qa_cons (QE.mk pe_int) qa_nil)) qa_nil)))))) (pe_call GT hr rfl mT kT bT .nil pass0 (QA.h (qa_cons (QE.mk (pv 0)) (qa_cons (QE.mk pe_int) qa_nil)))) (fun _ _ => rfl))) (@pss_one _ _ _ (ps_for PassesOwn.never rfl (pi_range1 rfl B.range (QA.h (qa_cons (QE.mk pe_int) qa_nil))) (pg_name (i := 6) scPr.nd rfl (Or.inl rfl)) (@pss_one _ _ _ (ps_if (pt_not (pt_val (pe_call GR hr rfl mR kR bR .nil pass0 (QA.h (qa_cons (QE.mk (pv 6)) (qa_cons (QE.mk (pv 3)) (qa_cons (QE.mk (pv 4)) (qa_cons (QE.mk (pv 5)) (qa_cons (QE.mk pe_int) qa_nil))))))))) (@pss_one _ _ _ (ps_ret pe_bl)) pss_nil)))))))) (@pss_one _ _ _ (ps_ret pe_bl))), ?_⟩
 refine ⟨_, rfl, by decide, by decide, ?_⟩
 refine for_range (lo := 0) (n := (6 : Int).toNat) (fun i σ H' => ∃ (y2 y3 y4 y5 y6 : Option V), σ = [some (.ref d), some (.ref t), y2, y3, y4, y5, y6] ∧ Sto H' d p ∧ Same (msk (S1 d) H) (msk (S1 d) H')) ⟨_, _, _, _, _, rfl, D, Same.rfl'⟩ ?_ ?_
 ·rintro i σ H1 hi ⟨y2, y3, y4, y5, y6, rfl, S1', G1⟩
  refine ⟨_, rfl, _, rfl, d, p, t, a, b, ns, ss, rfl, S1', pl.same G1, (fun x hx => by have := bn x hx; omega), bs, fun bv H2 S2' g2 nb => ?_⟩
  have G2 := G1.trans g2
  have pl2 := pl.same G2
  have L0 : Lv d p H2 H2 [] := Lv.start S2'
  refine ⟨_, rfl, t, _, 0, _, rfl, rfl, SqT.of (L0.old pl2.t), rfl, a, _, 0, _, rfl, rfl, SqL.of (L0.old pl2.a), hfi, _, rfl, _, rfl, t, _, 0, _, rfl, rfl, SqT.of (L0.old pl2.t), rfl, a, _, rfl, .inl (SqL.of (L0.old pl2.a)), fun q1 hq1 => ?_⟩
  have L1 := L0.new hq1 (.lst (ns.map V.int))
  generalize upd H2 q1 (.lst (ns.map V.int)) = H3 at L1 ⊢
  refine ⟨(by show 6 ≤ sizeLine; decide), fun q2 hq2 => ?_⟩
  have L2 := L1.new hq2 (.lst [.int fi, .non, .int 0, .int (-1), .str "1", .ref q1])
  generalize upd H3 q2 (.lst [.int fi, .non, .int 0, .int (-1), .str "1", .ref q1]) = H4 at L2 ⊢
  refine ⟨_, rfl, d, p, _, rfl, L2.D, by decide, fun r1 H5 r10 r11 D5 o5 => ?_⟩
  have L3 := L2.mv D5 (off_msk o5)
  obtain ⟨v1, hv1, mv1⟩ := pick_any (xs := ([.int fi, .non, .int 0, .int (-1), .str "1", .ref q1] : List V)) r10 (by show r1 < ((6 : Nat) : Int); exact r11)
  refine ⟨q2, _, r1, v1, rfl, rfl, SqL.of (L3.at (by repeat (first | exact List.mem_cons_self | apply List.mem_cons_of_mem))), hv1, ?_⟩
  have t1 : Thg (msk (S1 d) H5) v1 shortD := by
   have hq := L3.m (q := q1) (by repeat (first | exact List.mem_cons_self | apply List.mem_cons_of_mem))
   simp only [List.mem_cons, List.not_mem_nil, or_false] at mv1
   rcases mv1 with e | e | e | e | e | e <;> rw [e]
   ·exact thg_sh (Th.int (i30 _ mfi)) fun u xs z => by cases z
   ·exact thg_sh Th.non fun u xs z => by cases z
   ·exact thg_sh (Th.int (by decide)) fun u xs z => by cases z
   ·exact thg_sh (Th.int (by decide)) fun u xs z => by cases z
   ·exact thg_sh (Th.str (by decide) (by decide)) fun u xs z => by cases z
   ·refine thg_sh ((th_some hq (by omega) fun x hx => ?_).mono (by decide) (by decide)) fun u xs z h2 => ?_
    ·obtain ⟨z, hz, rfl⟩ := List.mem_map.mp hx
     exact Th.int (i30 z hz)
    ·cases z
     rw [hq] at h2
     cases h2
     omega
  refine ⟨_, rfl, t, _, 0, _, rfl, rfl, SqT.of (L3.old pl2.t), rfl, _, rfl, a, _, _, _, rfl, rfl, SqL.of (L3.old pl2.a), hla, (by show 1 ≤ sizeLine; decide), fun q3 hq3 => ?_⟩
  have M3 : Lv d p H5 H5 [] := Lv.start L3.D
  have L4 := L3.new hq3 (.lst [.int 1])
  have M4 := M3.new hq3 (.lst [.int 1])
  generalize upd H5 q3 (.lst [.int 1]) = H6 at L4 M4 ⊢
  refine ⟨(by show 4 ≤ sizeLine; decide), fun q4 hq4 => ?_⟩
  have L5 := L4.new hq4 (.lst [.int la, .non, .bl true, .ref q3])
  have M5 := M4.new hq4 (.lst [.int la, .non, .bl true, .ref q3])
  generalize upd H6 q4 (.lst [.int la, .non, .bl true, .ref q3]) = H7 at L5 M5 ⊢
  refine ⟨_, rfl, d, p, _, rfl, L5.D, by decide, fun r2 H8 r20 r21 D8 o8 => ?_⟩
  have L6 := L5.mv D8 (off_msk o8)
  have G58 := (M5.mv D8 (off_msk o8)).G
  obtain ⟨v2, hv2, mv2⟩ := pick_any (xs := ([.int la, .non, .bl true, .ref q3] : List V)) r20 (by show r2 < ((4 : Nat) : Int); exact r21)
  refine ⟨q4, _, r2, v2, rfl, rfl, SqL.of (L6.at (by repeat (first | exact List.mem_cons_self | apply List.mem_cons_of_mem))), hv2, ?_⟩
  have t2 : Thg (msk (S1 d) H8) v2 fun _ => True := by
   have hq := L6.m (q := q3) (by repeat (first | exact List.mem_cons_self | apply List.mem_cons_of_mem))
   simp only [List.mem_cons, List.not_mem_nil, or_false] at mv2
   have tr : ∀ {M : Hp} {v : V}, Th M v 2000 4 → Thg M v fun _ => True := fun ⟨dd, h1, h2⟩ => ⟨dd, h1, h2, trivial⟩
   rcases mv2 with e | e | e | e <;> rw [e]
   ·exact tr (Th.int (i30 _ mla))
   ·exact tr Th.non
   ·exact tr (Th.bl _)
   ·exact tr (th_one hq)
  obtain ⟨dB, hB, fB, cB⟩ := nb.same L6.G
  obtain ⟨d1, h1, f1, s1⟩ := t1.same G58
  obtain ⟨d2, h2, f2, _⟩ := t2
  have G8 := G2.trans L6.G
  refine ⟨_, rfl, by decide, by decide, ?_⟩
  refine for_range (lo := 0) (n := (5 : Int).toNat) (fun j σ H' => ∃ (y6 : Option V), σ = [some (.ref d), some (.ref t), some (.int (0 + (i : Int))), some bv, some v1, some v2, y6] ∧ Same H8 H') ⟨_, rfl, Same.rfl'⟩ ?_ ?_
  ·rintro j σ H9 hj ⟨z6, rfl, g9⟩
   have j5 : j < 5 := hj
   refine ⟨_, rfl, _, rfl, _, rfl, _, rfl, 0 + (j : Int), bv, v1, v2, dB, d1, d2, 0, 0, rfl, (hB.same msk_le).same g9, (h1.same msk_le).same g9, (h2.same msk_le).same g9, fB, f1, f2, by omega, by omega, fun _ => s1, .inl ⟨rfl, rfl⟩, .inl ⟨cB, rfl⟩, fun H10 g10 => ⟨_, rfl, iteF ⟨_, rfl, g9.trans g10⟩⟩⟩
  ·rintro σ H9 ⟨z6, rfl, g9⟩
   exact ⟨_, _, _, _, _, rfl, D8.ex g9, G8.trans (msk_same g9)⟩
 ·rintro σ H1 ⟨y2, y3, y4, y5, y6, rfl, S1', G1⟩
  exact q _ S1' G1
end
abbrev sTr2 : Stmt := top 61
theorem all_intsU {M : Hp} : ∀ {ns : List Int} {ds : List PyData}, DatAll M (ns.map V.int) ds → ds = ns.map PyData.int
 | [], _, h => by cases h; rfl
 | n :: r, _, h => by
  cases h with
  | cons h t =>
   cases h
   rw [all_intsU t]
   rfl
theorem lst_uni {M : Hp} {a : Addr} {ns : List Int} {d : PyData} (ha : M a = some (.lst (ns.map V.int))) (h : Dat M (.ref a) d) : d = .list (ns.map PyData.int) := by
 cases h with
 | lst e hx => rw [ha] at e; cases e; rw [all_intsU hx]
 | tup e hx => rw [ha] at e; cases e
 | dct e => rw [ha] at e; cases e
theorem dat_uni {M : Hp} {t a b : Addr} {ns ss : List Int} {d : PyData} (pl : IsPl M t a b ns ss) (h : Dat M (.ref t) d) : d = .tuple [.list (ns.map PyData.int), .list (ss.map PyData.int)] := by
 cases h with
 | lst e hx => rw [pl.t] at e; cases e
 | tup e hx =>
  rw [pl.t] at e
  cases e
  cases hx with
  | cons h1 t1 =>
   cases t1 with
   | cons h2 t2 =>
    cases t2
    rw [lst_uni pl.a h1, lst_uni pl.b h2]
 | dct e => rw [pl.t] at e; cases e
def spTrf : Sp := fun vs H Q _ => ∃ (d p t a b : Addr) (ns ss : List Int), vs = [.ref d, .ref t, .int (cntW ns ss false : Nat)] ∧ Sto H d p ∧ IsPl (msk (S1 d) H) t a b ns ss ∧ (∀ x ∈ ns, x < 10 ^ 29 - 20) ∧ Th (msk (S1 d) H) (.ref t) 2000 4 ∧ ((cntW ns ss false : Nat) : Int) ≤ 10 ^ 20 ∧ ∀ H' : Hp, Sto H' d p → Same (msk (S1 d) H) (msk (S1 d) H') → Q (.bl true) H'
section
variable {f tk st od nr re : Addr} {fd tkd std odd nrd red : FuncData}
theorem scTr2 : FnScope ["store", "plan", "rows", "good", "k", "bad", "one", "other"] ["store", "plan", "rows"] (defScope sTr2) := ⟨rfl, rfl, rfl, by decide +kernel, rfl, by decide +kernel, by decide +kernel⟩
set_option maxHeartbeats 0 in
theorem ok_trf (F : Fun K "_law_things_refused" "_law_things_refused" sTr2 f fd) (B : Bt3 mg)
  (GS : FnOk P w K mg base CX0 29 st std ["store", "plan"] spStr) (bS : Binds K std ["store", "plan"] []) (kS : Kee K st) (mS : mg "_law_strange" = some (.ref st))
  (GO : FnOk P w K mg base CX0 29 od odd ["store", "many"] spOd) (bO : Binds K odd ["store", "many"] []) (kO : Kee K od) (mO : mg "_law_odd" = some (.ref od))
  (GW : FnOk P w K mg base CX0 29 nr nrd ["store", "plan"] spNrw) (bW : Binds K nrd ["store", "plan"] []) (kW : Kee K nr) (mW : mg "_law_no_row" = some (.ref nr))
  (GT : FnOk P w K mg base CX0 29 tk tkd ["store", "many"] spTk) (bT : Binds K tkd ["store", "many"] []) (kT : Kee K tk) (mT : mg "_law_take" = some (.ref tk))
  (GR : FnOk P w K mg base CX0 29 re red ["door", "plan", "one", "other", "due"] spRef) (bR : Binds K red ["door", "plan", "one", "other", "due"] []) (kR : Kee K re) (mR : mg "_law_refused" = some (.ref re)) : FnOk P w K mg base CX0 30 f fd ["store", "plan", "rows"] spTrf := by
 refine F.ok scTr2 (fun vs H Q E h => ?_) (fun cdv A outer s H vs Q E hr h => ?_)
 ·obtain ⟨d, p, t, a, b, ns, ss, rfl, _⟩ := h
  rfl
 obtain ⟨d, p, t, a, b, ns, ss, rfl, D, pl, bn, tp, cap, q⟩ := h
 have n1 := pl.ok.n1
 have n10 := pl.ok.n2
 have nml : (ns.map V.int).length = ns.length := List.length_map _
 have i30 : ∀ z ∈ ns, z.natAbs < 10 ^ 30 := fun z hz => by
  have h1 := pl.ok.n.bd z hz
  have h2 := bn z hz
  omega
 refine ⟨_, (@pss_cons _ _ _ _ _ (ps_set (i := 3) scTr2.nd rfl (Or.inl rfl) (pe_ix ix_list (pe_ix ix_tup (pv 1) pe_int (fun _ _ => rfl)) (pe_call GT hr rfl mT kT bT .nil pass0 (pa_cons (pv 0) (pa_cons (pe_callB call_len_seq rfl B.len PySem.boot_len (pa_cons (pe_ix ix_tup (pv 1) pe_int (fun _ _ => rfl)) pa_nil)) pa_nil))) (fun _ _ => rfl))) (@pss_cons _ _ _ _ _ (ps_for PassesOwn.never rfl (pi_range1 rfl B.range (pa_cons pe_int pa_nil)) (pg_name (i := 4) scTr2.nd rfl (Or.inl rfl)) (@pss_cons _ _ _ _ _ (ps_set (i := 5) scTr2.nd rfl (Or.inl rfl) (pe_call GS hr rfl mS kS bS .nil pass0 (pa_cons (pv 0) (pa_cons (pv 1) pa_nil)))) (@pss_cons _ _ _ _ _ (ps_for PassesOwn.never rfl (pi_list (pe_lst (pa_cons (pe_tup (pa_cons (pv 5) (pa_cons (pv 3) pa_nil))) (pa_cons (pe_tup (pa_cons (pv 3) (pa_cons (pv 5) pa_nil))) (pa_cons (pe_tup (pa_cons (pv 5) (pa_cons (pv 5) pa_nil))) pa_nil))))) (pg_tup rfl (pgs_cons (pg_name (i := 6) scTr2.nd rfl (Or.inl rfl)) (pgs_cons (pg_name (i := 7) scTr2.nd rfl (Or.inl rfl)) pgs_nil))) (@pss_one _ _ _ (ps_if (pt_not (pt_val (pe_call GR hr rfl mR kR bR .nil pass0 (pa_cons pe_int (pa_cons (pv 1) (pa_cons (pv 6) (pa_cons (pv 7) (pa_cons pe_int pa_nil)))))))) (@pss_one _ _ _ (ps_ret pe_bl)) pss_nil))) (@pss_cons _ _ _ _ _ (ps_if (pt_not (pt_val (pe_call GR hr rfl mR kR bR .nil pass0 (pa_cons pe_int (pa_cons (pv 1) (pa_cons (pe_call GO hr rfl mO kO bO .nil pass0 (pa_cons (pv 0) (pa_cons (pv 2) pa_nil))) (pa_cons pe_non (pa_cons pe_int pa_nil)))))))) (@pss_one _ _ _ (ps_ret pe_bl)) pss_nil) (@pss_one _ _ _ (ps_if (pt_not (pt_val (pe_call GR hr rfl mR kR bR .nil pass0 (pa_cons pe_int (pa_cons (pv 1) (pa_cons (pe_call GW hr rfl mW kW bW .nil pass0 (pa_cons (pv 0) (pa_cons (pv 1) pa_nil))) (pa_cons pe_non (pa_cons pe_int pa_nil)))))))) (@pss_one _ _ _ (ps_ret pe_bl)) pss_nil)))))) (@pss_one _ _ _ (ps_ret pe_bl)))), ?_⟩
 have L0 : Lv d p H H [] := Lv.start D
 refine ⟨_, rfl, t, _, 0, _, rfl, rfl, SqT.of (L0.old pl.t), rfl, _, rfl, _, rfl, t, _, 0, _, rfl, rfl, SqT.of (L0.old pl.t), rfl, a, _, rfl, .inl (SqL.of (L0.old pl.a)), d, p, _, rfl, D, by rw [nml]; omega, fun r1 H1 r10 r11 D1 o1 => ?_⟩
 have G1 := off_msk o1
 obtain ⟨gd, hgd, mgd⟩ := pick_int ns r10 (by rw [nml] at r11; exact r11)
 refine ⟨a, _, r1, _, rfl, rfl, SqL.of (msk_le _ _ (G1 _ _ pl.a)), hgd, ?_⟩
 refine ⟨_, rfl, by decide, by decide, ?_⟩
 refine for_range (lo := 0) (n := (4 : Int).toNat) (fun i σ H' => ∃ (y4 y5 y6 y7 : Option V), σ = [some (.ref d), some (.ref t), some (.int (cntW ns ss false : Nat)), some (.int gd), y4, y5, y6, y7] ∧ Sto H' d p ∧ Same (msk (S1 d) H) (msk (S1 d) H')) ⟨_, _, _, _, rfl, D1, G1⟩ ?_ ?_
 ·rintro i σ H2 hi ⟨y4, y5, y6, y7, rfl, S2', G2⟩
  refine ⟨_, rfl, _, rfl, d, p, t, a, b, ns, ss, rfl, S2', pl.same G2, bn, fun bv H3 S3' g3 tb => ?_⟩
  have G3 := G2.trans g3
  have pl3 := pl.same G3
  obtain ⟨dB, hB, fB, cB⟩ := tb
  obtain ⟨dP, hP, fP⟩ := tp.same G3
  have cP : planD dP = true := by
   obtain ⟨d', h', c'⟩ := pl3.dat
   rw [dat_uni pl3 hP, ← dat_uni pl3 h']
   exact c'
  have L1 : Lv d p H3 H3 [] := Lv.start S3'
  have gI : ∀ {M : Hp}, Dat M (.int gd) (.int gd) := .int gd
  obtain ⟨dG, hG0, fG⟩ : Th (msk (S1 d) H3) (.int gd) 2000 4 := Th.int (i30 _ mgd)
  have eG : dG = .int gd := by cases hG0; rfl
  subst eG
  refine ⟨_, rfl, _, rfl, two_le, fun u1 hu1 => ?_⟩
  have L2 := L1.new hu1 (.tup [bv, .int gd])
  generalize upd H3 u1 (.tup [bv, .int gd]) = H4 at L2 ⊢
  refine ⟨_, rfl, _, rfl, two_le, fun u2 hu2 => ?_⟩
  have L3 := L2.new hu2 (.tup [.int gd, bv])
  generalize upd H4 u2 (.tup [.int gd, bv]) = H5 at L3 ⊢
  refine ⟨_, rfl, _, rfl, two_le, fun u3 hu3 => ?_⟩
  have L4 := L3.new hu3 (.tup [bv, bv])
  generalize upd H5 u3 (.tup [bv, bv]) = H6 at L4 ⊢
  refine ⟨(by show 3 ≤ sizeLine; decide), fun l hl => ?_⟩
  have L5 := L4.new hl (.lst [.ref u1, .ref u2, .ref u3])
  generalize upd H6 l (.lst [.ref u1, .ref u2, .ref u3]) = H7 at L5 ⊢
  have el := L5.at (q := l) (by repeat (first | exact List.mem_cons_self | apply List.mem_cons_of_mem))
  refine ⟨l, rfl, ⟨_, SqL.of el⟩, ?_⟩
  have hB7 : Dat H7 bv dB := (hB.same L5.G).same msk_le
  have hP7 : Dat H7 (.ref t) dP := (hP.same L5.G).same msk_le
  have pl7 : IsPl H7 t a b ns ss := (pl3.same L5.G).same msk_le
  have it : ∀ rv ∈ ([.ref u1, .ref u2, .ref u3] : List V), ∃ (u : Addr) (x y : V) (dx dy : PyData), rv = .ref u ∧ H7 u = some (.tup [x, y]) ∧ Dat H7 x dx ∧ Dat H7 y dy ∧ Fine 2000 4 dx ∧ Fine 2000 4 dy ∧ (numIn ns dx && numIn ns dy) = false := fun rv hrv => by
   simp only [List.mem_cons, List.not_mem_nil, or_false] at hrv
   rcases hrv with e | e | e
   ·exact ⟨u1, bv, .int gd, dB, _, e, L5.at (by repeat (first | exact List.mem_cons_self | apply List.mem_cons_of_mem)), hB7, gI, fB, fG, by rw [cB]; rfl⟩
   ·exact ⟨u2, .int gd, bv, _, dB, e, L5.at (by repeat (first | exact List.mem_cons_self | apply List.mem_cons_of_mem)), gI, hB7, fG, fB, by rw [cB]; exact Bool.and_false _⟩
   ·exact ⟨u3, bv, bv, dB, dB, e, L5.at (by repeat (first | exact List.mem_cons_self | apply List.mem_cons_of_mem)), hB7, hB7, fB, fB, by rw [cB]; rfl⟩
  refine for_list (xs := ([.ref u1, .ref u2, .ref u3] : List V)) (fun j σ H' => ∃ (z6 z7 : Option V), σ = [some (.ref d), some (.ref t), some (.int (cntW ns ss false : Nat)), some (.int gd), some (.int (0 + (i : Int))), some bv, z6, z7] ∧ Same H7 H') ⟨_, _, rfl, Same.rfl'⟩ (fun j σ H' _ ⟨_, _, _, g⟩ => SqL.of (g _ _ el)) ?_ ?_
  ·rintro j rv σ H8 hrv ⟨z6, z7, rfl, g8⟩
   obtain ⟨u, x, y, dx, dy, rfl, hu, hx, hy, fx, fy, cxy⟩ := it rv (List.mem_of_getElem? hrv)
   refine ⟨u, _, rfl, SqT.of (g8 _ _ hu), rfl, _, _, rfl, _, _, rfl, rfl, ?_⟩
   refine ⟨_, rfl, _, rfl, _, rfl, 2, .ref t, x, y, dP, dx, dy, 1, 1, rfl, hP7.same g8, hx.same g8, hy.same g8, fP, fx, fy, by decide, by decide, (fun z => absurd z (by decide)), .inr (.inl ⟨rfl, rfl⟩), .inr ⟨cP, t, a, b, ns, ss, rfl, pl7.same g8, .inl ⟨rfl, rfl, cxy⟩⟩, fun H9 g9 => ⟨_, rfl, iteF ⟨_, _, rfl, g8.trans g9⟩⟩⟩
  ·rintro σ H8 ⟨z6, z7, rfl, g8⟩
   have G8 := (G3.trans L5.G).trans (msk_same (S := S1 d) g8)
   have S8 := L5.D.ex g8
   have fN : Fine 2000 4 PyData.none := ⟨rfl, rfl, Nat.zero_le _, Nat.zero_le _⟩
   have c0 : (0 : Int) ≤ ((cntW ns ss false : Nat) : Int) := Int.natCast_nonneg _
   refine ⟨_, rfl, _, rfl, _, rfl, d, p, _, rfl, S8, c0, cap, fun ov H9 S9 g9 to => ?_⟩
   have G9 := G8.trans g9
   have g39 := (L5.G.trans (msk_same (S := S1 d) g8)).trans g9
   obtain ⟨dO, hO, fO, cO⟩ := to
   refine ⟨3, .ref t, ov, .non, dP, dO, .none, 3, 2, rfl, (hP.same g39).same msk_le, hO.same msk_le, .non, fP, fO, fN, by decide, by decide, (fun z => absurd z (by decide)), .inr (.inr (.inl ⟨rfl, rfl⟩)), .inr ⟨cP, t, a, b, ns, ss, rfl, (pl.same G9).same msk_le, .inr (.inl ⟨rfl, rfl, cO⟩)⟩, fun H10 g10 => ⟨_, rfl, iteF ?_⟩⟩
   have G10 := G9.trans (msk_same (S := S1 d) g10)
   have g310 := g39.trans (msk_same (S := S1 d) g10)
   refine ⟨_, rfl, _, rfl, _, rfl, d, p, t, a, b, ns, ss, rfl, S9.ex g10, pl.same G10, (fun x hx => by have := bn x hx; omega), fun nv H11 S11 g11 tn => ?_⟩
   have G11 := G10.trans g11
   have g311 := g310.trans g11
   obtain ⟨dN, hN, fNw, shN, cN⟩ := tn
   refine ⟨4, .ref t, nv, .non, dP, dN, .none, 4, 3, rfl, (hP.same g311).same msk_le, hN.same msk_le, .non, fP, fNw, fN, by decide, by decide, (fun _ => shN), .inr (.inr (.inr ⟨rfl, rfl⟩)), .inr ⟨cP, t, a, b, ns, ss, rfl, (pl.same G11).same msk_le, .inr (.inr ⟨rfl, rfl, cN⟩)⟩, fun H12 g12 => ⟨_, rfl, iteF ?_⟩⟩
   exact ⟨_, _, _, _, rfl, S11.ex g12, G11.trans (msk_same g12)⟩
 ·rintro σ H1 ⟨y4, y5, y6, y7, rfl, S1', G1⟩
  exact q _ S1' G1
end
abbrev sWah : Stmt := inClass (top 34) 4
abbrev sSb : Stmt := inClass (top 34) 5
abbrev sPb : Stmt := inClass (top 34) 6
abbrev sNa : Stmt := inClass (top 34) 7
theorem FnOk_never {P : Program} {w : World} {K : PySem.W.Frag} {mg : Str → Option Value} {base : Heap} {CX : CXT} {k : Nat} {f : Addr} {fd : FuncData} {ps : List Str} : FnOk P w K mg base CX k f fd ps (fun _ _ _ _ => False) := ⟨fun _ _ _ _ h => h.elim, fun _ _ _ _ _ _ _ _ _ _ _ _ _ h => h.elim⟩
theorem sum_cap {f : Nat → Nat} {c : Nat} : ∀ {l : List Nat}, (∀ x ∈ l, f x ≤ c) → (l.map f).sum ≤ l.length * c
 | [], _ => Nat.zero_le _
 | a :: r, h => by
  have h1 := h a List.mem_cons_self
  have h2 := sum_cap (l := r) fun x hx => h x (List.mem_cons_of_mem _ hx)
  rw [List.map_cons, List.sum_cons, List.length_cons, Nat.succ_mul]
  omega
theorem waysF_cap {near : Nat → List Nat} {ends : Nat → Bool} (h : ∀ e, (near e).length ≤ 10) : ∀ m left e : Nat, waysF near ends m left e ≤ 10 ^ m
 | 0, _, e => by
  unfold waysF
  split <;> decide
 | m + 1, left, e => by
  have h1 := sum_cap (f := fun k => waysF near ends m (left - 2 ^ k) k) (c := 10 ^ m) (l := (near e).filter fun k => left.testBit k) fun k _ => waysF_cap h m _ k
  have h2 : ((near e).filter fun k => left.testBit k).length ≤ 10 := Nat.le_trans (List.length_filter_le _ _) (h e)
  show (((near e).filter fun k => left.testBit k).map fun k => waysF near ends m (left - 2 ^ k) k).sum ≤ _
  rw [Nat.pow_succ, Nat.mul_comm]
  exact Nat.le_trans h1 (Nat.mul_le_mul_right _ h2)
theorem cnt_capW {ns ss : List Int} (ok : PlanOk ns ss) : ((cntW ns ss false : Nat) : Int) ≤ 10 ^ 20 := by
 have n10 := ok.n2
 have hn : ∀ e, (nearX ns ss (firsts ns.length false) e).length ≤ 10 := fun e => by
  unfold nearX
  split
  ·unfold nearP
   exact Nat.le_trans (List.length_filter_le _ _) (by rw [List.length_range]; exact n10)
  ·show (List.range ns.length).length ≤ 10
   rw [List.length_range]
   exact n10
 have h := waysF_cap (ends := endsP ns ss false) hn (cnt (2 ^ ns.length - 1)) (2 ^ ns.length - 1) ns.length
 have c := cnt_le _ (whole_lt n10)
 have p : (10 : Nat) ^ cnt (2 ^ ns.length - 1) ≤ 10 ^ 10 := Nat.pow_le_pow_right (by decide) c
 have : cntW ns ss false ≤ 10 ^ 10 := Nat.le_trans h p
 omega
section
variable {f ds mk cp al pr tr ca : Addr} {fd dsd mkd cpd ald prd trd cad : FuncData}
theorem scLaw : FnScope ["script", "store", "turn", "plan", "handed", "rows", "door"] ["script"] (defScope sLaw) := ⟨rfl, rfl, rfl, by decide +kernel, rfl, by decide +kernel, by decide +kernel⟩
set_option maxHeartbeats 0 in
theorem ok_law (F : Fun K "law" "law" sLaw f fd) (B : Bt3 mg)
  (GD : FnOk P w K mg base CX0 30 ds dsd ["script", "many"] (spDs K)) (bD : Binds K dsd ["script", "many"] []) (kD : Kee K ds) (mD : mg "_law_draws" = some (.ref ds))
  (GM : FnOk P w K mg base CX0 30 mk mkd ["store"] spSp) (bM : Binds K mkd ["store"] []) (kM : Kee K mk) (mM : mg "_law_plan" = some (.ref mk))
  (GP : FnOk P w K mg base CX0 30 cp cpd ["plan"] spCopy) (bP : Binds K cpd ["plan"] []) (kP : Kee K cp) (mP : mg "_law_copy" = some (.ref cp))
  (GA : FnOk P w K mg base CX0 30 al ald ["plan"] (spCount fun ns ss => cntW ns ss false)) (bA : Binds K ald ["plan"] []) (kA : Kee K al) (mA : mg "_law_all_ways" = some (.ref al))
  (GR : FnOk P w K mg base CX0 30 pr prd ["store", "plan"] spPr) (bR : Binds K prd ["store", "plan"] []) (kR : Kee K pr) (mR : mg "_law_plans_refused" = some (.ref pr))
  (GT : FnOk P w K mg base CX0 30 tr trd ["store", "plan", "rows"] spTrf) (bT : Binds K trd ["store", "plan", "rows"] []) (kT : Kee K tr) (mT : mg "_law_things_refused" = some (.ref tr))
  (GC : FnOk P w K mg base CX0 30 ca cad ["door", "plan", "one", "other"] spCauG) (bC : Binds K cad ["door", "plan", "one", "other"] []) (kC : Kee K ca) (mC : mg "_law_caught" = some (.ref ca)) : FnOk P w K mg base CX0 31 f fd ["script"] (spLaw K) := by
 refine F.ok scLaw (fun vs H Q E h => ?_) (fun cdv A outer s H vs Q E hr h => ?_)
 ·obtain ⟨a, ns, rfl, _⟩ := h
  rfl
 obtain ⟨a0, ns0, rfl, hS, h63, q⟩ := h
 refine ⟨_, (@pss_cons _ _ _ _ _ (ps_set (i := 1) scLaw.nd rfl (Or.inl rfl) (pe_lst (pa_cons (pe_call GD hr rfl mD kD bD .nil pass0 (pa_cons (pv 0) (pa_cons pe_int pa_nil))) (pa_cons pe_int pa_nil)))) (@pss_cons _ _ _ _ _ (ps_for PassesOwn.never rfl (pi_range1 rfl B.range (pa_cons pe_int pa_nil)) (pg_name (i := 2) scLaw.nd rfl (Or.inl rfl)) (@pss_cons _ _ _ _ _ (ps_set (i := 3) scLaw.nd rfl (Or.inl rfl) (pe_call GM hr rfl mM kM bM .nil pass0 (pa_cons (pv 1) pa_nil))) (@pss_cons _ _ _ _ _ (ps_set (i := 4) scLaw.nd rfl (Or.inl rfl) (pe_call GP hr rfl mP kP bP .nil pass0 (pa_cons (pv 3) pa_nil))) (@pss_cons _ _ _ _ _ (ps_set (i := 5) scLaw.nd rfl (Or.inl rfl) (pe_call GA hr rfl mA kA bA .nil pass0 (pa_cons (pv 3) pa_nil))) (@pss_cons _ _ _ _ _ (ps_if (PW.pt (pw_or (pt_not (pt_val (pe_call GR hr rfl mR kR bR .nil pass0 (pa_cons (pv 1) (pa_cons (pv 4) pa_nil))))) (pw_or1 (pt_not (pt_val (pe_call GT hr rfl mT kT bT .nil pass0 (pa_cons (pv 1) (pa_cons (pv 4) (pa_cons (pv 5) pa_nil))))))))) (@pss_one _ _ _ (ps_ret pe_bl)) pss_nil) (@pss_one _ _ _ (ps_for PassesOwn.never rfl (pi_range1 rfl B.range (pa_cons pe_int pa_nil)) (pg_name (i := 6) scLaw.nd rfl (Or.inl rfl)) (@pss_one _ _ _ (ps_if (PW.pt (pw_or (pt_cmpR op_notN (pe_call GC hr rfl mC kC bC .nil pass0 (pa_cons (pv 6) (pa_cons (pv 4) (pa_cons (pe_ix ix_list (pe_ix ix_tup (pv 3) pe_int (fun _ _ => rfl)) pe_int (fun _ _ => rfl)) (pa_cons (pe_ix ix_list (pe_ix ix_tup (pv 3) pe_int (fun _ _ => rfl)) (pe_un un_neg pe_int) (fun _ _ => rfl)) pa_nil))))) pe_non (nomark _)) (pw_or1 (pt_cmpR (op_neD hr.units) (pv 4) (pv 3) (nomark _))))) (@pss_one _ _ _ (ps_ret pe_bl)) pss_nil))))))))) (@pss_one _ _ _ (ps_ret pe_bl)))), ?_⟩
 refine ⟨_, rfl, a0, ns0, rfl, hS, h63, fun p xs0 H1 g1 hp e1 x0 x1000 xn => ⟨two_le, fun d hd => ?_⟩⟩
 have s2 := Same.new hd (.lst [.ref p, .int 0])
 have S2 : Sto (upd H1 d (.lst [.ref p, .int 0])) d p := ⟨⟨0, upd_same⟩, ⟨xs0, s2 _ _ e1, x0, x1000, xn⟩⟩
 generalize upd H1 d (.lst [.ref p, .int 0]) = H2 at s2 S2 ⊢
 refine ⟨_, rfl, by decide, by decide, ?_⟩
 refine for_range (lo := 0) (n := (4 : Int).toNat) (fun i σ H' => ∃ (y2 y3 y4 y5 y6 : Option V), σ = [some (.ref a0), some (.ref d), y2, y3, y4, y5, y6] ∧ Sto H' d p) ⟨_, _, _, _, _, rfl, S2⟩ ?_ ?_
 ·rintro i σ H3 hi ⟨y2, y3, y4, y5, y6, rfl, S3⟩
  refine ⟨_, rfl, d, p, rfl, S3, fun t a b ns ss H4 S4 E4 nt na nb nab et ea eb ok lt95 lt96 => ?_⟩
  have pl4 : IsPl H4 t a b ns ss := ⟨et, ea, eb, ok⟩
  have n1 := ok.n1
  have n10 := ok.n2
  have s10 := ok.s2
  have bn : ∀ x ∈ ns, x < 10 ^ 29 - 20 := fun x hx => Int.lt_trans (lt95 x hx) (by decide)
  have bs : ∀ x ∈ ss, x < 10 ^ 29 := fun x hx => Int.lt_trans (lt96 x hx) (by decide)
  have td : t ≠ d := fun z => by obtain ⟨c, e⟩ := S3.at_; rw [z, e] at nt; cases nt
  have ad : a ≠ d := fun z => by obtain ⟨c, e⟩ := S3.at_; rw [z, e] at na; cases na
  have bd : b ≠ d := fun z => by obtain ⟨c, e⟩ := S3.at_; rw [z, e] at nb; cases nb
  refine ⟨_, rfl, t, a, b, ns, ss, rfl, pl4, fun t' a' b' H5 g5 nt' na' nb' _ pl5' => ?_⟩
  have aa' : a ≠ a' := ne_of_none pl4.a na'
  have bb' : b ≠ b' := ne_of_none pl4.b nb'
  have td' : t' ≠ d := fun z => by obtain ⟨c, e⟩ := S4.at_; rw [z, e] at nt'; cases nt'
  have ad' : a' ≠ d := fun z => by obtain ⟨c, e⟩ := S4.at_; rw [z, e] at na'; cases na'
  have bd' : b' ≠ d := fun z => by obtain ⟨c, e⟩ := S4.at_; rw [z, e] at nb'; cases nb'
  refine ⟨_, rfl, t, a, b, ns, ss, rfl, pl4.same g5, fun H6 g6 => ?_⟩
  have S6 := (S4.ex g5).ex g6
  have mk6 : ∀ {M : Hp} {t a b : Addr}, IsPl M t a b ns ss → t ≠ d → a ≠ d → b ≠ d → IsPl (msk (S1 d) M) t a b ns ss := fun pl h1 h2 h3 => ⟨by rw [msk_in (S := S1 d) h1]; exact pl.t, by rw [msk_in (S := S1 d) h2]; exact pl.a, by rw [msk_in (S := S1 d) h3]; exact pl.b, ok⟩
  have pm := mk6 ((pl4.same g5).same g6) td ad bd
  have pm' := mk6 (pl5'.same g6) td' ad' bd'
  have ti : ∀ {M : Hp} {zs : List Int}, (∀ z ∈ zs, 0 ≤ z) → (∀ z ∈ zs, z < 10 ^ 29) → ∀ x ∈ zs.map V.int, Th M x 3 1 := fun h1 h2 x hx => by
   obtain ⟨z, hz, rfl⟩ := List.mem_map.mp hx
   have h1 := h1 z hz
   have h2 := h2 z hz
   exact Th.int (by omega)
  have tp : Th (msk (S1 d) H6) (.ref t') 2000 4 := by
   refine (Th.tup (n := 100) (k := 2) pm'.t fun x hx => ?_).mono (by show 2 * 101 ≤ 2000; decide) (by decide)
   simp only [List.mem_cons, List.not_mem_nil, or_false] at hx
   rcases hx with e | e <;> rw [e]
   ·exact th_some pm'.a (by rw [List.length_map]; omega) (ti ok.n.bd fun z hz => by have := bn z hz; omega)
   ·exact th_some pm'.b (by rw [List.length_map]; omega) (ti ok.s.bd bs)
  have cap := cnt_capW ok
  refine ⟨_, rfl, _, rfl, d, p, t', a', b', ns, ss, rfl, S6, pm', bn, bs, fun H7 S7 g7 => ⟨_, rfl, iteF ?_⟩⟩
  refine ⟨_, rfl, _, rfl, _, rfl, d, p, t', a', b', ns, ss, rfl, S7, pm'.same g7, bn, tp.same g7, cap, fun H8 S8 g8 => ⟨_, rfl, iteF ?_⟩⟩
  have pl8 := ((pm.same g7).same g8).same msk_le
  have pl8' := ((pm'.same g7).same g8).same msk_le
  obtain ⟨la, hla, mla, max⟩ := last_max ok.n n1
  obtain ⟨il, hil, eil⟩ : ∃ i : Nat, i < ns.length ∧ la = ns.getD i 0 := by
   obtain ⟨i, hi, e⟩ := List.getElem_of_mem mla
   refine ⟨i, hi, ?_⟩
   rw [List.getD_eq_getElem?_getD, List.getElem?_eq_getElem hi, e]
   rfl
  have h0 : atI (ns.map V.int) 0 = some (.int (ns.getD 0 0)) := atI_nat (j := 0) (by rw [List.getElem?_map, getD_at (by omega)]; rfl)
  refine ⟨_, rfl, by decide, by decide, ?_⟩
  refine for_range (lo := 0) (n := (3 : Int).toNat) (fun j σ H' => ∃ (z6 : Option V), σ = [some (.ref a0), some (.ref d), some (.int (0 + (i : Int))), some (.ref t), some (.ref t'), some (.int (cntW ns ss false : Nat)), z6] ∧ Same H8 H') ⟨_, rfl, Same.rfl'⟩ ?_ ?_
  ·rintro j σ H9 hj ⟨z6, rfl, g9⟩
   have j3 : j < 3 := hj
   have pl9 := pl8.same g9
   refine ⟨_, rfl, _, rfl, _, rfl, t, _, 0, _, rfl, rfl, SqT.of pl9.t, rfl, a, _, 0, _, rfl, rfl, SqL.of pl9.a, h0, _, rfl, t, _, 0, _, rfl, rfl, SqT.of pl9.t, rfl, _, rfl, a, _, _, _, rfl, rfl, SqL.of pl9.a, hla, 0 + (j : Int), t', a', b', ns, ss, 0, il, by rw [eil]; rfl, by omega, by omega, pl8'.same g9, by omega, hil, fun H10 g10 => ?_⟩
   have g810 := g9.trans g10
   refine ⟨rfl, _, rfl, iteF ?_⟩
   exact ⟨_, rfl, _, rfl, true, rcv_plan (pl8'.same g810).t (pl8.same g810).t (pl8'.same g810).a (pl8'.same g810).b (pl8.same g810).a (pl8.same g810).b (Ne.symm aa') (Ne.symm bb'), _, rfl, iteF ⟨_, rfl, g810⟩⟩
  ·rintro σ H9 ⟨z6, rfl, g9⟩
   exact ⟨_, _, _, _, _, rfl, S8.ex g9⟩
 ·rintro σ H' ⟨y2, y3, y4, y5, y6, rfl, S⟩
  exact q _
end
theorem all_mk {l : PySem.W.OpenLaw} {w : World} {K : PySem.W.Frag} {h : Heap} {mg : Str → Option Value} {fa f1 f2 f3 f4 f5 f6 f7 f8 f9 f10 f11 f12 f13 f14 f15 f16 f17 f18 f19 f20 f21 f22 f23 f24 f25 f26 f27 f28 f29 f30 f31 f32 f33 f34 f35 f36 f37 f38 f39 f40 f41 f42 f43 f44 f45 f46 f47 f48  x0 x1 x2 x3 x4 x5 x6 x7 x8 x9 x10 x11 XS C1 B1 : Addr} (X : K.In h) (G : h.Ns mainGlobals mg) (hfa : mg "law" = some (.ref fa))
  {od1 an1 od2 an2 od3 an3 od4 an4 od5 an5 od6 an6 od7 an7 od8 an8 od9 an9 od10 an10 od11 an11 od12 an12 od13 an13 od14 an14 od15 an15 od16 an16 od17 an17 od18 an18 od19 an19 od20 an20 od21 an21 od22 an22 od23 an23 od24 an24 od25 an25 od26 an26 od27 an27 od28 an28 od29 an29 od30 an30 od31 an31 od32 an32 od33 an33 od34 an34 od35 an35 od36 an36 od37 an37 od38 an38 od39 an39 od40 an40 od41 an41 od42 an42 od43 an43 od44 an44 od45 an45 od46 an46 od47 an47 od48 an48 : Option Addr} {sl1 sl2 sl3 sl4 sl5 sl6 sl7 sl8 sl9 sl10 sl11 sl12 sl13 sl14 sl15 sl16 sl17 sl18 sl19 sl20 sl21 sl22 sl23 sl24 sl25 sl26 sl27 sl28 sl29 sl30 sl31 sl32 sl33 sl34 sl35 sl36 sl37 sl38 sl39 sl40 sl41 sl42 sl43 sl44 sl45 sl46 sl47 sl48 : Array (Option Value)} {oc1 kV1 dc1 pm1 cd1 ct1 oc2 kV2 dc2 pm2 cd2 ct2 oc3 kV3 dc3 pm3 cd3 ct3 oc4 kV4 dc4 pm4 cd4 ct4 oc5 kV5 dc5 pm5 cd5 ct5 oc6 kV6 dc6 pm6 cd6 ct6 oc7 kV7 dc7 pm7 cd7 ct7 oc8 kV8 dc8 pm8 cd8 ct8 oc9 kV9 dc9 pm9 cd9 ct9 oc10 kV10 dc10 pm10 cd10 ct10 oc11 kV11 dc11 pm11 cd11 ct11 oc12 kV12 dc12 pm12 cd12 ct12 oc13 kV13 dc13 pm13 cd13 ct13 oc14 kV14 dc14 pm14 cd14 ct14 oc15 kV15 dc15 pm15 cd15 ct15 oc16 kV16 dc16 pm16 cd16 ct16 oc17 kV17 dc17 pm17 cd17 ct17 oc18 kV18 dc18 pm18 cd18 ct18 oc19 kV19 dc19 pm19 cd19 ct19 oc20 kV20 dc20 pm20 cd20 ct20 oc21 kV21 dc21 pm21 cd21 ct21 oc22 kV22 dc22 pm22 cd22 ct22 oc23 kV23 dc23 pm23 cd23 ct23 oc24 kV24 dc24 pm24 cd24 ct24 oc25 kV25 dc25 pm25 cd25 ct25 oc26 kV26 dc26 pm26 cd26 ct26 oc27 kV27 dc27 pm27 cd27 ct27 oc28 kV28 dc28 pm28 cd28 ct28 oc29 kV29 dc29 pm29 cd29 ct29 oc30 kV30 dc30 pm30 cd30 ct30 oc31 kV31 dc31 pm31 cd31 ct31 oc32 kV32 dc32 pm32 cd32 ct32 oc33 kV33 dc33 pm33 cd33 ct33 oc34 kV34 dc34 pm34 cd34 ct34 oc35 kV35 dc35 pm35 cd35 ct35 oc36 kV36 dc36 pm36 cd36 ct36 oc37 kV37 dc37 pm37 cd37 ct37 oc38 kV38 dc38 pm38 cd38 ct38 oc39 kV39 dc39 pm39 cd39 ct39 oc40 kV40 dc40 pm40 cd40 ct40 oc41 kV41 dc41 pm41 cd41 ct41 oc42 kV42 dc42 pm42 cd42 ct42 oc43 kV43 dc43 pm43 cd43 ct43 oc44 kV44 dc44 pm44 cd44 ct44 oc45 kV45 dc45 pm45 cd45 ct45 oc46 kV46 dc46 pm46 cd46 ct46 oc47 kV47 dc47 pm47 cd47 ct47 oc48 kV48 dc48 pm48 cd48 ct48 mc1 : Value}
  {t1 t2 : Tok}
  (a1 : PySem.W.nsIn K mainGlobals "is_whole" = some (some (.ref f1))) (l1 : K.lookup f1 = some ⟨oc1, od1, .func (PySem.W.fnOf "is_whole" "is_whole" (defArgs sWhole) (defBody sWhole) (defScope sWhole) .none kV1 dc1 pm1 an1 cd1 ct1), sl1⟩) (c1 : PySem.W.codeIn K cd1 "is_whole" = true) (k1 : PySem.W.keepIn K (.ref f1) = true)
  (a2 : PySem.W.nsIn K mainGlobals "is_list_of_wholes" = some (some (.ref f2))) (l2 : K.lookup f2 = some ⟨oc2, od2, .func (PySem.W.fnOf "is_list_of_wholes" "is_list_of_wholes" (defArgs sLw) (defBody sLw) (defScope sLw) .none kV2 dc2 pm2 an2 cd2 ct2), sl2⟩) (c2 : PySem.W.codeIn K cd2 "is_list_of_wholes" = true) (k2 : PySem.W.keepIn K (.ref f2) = true)
  (a3 : PySem.W.nsIn K mainGlobals "is_rising_list" = some (some (.ref f3))) (l3 : K.lookup f3 = some ⟨oc3, od3, .func (PySem.W.fnOf "is_rising_list" "is_rising_list" (defArgs sRise) (defBody sRise) (defScope sRise) .none kV3 dc3 pm3 an3 cd3 ct3), sl3⟩) (c3 : PySem.W.codeIn K cd3 "is_rising_list" = true) (k3 : PySem.W.keepIn K (.ref f3) = true)
  (a4 : PySem.W.nsIn K mainGlobals "is_plan" = some (some (.ref f4))) (l4 : K.lookup f4 = some ⟨oc4, od4, .func (PySem.W.fnOf "is_plan" "is_plan" (defArgs sIsP) (defBody sIsP) (defScope sIsP) .none kV4 dc4 pm4 an4 cd4 ct4), sl4⟩) (c4 : PySem.W.codeIn K cd4 "is_plan" = true) (k4 : PySem.W.keepIn K (.ref f4) = true)
  (a5 : PySem.W.nsIn K mainGlobals "check_plan" = some (some (.ref f5))) (l5 : K.lookup f5 = some ⟨oc5, od5, .func (PySem.W.fnOf "check_plan" "check_plan" (defArgs sCkP) (defBody sCkP) (defScope sCkP) .none kV5 dc5 pm5 an5 cd5 ct5), sl5⟩) (c5 : PySem.W.codeIn K cd5 "check_plan" = true) (k5 : PySem.W.keepIn K (.ref f5) = true)
  (a6 : PySem.W.nsIn K mainGlobals "check_number" = some (some (.ref f6))) (l6 : K.lookup f6 = some ⟨oc6, od6, .func (PySem.W.fnOf "check_number" "check_number" (defArgs sCkN) (defBody sCkN) (defScope sCkN) .none kV6 dc6 pm6 an6 cd6 ct6), sl6⟩) (c6 : PySem.W.codeIn K cd6 "check_number" = true) (k6 : PySem.W.keepIn K (.ref f6) = true)
  (a7 : PySem.W.nsIn K mainGlobals "add_up" = some (some (.ref f7))) (l7 : K.lookup f7 = some ⟨oc7, od7, .func (PySem.W.fnOf "add_up" "add_up" (defArgs sAdd) (defBody sAdd) (defScope sAdd) .none kV7 dc7 pm7 an7 cd7 ct7), sl7⟩) (c7 : PySem.W.codeIn K cd7 "add_up" = true) (k7 : PySem.W.keepIn K (.ref f7) = true)
  (a8 : PySem.W.nsIn K mainGlobals "all_places" = some (some (.ref f8))) (l8 : K.lookup f8 = some ⟨oc8, od8, .func (PySem.W.fnOf "all_places" "all_places" (defArgs sAllP) (defBody sAllP) (defScope sAllP) .none kV8 dc8 pm8 an8 cd8 ct8), sl8⟩) (c8 : PySem.W.codeIn K cd8 "all_places" = true) (k8 : PySem.W.keepIn K (.ref f8) = true)
  (a9 : PySem.W.nsIn K mainGlobals "near_places" = some (some (.ref f9))) (l9 : K.lookup f9 = some ⟨oc9, od9, .func (PySem.W.fnOf "near_places" "near_places" (defArgs sNear) (defBody sNear) (defScope sNear) .none kV9 dc9 pm9 an9 cd9 ct9), sl9⟩) (c9 : PySem.W.codeIn K cd9 "near_places" = true) (k9 : PySem.W.keepIn K (.ref f9) = true)
  (a10 : PySem.W.nsIn K mainGlobals "numbers_at" = some (some (.ref f10))) (l10 : K.lookup f10 = some ⟨oc10, od10, .func (PySem.W.fnOf "numbers_at" "numbers_at" (defArgs sNums) (defBody sNums) (defScope sNums) .none kV10 dc10 pm10 an10 cd10 ct10), sl10⟩) (c10 : PySem.W.codeIn K cd10 "numbers_at" = true) (k10 : PySem.W.keepIn K (.ref f10) = true)
  (a11 : PySem.W.nsIn K mainGlobals "are_neighbours" = some (some (.ref f11))) (l11 : K.lookup f11 = some ⟨oc11, od11, .func (PySem.W.fnOf "are_neighbours" "are_neighbours" (defArgs sNb) (defBody sNb) (defScope sNb) .none kV11 dc11 pm11 an11 cd11 ct11), sl11⟩) (c11 : PySem.W.codeIn K cd11 "are_neighbours" = true) (k11 : PySem.W.keepIn K (.ref f11) = true)
  (a12 : PySem.W.nsIn K mainGlobals "holds_all" = some (some (.ref f12))) (l12 : K.lookup f12 = some ⟨oc12, od12, .func (PySem.W.fnOf "holds_all" "holds_all" (defArgs sHo) (defBody sHo) (defScope sHo) .none kV12 dc12 pm12 an12 cd12 ct12), sl12⟩) (c12 : PySem.W.codeIn K cd12 "holds_all" = true) (k12 : PySem.W.keepIn K (.ref f12) = true)
  (a13 : PySem.W.nsIn K mainGlobals "is_row" = some (some (.ref f13))) (l13 : K.lookup f13 = some ⟨oc13, od13, .func (PySem.W.fnOf "is_row" "is_row" (defArgs sIsR) (defBody sIsR) (defScope sIsR) .none kV13 dc13 pm13 an13 cd13 ct13), sl13⟩) (c13 : PySem.W.codeIn K cd13 "is_row" = true) (k13 : PySem.W.keepIn K (.ref f13) = true)
  (a14 : PySem.W.nsIn K mainGlobals "tally_of_rows" = some (some (.ref f14))) (l14 : K.lookup f14 = some ⟨oc14, od14, .func (PySem.W.fnOf "tally_of_rows" "tally_of_rows" (defArgs sTr) (defBody sTr) (defScope sTr) .none kV14 dc14 pm14 an14 cd14 ct14), sl14⟩) (c14 : PySem.W.codeIn K cd14 "tally_of_rows" = true) (k14 : PySem.W.keepIn K (.ref f14) = true)
  (a15 : PySem.W.nsIn K mainGlobals "count_rows" = some (some (.ref f15))) (l15 : K.lookup f15 = some ⟨oc15, od15, .func (PySem.W.fnOf "count_rows" "count_rows" (defArgs sCr) (defBody sCr) (defScope sCr) .none kV15 dc15 pm15 an15 cd15 ct15), sl15⟩) (c15 : PySem.W.codeIn K cd15 "count_rows" = true) (k15 : PySem.W.keepIn K (.ref f15) = true)
  (a16 : PySem.W.nsIn K mainGlobals "count_rings" = some (some (.ref f16))) (l16 : K.lookup f16 = some ⟨oc16, od16, .func (PySem.W.fnOf "count_rings" "count_rings" (defArgs sCg) (defBody sCg) (defScope sCg) .none kV16 dc16 pm16 an16 cd16 ct16), sl16⟩) (c16 : PySem.W.codeIn K cd16 "count_rings" = true) (k16 : PySem.W.keepIn K (.ref f16) = true)
  (a17 : PySem.W.nsIn K mainGlobals "count_between" = some (some (.ref f17))) (l17 : K.lookup f17 = some ⟨oc17, od17, .func (PySem.W.fnOf "count_between" "count_between" (defArgs sCb) (defBody sCb) (defScope sCb) .none kV17 dc17 pm17 an17 cd17 ct17), sl17⟩) (c17 : PySem.W.codeIn K cd17 "count_between" = true) (k17 : PySem.W.keepIn K (.ref f17) = true)
  (a18 : PySem.W.nsIn K mainGlobals "row_by" = some (some (.ref f18))) (l18 : K.lookup f18 = some ⟨oc18, od18, .func (PySem.W.fnOf "row_by" "row_by" (defArgs sRb) (defBody sRb) (defScope sRb) .none kV18 dc18 pm18 an18 cd18 ct18), sl18⟩) (c18 : PySem.W.codeIn K cd18 "row_by" = true) (k18 : PySem.W.keepIn K (.ref f18) = true)
  (a19 : PySem.W.nsIn K mainGlobals "number_of" = some (some (.ref f19))) (l19 : K.lookup f19 = some ⟨oc19, od19, .func (PySem.W.fnOf "number_of" "number_of" (defArgs sNo) (defBody sNo) (defScope sNo) .none kV19 dc19 pm19 an19 cd19 ct19), sl19⟩) (c19 : PySem.W.codeIn K cd19 "number_of" = true) (k19 : PySem.W.keepIn K (.ref f19) = true)
  (a20 : PySem.W.nsIn K mainGlobals "_law_draws" = some (some (.ref f20))) (l20 : K.lookup f20 = some ⟨oc20, od20, .func (PySem.W.fnOf "_law_draws" "_law_draws" (defArgs sDs) (defBody sDs) (defScope sDs) .none kV20 dc20 pm20 an20 cd20 ct20), sl20⟩) (c20 : PySem.W.codeIn K cd20 "_law_draws" = true) (k20 : PySem.W.keepIn K (.ref f20) = true)
  (a21 : PySem.W.nsIn K mainGlobals "_law_take" = some (some (.ref f21))) (l21 : K.lookup f21 = some ⟨oc21, od21, .func (PySem.W.fnOf "_law_take" "_law_take" (defArgs sTk) (defBody sTk) (defScope sTk) .none kV21 dc21 pm21 an21 cd21 ct21), sl21⟩) (c21 : PySem.W.codeIn K cd21 "_law_take" = true) (k21 : PySem.W.keepIn K (.ref f21) = true)
  (a22 : PySem.W.nsIn K mainGlobals "_law_numbers" = some (some (.ref f22))) (l22 : K.lookup f22 = some ⟨oc22, od22, .func (PySem.W.fnOf "_law_numbers" "_law_numbers" (defArgs sNu) (defBody sNu) (defScope sNu) .none kV22 dc22 pm22 an22 cd22 ct22), sl22⟩) (c22 : PySem.W.codeIn K cd22 "_law_numbers" = true) (k22 : PySem.W.keepIn K (.ref f22) = true)
  (a23 : PySem.W.nsIn K mainGlobals "_law_plan" = some (some (.ref f23))) (l23 : K.lookup f23 = some ⟨oc23, od23, .func (PySem.W.fnOf "_law_plan" "_law_plan" (defArgs sSp) (defBody sSp) (defScope sSp) .none kV23 dc23 pm23 an23 cd23 ct23), sl23⟩) (c23 : PySem.W.codeIn K cd23 "_law_plan" = true) (k23 : PySem.W.keepIn K (.ref f23) = true)
  (a24 : PySem.W.nsIn K mainGlobals "_law_copy" = some (some (.ref f24))) (l24 : K.lookup f24 = some ⟨oc24, od24, .func (PySem.W.fnOf "_law_copy" "_law_copy" (defArgs sCopy) (defBody sCopy) (defScope sCopy) .none kV24 dc24 pm24 an24 cd24 ct24), sl24⟩) (c24 : PySem.W.codeIn K cd24 "_law_copy" = true) (k24 : PySem.W.keepIn K (.ref f24) = true)
  (a25 : PySem.W.nsIn K mainGlobals "_law_near" = some (some (.ref f25))) (l25 : K.lookup f25 = some ⟨oc25, od25, .func (PySem.W.fnOf "_law_near" "_law_near" (defArgs sLN) (defBody sLN) (defScope sLN) .none kV25 dc25 pm25 an25 cd25 ct25), sl25⟩) (c25 : PySem.W.codeIn K cd25 "_law_near" = true) (k25 : PySem.W.keepIn K (.ref f25) = true)
  (a26 : PySem.W.nsIn K mainGlobals "_law_ways" = some (some (.ref f26))) (l26 : K.lookup f26 = some ⟨oc26, od26, .func (PySem.W.fnOf "_law_ways" "_law_ways" (defArgs sLW) (defBody sLW) (defScope sLW) .none kV26 dc26 pm26 an26 cd26 ct26), sl26⟩) (c26 : PySem.W.codeIn K cd26 "_law_ways" = true) (k26 : PySem.W.keepIn K (.ref f26) = true)
  (a27 : PySem.W.nsIn K mainGlobals "_law_all_ways" = some (some (.ref f27))) (l27 : K.lookup f27 = some ⟨oc27, od27, .func (PySem.W.fnOf "_law_all_ways" "_law_all_ways" (defArgs sAlw) (defBody sAlw) (defScope sAlw) .none kV27 dc27 pm27 an27 cd27 ct27), sl27⟩) (c27 : PySem.W.codeIn K cd27 "_law_all_ways" = true) (k27 : PySem.W.keepIn K (.ref f27) = true)
  (a28 : PySem.W.nsIn K mainGlobals "_law_kinds" = some (some (.ref f28))) (l28 : K.lookup f28 = some ⟨oc28, od28, .func (PySem.W.fnOf "_law_kinds" "_law_kinds" (defArgs sKin) (defBody sKin) (defScope sKin) .none kV28 dc28 pm28 an28 cd28 ct28), sl28⟩) (c28 : PySem.W.codeIn K cd28 "_law_kinds" = true) (k28 : PySem.W.keepIn K (.ref f28) = true)
  (a29 : PySem.W.nsIn K mainGlobals "_law_no_list" = some (some (.ref f29))) (l29 : K.lookup f29 = some ⟨oc29, od29, .func (PySem.W.fnOf "_law_no_list" "_law_no_list" (defArgs sNls) (defBody sNls) (defScope sNls) .none kV29 dc29 pm29 an29 cd29 ct29), sl29⟩) (c29 : PySem.W.codeIn K cd29 "_law_no_list" = true) (k29 : PySem.W.keepIn K (.ref f29) = true)
  (a30 : PySem.W.nsIn K mainGlobals "_law_no_plan" = some (some (.ref f30))) (l30 : K.lookup f30 = some ⟨oc30, od30, .func (PySem.W.fnOf "_law_no_plan" "_law_no_plan" (defArgs sNop) (defBody sNop) (defScope sNop) .none kV30 dc30 pm30 an30 cd30 ct30), sl30⟩) (c30 : PySem.W.codeIn K cd30 "_law_no_plan" = true) (k30 : PySem.W.keepIn K (.ref f30) = true)
  (a31 : PySem.W.nsIn K mainGlobals "_law_caught" = some (some (.ref f31))) (l31 : K.lookup f31 = some ⟨oc31, od31, .func (PySem.W.fnOf "_law_caught" "_law_caught" (defArgs sCau) (defBody sCau) (defScope sCau) .none kV31 dc31 pm31 an31 cd31 ct31), sl31⟩) (c31 : PySem.W.codeIn K cd31 "_law_caught" = true) (k31 : PySem.W.keepIn K (.ref f31) = true)
  (a32 : PySem.W.nsIn K mainGlobals "_law_refused" = some (some (.ref f32))) (l32 : K.lookup f32 = some ⟨oc32, od32, .func (PySem.W.fnOf "_law_refused" "_law_refused" (defArgs sRef) (defBody sRef) (defScope sRef) .none kV32 dc32 pm32 an32 cd32 ct32), sl32⟩) (c32 : PySem.W.codeIn K cd32 "_law_refused" = true) (k32 : PySem.W.keepIn K (.ref f32) = true)
  (a33 : PySem.W.nsIn K mainGlobals "_law_odd" = some (some (.ref f33))) (l33 : K.lookup f33 = some ⟨oc33, od33, .func (PySem.W.fnOf "_law_odd" "_law_odd" (defArgs sOd) (defBody sOd) (defScope sOd) .none kV33 dc33 pm33 an33 cd33 ct33), sl33⟩) (c33 : PySem.W.codeIn K cd33 "_law_odd" = true) (k33 : PySem.W.keepIn K (.ref f33) = true)
  (a34 : PySem.W.nsIn K mainGlobals "_law_strange" = some (some (.ref f34))) (l34 : K.lookup f34 = some ⟨oc34, od34, .func (PySem.W.fnOf "_law_strange" "_law_strange" (defArgs sStr) (defBody sStr) (defScope sStr) .none kV34 dc34 pm34 an34 cd34 ct34), sl34⟩) (c34 : PySem.W.codeIn K cd34 "_law_strange" = true) (k34 : PySem.W.keepIn K (.ref f34) = true)
  (a35 : PySem.W.nsIn K mainGlobals "_law_no_row" = some (some (.ref f35))) (l35 : K.lookup f35 = some ⟨oc35, od35, .func (PySem.W.fnOf "_law_no_row" "_law_no_row" (defArgs sNrw) (defBody sNrw) (defScope sNrw) .none kV35 dc35 pm35 an35 cd35 ct35), sl35⟩) (c35 : PySem.W.codeIn K cd35 "_law_no_row" = true) (k35 : PySem.W.keepIn K (.ref f35) = true)
  (a36 : PySem.W.nsIn K mainGlobals "_law_plans_refused" = some (some (.ref f36))) (l36 : K.lookup f36 = some ⟨oc36, od36, .func (PySem.W.fnOf "_law_plans_refused" "_law_plans_refused" (defArgs sPr) (defBody sPr) (defScope sPr) .none kV36 dc36 pm36 an36 cd36 ct36), sl36⟩) (c36 : PySem.W.codeIn K cd36 "_law_plans_refused" = true) (k36 : PySem.W.keepIn K (.ref f36) = true)
  (a37 : PySem.W.nsIn K mainGlobals "_law_things_refused" = some (some (.ref f37))) (l37 : K.lookup f37 = some ⟨oc37, od37, .func (PySem.W.fnOf "_law_things_refused" "_law_things_refused" (defArgs sTr2) (defBody sTr2) (defScope sTr2) .none kV37 dc37 pm37 an37 cd37 ct37), sl37⟩) (c37 : PySem.W.codeIn K cd37 "_law_things_refused" = true) (k37 : PySem.W.keepIn K (.ref f37) = true)
  (a38 : PySem.W.nsIn K mainGlobals "law" = some (some (.ref f38))) (l38 : K.lookup f38 = some ⟨oc38, od38, .func (PySem.W.fnOf "law" "law" (defArgs sLaw) (defBody sLaw) (defScope sLaw) .none kV38 dc38 pm38 an38 cd38 ct38), sl38⟩) (c38 : PySem.W.codeIn K cd38 "law" = true) (k38 : PySem.W.keepIn K (.ref f38) = true)
  (aC1 : PySem.W.nsIn K mainGlobals "Tally" = some (some (.ref C1))) (pg1 : PySem.W.plainGet K C1 Str.empty = true) (hd1 : PySem.W.hasDictIn K C1 = true) (po1 : PySem.W.plainOver K C1 = true) (sa1 : PySem.W.findIn K (.ref C1) "__setattr__" = some (some (.builtin "object.__setattr__"))) (mk1 : PySem.W.makesIn K C1 = true) (kc1 : PySem.W.keepIn K (.ref C1) = true)
  (nn1_1 : PySem.W.findIn K (.ref C1) "ahead" = some none)
  (nn1_2 : PySem.W.findIn K (.ref C1) "near" = some none)
  (nn1_3 : PySem.W.findIn K (.ref C1) "whole" = some none)
  (nn1_4 : PySem.W.findIn K (.ref C1) "last_places" = some none)
  (nn1_5 : PySem.W.findIn K (.ref C1) "known" = some none)
  (aB1 : PySem.W.nsIn K mainGlobals "Steps" = some (some (.ref B1))) (ty1 : PySem.W.typeIn K (.ref B1) = some mc1) (ga1 : PySem.W.specialIn K (.ref B1) "__getattribute__" = some (some (.builtin "type.__getattribute__"))) (rd1 : PySem.W.readsIn K B1 mc1 = true)
  (a39 : PySem.W.findIn K (.ref C1) "__init__" = some (some (.ref f39))) (i39 : PySem.W.isFn K (.ref f39) = true) (l39 : K.lookup f39 = some ⟨oc39, od39, .func (PySem.W.fnOf "__init__" "Tally.__init__" (defArgs sTIn) (defBody sTIn) (defScope sTIn) .none kV39 dc39 pm39 an39 cd39 ct39), sl39⟩) (c39 : PySem.W.codeIn K cd39 "Tally.__init__" = true) (k39 : PySem.W.keepIn K (.ref f39) = true)
  (a40 : PySem.W.findIn K (.ref C1) "ways" = some (some (.ref f40))) (i40 : PySem.W.isFn K (.ref f40) = true) (l40 : K.lookup f40 = some ⟨oc40, od40, .func (PySem.W.fnOf "ways" "Tally.ways" (defArgs sWy) (defBody sWy) (defScope sWy) .none kV40 dc40 pm40 an40 cd40 ct40), sl40⟩) (c40 : PySem.W.codeIn K cd40 "Tally.ways" = true) (k40 : PySem.W.keepIn K (.ref f40) = true)
  (a41 : PySem.W.findIn K (.ref C1) "ways_by" = some (some (.ref f41))) (i41 : PySem.W.isFn K (.ref f41) = true) (l41 : K.lookup f41 = some ⟨oc41, od41, .func (PySem.W.fnOf "ways_by" "Tally.ways_by" (defArgs sWb) (defBody sWb) (defScope sWb) .none kV41 dc41 pm41 an41 cd41 ct41), sl41⟩) (c41 : PySem.W.codeIn K cd41 "Tally.ways_by" = true) (k41 : PySem.W.keepIn K (.ref f41) = true)
  (a42 : PySem.W.findIn K (.ref C1) "all_ways" = some (some (.ref f42))) (i42 : PySem.W.isFn K (.ref f42) = true) (l42 : K.lookup f42 = some ⟨oc42, od42, .func (PySem.W.fnOf "all_ways" "Tally.all_ways" (defArgs sAw) (defBody sAw) (defScope sAw) .none kV42 dc42 pm42 an42 cd42 ct42), sl42⟩) (c42 : PySem.W.codeIn K cd42 "Tally.all_ways" = true) (k42 : PySem.W.keepIn K (.ref f42) = true)
  (a43 : PySem.W.findIn K (.ref C1) "ways_ahead" = some (some (.ref f43))) (i43 : PySem.W.isFn K (.ref f43) = true) (l43 : K.lookup f43 = some ⟨oc43, od43, .func (PySem.W.fnOf "ways_ahead" "Tally.ways_ahead" (defArgs sWah) (defBody sWah) (defScope sWah) .none kV43 dc43 pm43 an43 cd43 ct43), sl43⟩) (c43 : PySem.W.codeIn K cd43 "Tally.ways_ahead" = true) (k43 : PySem.W.keepIn K (.ref f43) = true)
  (a44 : PySem.W.findIn K (.ref C1) "step_by" = some (some (.ref f44))) (i44 : PySem.W.isFn K (.ref f44) = true) (l44 : K.lookup f44 = some ⟨oc44, od44, .func (PySem.W.fnOf "step_by" "Tally.step_by" (defArgs sSb) (defBody sSb) (defScope sSb) .none kV44 dc44 pm44 an44 cd44 ct44), sl44⟩) (c44 : PySem.W.codeIn K cd44 "Tally.step_by" = true) (k44 : PySem.W.keepIn K (.ref f44) = true)
  (a45 : PySem.W.findIn K (.ref C1) "places_by" = some (some (.ref f45))) (i45 : PySem.W.isFn K (.ref f45) = true) (l45 : K.lookup f45 = some ⟨oc45, od45, .func (PySem.W.fnOf "places_by" "Tally.places_by" (defArgs sPb) (defBody sPb) (defScope sPb) .none kV45 dc45 pm45 an45 cd45 ct45), sl45⟩) (c45 : PySem.W.codeIn K cd45 "Tally.places_by" = true) (k45 : PySem.W.keepIn K (.ref f45) = true)
  (a46 : PySem.W.findIn K (.ref C1) "number_at" = some (some (.ref f46))) (i46 : PySem.W.isFn K (.ref f46) = true) (l46 : K.lookup f46 = some ⟨oc46, od46, .func (PySem.W.fnOf "number_at" "Tally.number_at" (defArgs sNa) (defBody sNa) (defScope sNa) .none kV46 dc46 pm46 an46 cd46 ct46), sl46⟩) (c46 : PySem.W.codeIn K cd46 "Tally.number_at" = true) (k46 : PySem.W.keepIn K (.ref f46) = true)
  (a47 : PySem.W.findIn K (.ref C1) "steps" = some (some (.ref f47))) (i47 : PySem.W.isFn K (.ref f47) = true) (l47 : K.lookup f47 = some ⟨oc47, od47, .func (PySem.W.fnOf "steps" "Steps.steps" (defArgs sSteps) (defBody sSteps) (defScope sSteps) .none kV47 dc47 pm47 an47 cd47 ct47), sl47⟩) (c47 : PySem.W.codeIn K cd47 "Steps.steps" = true) (k47 : PySem.W.keepIn K (.ref f47) = true)
  (a48 : PySem.W.findCls K (.ref B1) mc1 "__init__" = some (.val (.ref f48))) (i48 : PySem.W.isFn K (.ref f48) = true) (l48 : K.lookup f48 = some ⟨oc48, od48, .func (PySem.W.fnOf "__init__" "Steps.__init__" (defArgs sIni0) (defBody sIni0) (defScope sIni0) .none kV48 dc48 pm48 an48 cd48 ct48), sl48⟩) (c48 : PySem.W.codeIn K cd48 "Steps.__init__" = true) (k48 : PySem.W.keepIn K (.ref f48) = true)
  (m1 : PySem.W.nsIn K mainGlobals "MOST" = some (some (.int 10 t1)))
  (m2 : PySem.W.nsIn K mainGlobals "FEWEST_IN_RING" = some (some (.int 3 t2)))
  (ax0 : PySem.W.nsIn K mainGlobals "NoPlan" = some (some (.ref x0)))
  (ax1 : PySem.W.nsIn K mainGlobals "NoNumber" = some (some (.ref x1)))
  (ax2 : PySem.W.nsIn K mainGlobals "NoKind" = some (some (.ref x2)))
  (ax3 : PySem.W.nsIn K mainGlobals "NoPlace" = some (some (.ref x3)))
  (ax4 : PySem.W.nsIn K mainGlobals "NoRow" = some (some (.ref x4)))
  (ax5 : PySem.W.nsIn K mainGlobals "NoCut" = some (some (.ref x5)))
  (ax6 : PySem.W.nsIn K mainGlobals "NoPart" = some (some (.ref x6)))
  (ax7 : PySem.W.nsIn K mainGlobals "NoSum" = some (some (.ref x7)))
  (ax8 : PySem.W.nsIn K mainGlobals "TooMany" = some (some (.ref x8)))
  (ax9 : PySem.W.nsIn K mainGlobals "NoText" = some (some (.ref x9)))
  (ax10 : PySem.W.nsIn K mainGlobals "NoName" = some (some (.ref x10)))
  (ax11 : PySem.W.nsIn K mainGlobals "NoSaying" = some (some (.ref x11)))
  (axS : PySem.W.nsIn K mainGlobals "SumError" = some (some (.ref XS)))
  (gaP : PySem.W.findIn K (.ref x0) "__getattribute__" = some (some (.builtin "BaseException.__getattribute__")))
  (ghP : PySem.W.findIn K (.ref x0) "__getattr__" = some none)
  (caP : PySem.W.findIn K (.ref x0) "__class__" = some (some (.builtin "object.__class__")))
  (obP : PySem.W.mroIn K x0 (.type "object") = some true)
  (beP : PySem.W.mroIn K x0 (.type "BaseException") = some true)
  (clP : (PySem.W.clsIn K x0).isSome = true)
  (vvP : PySem.W.kitOne K (.ref x0) (.type "ValueError") = some true)
  (emP : PySem.W.exmOne K (.ref x0) (.ref XS) = some true)
  (eiP : PySem.W.excIn K x0 [.type "ValueError", .type "Exception", .type "BaseException", .type "object"] "ValueError.__new__" = true)
  (kkP : [x0, x1, x2, x3, x4, x5, x6, x7, x8, x9, x10, x11].map (fun x => PySem.W.kitOne K (.ref x0) (.ref x)) = (List.range 12).map fun i : Nat => some (decide ((i : Int) = 0)))
  (gaN : PySem.W.findIn K (.ref x1) "__getattribute__" = some (some (.builtin "BaseException.__getattribute__")))
  (ghN : PySem.W.findIn K (.ref x1) "__getattr__" = some none)
  (caN : PySem.W.findIn K (.ref x1) "__class__" = some (some (.builtin "object.__class__")))
  (obN : PySem.W.mroIn K x1 (.type "object") = some true)
  (beN : PySem.W.mroIn K x1 (.type "BaseException") = some true)
  (clN : (PySem.W.clsIn K x1).isSome = true)
  (vvN : PySem.W.kitOne K (.ref x1) (.type "ValueError") = some true)
  (emN : PySem.W.exmOne K (.ref x1) (.ref XS) = some true)
  (eiN : PySem.W.excIn K x1 [.type "ValueError", .type "Exception", .type "BaseException", .type "object"] "ValueError.__new__" = true)
  (kkN : [x0, x1, x2, x3, x4, x5, x6, x7, x8, x9, x10, x11].map (fun x => PySem.W.kitOne K (.ref x1) (.ref x)) = (List.range 12).map fun i : Nat => some (decide ((i : Int) = 1)))
  (gaL : PySem.W.findIn K (.ref x3) "__getattribute__" = some (some (.builtin "BaseException.__getattribute__")))
  (ghL : PySem.W.findIn K (.ref x3) "__getattr__" = some none)
  (caL : PySem.W.findIn K (.ref x3) "__class__" = some (some (.builtin "object.__class__")))
  (obL : PySem.W.mroIn K x3 (.type "object") = some true)
  (beL : PySem.W.mroIn K x3 (.type "BaseException") = some true)
  (clL : (PySem.W.clsIn K x3).isSome = true)
  (vvL : PySem.W.kitOne K (.ref x3) (.type "ValueError") = some true)
  (emL : PySem.W.exmOne K (.ref x3) (.ref XS) = some true)
  (eiL : PySem.W.excIn K x3 [.type "ValueError", .type "Exception", .type "BaseException", .type "object"] "ValueError.__new__" = true)
  (kkL : [x0, x1, x2, x3, x4, x5, x6, x7, x8, x9, x10, x11].map (fun x => PySem.W.kitOne K (.ref x3) (.ref x)) = (List.range 12).map fun i : Nat => some (decide ((i : Int) = 3)))
  (gaR : PySem.W.findIn K (.ref x4) "__getattribute__" = some (some (.builtin "BaseException.__getattribute__")))
  (ghR : PySem.W.findIn K (.ref x4) "__getattr__" = some none)
  (caR : PySem.W.findIn K (.ref x4) "__class__" = some (some (.builtin "object.__class__")))
  (obR : PySem.W.mroIn K x4 (.type "object") = some true)
  (beR : PySem.W.mroIn K x4 (.type "BaseException") = some true)
  (clR : (PySem.W.clsIn K x4).isSome = true)
  (vvR : PySem.W.kitOne K (.ref x4) (.type "ValueError") = some true)
  (emR : PySem.W.exmOne K (.ref x4) (.ref XS) = some true)
  (eiR : PySem.W.excIn K x4 [.type "ValueError", .type "Exception", .type "BaseException", .type "object"] "ValueError.__new__" = true)
  (kkR : [x0, x1, x2, x3, x4, x5, x6, x7, x8, x9, x10, x11].map (fun x => PySem.W.kitOne K (.ref x4) (.ref x)) = (List.range 12).map fun i : Nat => some (decide ((i : Int) = 4)))
  (hn_ : PySem.W.specialIn K (.builtin "object.__class__") "__get__" = some (some (.builtin "getset_descriptor.__get__"))) (htk_ : PySem.W.takesIn K (.builtin "object.__class__") = some true)
  (z1 : PySem.W.nsIn K mainGlobals "len" = some none)
  (z2 : PySem.W.nsIn K mainGlobals "max" = some none)
  (z3 : PySem.W.nsIn K mainGlobals "min" = some none)
  (z4 : PySem.W.nsIn K mainGlobals "range" = some none)
  (z5 : PySem.W.nsIn K mainGlobals "list" = some none)
  (z6 : PySem.W.nsIn K mainGlobals "int" = some none)
  (z7 : PySem.W.nsIn K mainGlobals "all" = some none)
  (z8 : PySem.W.nsIn K mainGlobals "isinstance" = some none)
  (z9 : PySem.W.nsIn K mainGlobals "bool" = some none)
  (z10 : PySem.W.nsIn K mainGlobals "str" = some none)
  (z11 : PySem.W.nsIn K mainGlobals "tuple" = some none)
  (z12 : PySem.W.nsIn K mainGlobals "sorted" = some none)
  (z13 : PySem.W.nsIn K mainGlobals "enumerate" = some none)
  (z14 : PySem.W.nsIn K mainGlobals "zip" = some none)
  (z15 : PySem.W.nsIn K mainGlobals "sum" = some none)
  (z16 : PySem.W.nsIn K mainGlobals "abs" = some none)
  (z17 : PySem.W.nsIn K mainGlobals "repr" = some none)
  (z18 : PySem.W.nsIn K mainGlobals "ValueError" = some none)
  : ∃ fd : FuncData, (∀ (s : Shared) (v : Value), BindsTo s fd ⟨[v], []⟩ [("script", v)]) ∧ ∀ base : Heap, K.In base → base.Ns mainGlobals mg → FnOk l.prog w K mg base CX0 31 fa fd ["script"] (spLaw K) := by
 have e := hfa.symm.trans (PySem.W.mg_of X G a38)
 cases e
 have M : ∀ (x : Str) (v : Value), PySem.W.nsIn K mainGlobals x = some (some v) → mg x = some v := fun x v h => PySem.W.mg_of X G h
 have zb : ∀ x : Str, PySem.W.nsIn K mainGlobals x = some none → mg x = none := fun x h => PySem.W.mg_none_of X G h
 have F1 := fun_mk (st := sWhole) l1 c1 k1
 have b1 := F1.binds (ps := ["thing"]) fun _ _ _ _ _ _ us hl => match us, hl with | [_], _ => rfl
 have F2 := fun_mk (st := sLw) l2 c2 k2
 have b2 := F2.binds (ps := ["thing"]) fun _ _ _ _ _ _ us hl => match us, hl with | [_], _ => rfl
 have F3 := fun_mk (st := sRise) l3 c3 k3
 have b3 := F3.binds (ps := ["thing", "fewest"]) fun _ _ _ _ _ _ us hl => match us, hl with | [_, _], _ => rfl
 have F4 := fun_mk (st := sIsP) l4 c4 k4
 have b4 := F4.binds (ps := ["thing"]) fun _ _ _ _ _ _ us hl => match us, hl with | [_], _ => rfl
 have F5 := fun_mk (st := sCkP) l5 c5 k5
 have b5 := F5.binds (ps := ["plan"]) fun _ _ _ _ _ _ us hl => match us, hl with | [_], _ => rfl
 have F6 := fun_mk (st := sCkN) l6 c6 k6
 have b6 := F6.binds (ps := ["plan", "number"]) fun _ _ _ _ _ _ us hl => match us, hl with | [_, _], _ => rfl
 have F7 := fun_mk (st := sAdd) l7 c7 k7
 have b7 := F7.binds (ps := ["plan", "one", "other"]) fun _ _ _ _ _ _ us hl => match us, hl with | [_, _, _], _ => rfl
 have F8 := fun_mk (st := sAllP) l8 c8 k8
 have b8 := F8.binds (ps := ["plan"]) fun _ _ _ _ _ _ us hl => match us, hl with | [_], _ => rfl
 have F9 := fun_mk (st := sNear) l9 c9 k9
 have b9 := F9.binds (ps := ["plan", "number"]) fun _ _ _ _ _ _ us hl => match us, hl with | [_, _], _ => rfl
 have F10 := fun_mk (st := sNums) l10 c10 k10
 have b10 := F10.binds (ps := ["plan", "places"]) fun _ _ _ _ _ _ us hl => match us, hl with | [_, _], _ => rfl
 have F11 := fun_mk (st := sNb) l11 c11 k11
 have b11 := F11.binds (ps := ["plan", "numbers"]) fun _ _ _ _ _ _ us hl => match us, hl with | [_, _], _ => rfl
 have F12 := fun_mk (st := sHo) l12 c12 k12
 have b12 := F12.binds (ps := ["plan", "thing"]) fun _ _ _ _ _ _ us hl => match us, hl with | [_, _], _ => rfl
 have F13 := fun_mk (st := sIsR) l13 c13 k13
 have b13 := F13.binds (ps := ["plan", "thing"]) fun _ _ _ _ _ _ us hl => match us, hl with | [_, _], _ => rfl
 have F14 := fun_mk (st := sTr) l14 c14 k14
 have b14 := F14.binds (ps := ["plan"]) fun _ _ _ _ _ _ us hl => match us, hl with | [_], _ => rfl
 have F15 := fun_mk (st := sCr) l15 c15 k15
 have b15 := F15.binds (ps := ["plan"]) fun _ _ _ _ _ _ us hl => match us, hl with | [_], _ => rfl
 have F16 := fun_mk (st := sCg) l16 c16 k16
 have b16 := F16.binds (ps := ["plan"]) fun _ _ _ _ _ _ us hl => match us, hl with | [_], _ => rfl
 have F17 := fun_mk (st := sCb) l17 c17 k17
 have b17 := F17.binds (ps := ["plan", "one", "other"]) fun _ _ _ _ _ _ us hl => match us, hl with | [_, _, _], _ => rfl
 have F18 := fun_mk (st := sRb) l18 c18 k18
 have b18 := F18.binds (ps := ["plan", "number"]) fun _ _ _ _ _ _ us hl => match us, hl with | [_, _], _ => rfl
 have F19 := fun_mk (st := sNo) l19 c19 k19
 have b19 := F19.binds (ps := ["plan", "thing"]) fun _ _ _ _ _ _ us hl => match us, hl with | [_, _], _ => rfl
 have F20 := fun_mk (st := sDs) l20 c20 k20
 have b20 := F20.binds (ps := ["script", "many"]) fun _ _ _ _ _ _ us hl => match us, hl with | [_, _], _ => rfl
 have F21 := fun_mk (st := sTk) l21 c21 k21
 have b21 := F21.binds (ps := ["store", "many"]) fun _ _ _ _ _ _ us hl => match us, hl with | [_, _], _ => rfl
 have F22 := fun_mk (st := sNu) l22 c22 k22
 have b22 := F22.binds (ps := ["store", "many"]) fun _ _ _ _ _ _ us hl => match us, hl with | [_, _], _ => rfl
 have F23 := fun_mk (st := sSp) l23 c23 k23
 have b23 := F23.binds (ps := ["store"]) fun _ _ _ _ _ _ us hl => match us, hl with | [_], _ => rfl
 have F24 := fun_mk (st := sCopy) l24 c24 k24
 have b24 := F24.binds (ps := ["plan"]) fun _ _ _ _ _ _ us hl => match us, hl with | [_], _ => rfl
 have F25 := fun_mk (st := sLN) l25 c25 k25
 have b25 := F25.binds (ps := ["plan", "one", "other"]) fun _ _ _ _ _ _ us hl => match us, hl with | [_, _, _], _ => rfl
 have F26 := fun_mk (st := sLW) l26 c26 k26
 have b26 := F26.binds (ps := ["plan", "last", "left", "ends", "known"]) fun _ _ _ _ _ _ us hl => match us, hl with | [_, _, _, _, _], _ => rfl
 have F27 := fun_mk (st := sAlw) l27 c27 k27
 have b27 := F27.binds (ps := ["plan"]) fun _ _ _ _ _ _ us hl => match us, hl with | [_], _ => rfl
 have F28 := fun_mk (st := sKin) l28 c28 k28
 have b28 := F28.binds (ps := ["caught", "due"]) fun _ _ _ _ _ _ us hl => match us, hl with | [_, _], _ => rfl
 have F29 := fun_mk (st := sNls) l29 c29 k29
 have b29 := F29.binds (ps := ["store", "row"]) fun _ _ _ _ _ _ us hl => match us, hl with | [_, _], _ => rfl
 have F30 := fun_mk (st := sNop) l30 c30 k30
 have b30 := F30.binds (ps := ["store", "plan"]) fun _ _ _ _ _ _ us hl => match us, hl with | [_, _], _ => rfl
 have F31 := fun_mk (st := sCau) l31 c31 k31
 have b31 := F31.binds (ps := ["door", "plan", "one", "other"]) fun _ _ _ _ _ _ us hl => match us, hl with | [_, _, _, _], _ => rfl
 have F32 := fun_mk (st := sRef) l32 c32 k32
 have b32 := F32.binds (ps := ["door", "plan", "one", "other", "due"]) fun _ _ _ _ _ _ us hl => match us, hl with | [_, _, _, _, _], _ => rfl
 have F33 := fun_mk (st := sOd) l33 c33 k33
 have b33 := F33.binds (ps := ["store", "many"]) fun _ _ _ _ _ _ us hl => match us, hl with | [_, _], _ => rfl
 have F34 := fun_mk (st := sStr) l34 c34 k34
 have b34 := F34.binds (ps := ["store", "plan"]) fun _ _ _ _ _ _ us hl => match us, hl with | [_, _], _ => rfl
 have F35 := fun_mk (st := sNrw) l35 c35 k35
 have b35 := F35.binds (ps := ["store", "plan"]) fun _ _ _ _ _ _ us hl => match us, hl with | [_, _], _ => rfl
 have F36 := fun_mk (st := sPr) l36 c36 k36
 have b36 := F36.binds (ps := ["store", "plan"]) fun _ _ _ _ _ _ us hl => match us, hl with | [_, _], _ => rfl
 have F37 := fun_mk (st := sTr2) l37 c37 k37
 have b37 := F37.binds (ps := ["store", "plan", "rows"]) fun _ _ _ _ _ _ us hl => match us, hl with | [_, _, _], _ => rfl
 have F38 := fun_mk (st := sLaw) l38 c38 k38
 have b38 := F38.binds (ps := ["script"]) fun _ _ _ _ _ _ us hl => match us, hl with | [_], _ => rfl
 have F39 := fun_mk (st := sTIn) l39 c39 k39
 have b39 := F39.binds (ps := ["self", "plan", "first_places", "last_places"]) fun _ _ _ _ _ _ us hl => match us, hl with | [_, _, _, _], _ => rfl
 have F40 := fun_mk (st := sWy) l40 c40 k40
 have b40 := F40.binds (ps := ["self", "left", "end"]) fun _ _ _ _ _ _ us hl => match us, hl with | [_, _, _], _ => rfl
 have F41 := fun_mk (st := sWb) l41 c41 k41
 have b41 := F41.binds (ps := ["self", "left", "place"]) fun _ _ _ _ _ _ us hl => match us, hl with | [_, _, _], _ => rfl
 have F42 := fun_mk (st := sAw) l42 c42 k42
 have b42 := F42.binds (ps := ["self"]) fun _ _ _ _ _ _ us hl => match us, hl with | [_], _ => rfl
 have F43 := fun_mk (st := sWah) l43 c43 k43
 have b43 := F43.binds (ps := ["self", "left", "end", "place"]) fun _ _ _ _ _ _ us hl => match us, hl with | [_, _, _, _], _ => rfl
 have F44 := fun_mk (st := sSb) l44 c44 k44
 have b44 := F44.binds (ps := ["self", "left", "end", "number"]) fun _ _ _ _ _ _ us hl => match us, hl with | [_, _, _, _], _ => rfl
 have F45 := fun_mk (st := sPb) l45 c45 k45
 have b45 := F45.binds (ps := ["self", "number"]) fun _ _ _ _ _ _ us hl => match us, hl with | [_, _], _ => rfl
 have F46 := fun_mk (st := sNa) l46 c46 k46
 have b46 := F46.binds (ps := ["self", "places"]) fun _ _ _ _ _ _ us hl => match us, hl with | [_, _], _ => rfl
 have F47 := fun_mk (st := sSteps) l47 c47 k47
 have b47 := F47.binds (ps := ["self", "left", "end"]) fun _ _ _ _ _ _ us hl => match us, hl with | [_, _, _], _ => rfl
 have F48 := fun_mk (st := sIni0) l48 c48 k48
 have b48 := F48.binds (ps := ["self", "plan", "first_places"]) fun _ _ _ _ _ _ us hl => match us, hl with | [_, _, _], _ => rfl
 refine ⟨PySem.W.fnOf "law" "law" (defArgs sLaw) (defBody sLaw) (defScope sLaw) .none kV38 dc38 pm38 an38 cd38 ct38, fun s v => .of_eq rfl, fun base _ _ => ?_⟩
 have exP : ExD K [x0, x1, x2, x3, x4, x5, x6, x7, x8, x9, x10, x11] XS x0 0 := ⟨kkP, vvP, ⟨gaP, ghP, caP, obP, beP, clP, hn_, htk_⟩, emP, eiP, by decide⟩
 have exN : ExD K [x0, x1, x2, x3, x4, x5, x6, x7, x8, x9, x10, x11] XS x1 1 := ⟨kkN, vvN, ⟨gaN, ghN, caN, obN, beN, clN, hn_, htk_⟩, emN, eiN, by decide⟩
 have exL : ExD K [x0, x1, x2, x3, x4, x5, x6, x7, x8, x9, x10, x11] XS x3 3 := ⟨kkL, vvL, ⟨gaL, ghL, caL, obL, beL, clL, hn_, htk_⟩, emL, eiL, by decide⟩
 have exR : ExD K [x0, x1, x2, x3, x4, x5, x6, x7, x8, x9, x10, x11] XS x4 4 := ⟨kkR, vvR, ⟨gaR, ghR, caR, obR, beR, clR, hn_, htk_⟩, emR, eiR, by decide⟩
 have B4 : Bt4 mg := { len := zb "len" z1, max := zb "max" z2, min := zb "min" z3, range := zb "range" z4, list := zb "list" z5, int := zb "int" z6, all := zb "all" z7, isinstance := zb "isinstance" z8, bool := zb "bool" z9, str := zb "str" z10, tuple := zb "tuple" z11, sorted := zb "sorted" z12, enumerate := zb "enumerate" z13, zip := zb "zip" z14, sum := zb "sum" z15 }
 have B := B4.toBt3
 have BA : BtA mg := { B with abs := zb "abs" z16 }
 have BR : BtR mg := { toBt2 := B.toBt2, repr := zb "repr" z17 }
 have TX : ExT mg x0 x1 x2 x3 x4 x5 x6 x7 x8 x9 x10 x11 XS := ⟨M _ _ ax0, M _ _ ax1, M _ _ ax2, M _ _ ax3, M _ _ ax4, M _ _ ax5, M _ _ ax6, M _ _ ax7, M _ _ ax8, M _ _ ax9, M _ _ ax10, M _ _ ax11, M _ _ axS, zb "ValueError" z18⟩
 have T : TyT K C1 := { cl := ⟨pg1, hd1, po1, sa1⟩, nA := nn1_1, nN := nn1_2, nW := nn1_3, nL := nn1_4, nK := nn1_5 }
 have OW := ok_wholeD (P := l.prog) (w := w) (base := base) F1 B.toBt2
 have OL := ok_lwD F2 B.toBt2 OW b1 k1 (M _ _ a1)
 have OR := ok_riseD F3 B.toBt2 (M _ _ m1) OW b1 k1 (M _ _ a1)
 have OI := ok_isPD F4 B.toBt2 OR b3 k3 (M _ _ a3)
 have OC := ok_ckX F5 exP.i TX.m0 OI b4 k4 (M _ _ a4)
 have OC0 := OC.cx0.imp (fun _ _ _ _ h => ck_to (XP := x0) h)
 have OCY := ok_ckY F6 exN.i TX.m1 OW b1 k1 (M _ _ a1)
 have OCN := OCY.cx0.imp (fun _ _ _ _ h => cn_to (XN := x1) h)
 have OA := ok_add (P := l.prog) (w := w) (mg := mg) (base := base) F7
 have ONB := ok_nb F11 B4 OA b7 k7 (M _ _ a7)
 have OH := ok_hoD F12 B.toBt2 OL b2 k2 (M _ _ a2)
 have OIR := ok_isRX F13 OC b5 k5 (M _ _ a5) (OH.mono (by decide)) b12 k12 (M _ _ a12) (ONB.mono (by decide)) b11 k11 (M _ _ a11)
 have OAP := ok_allP (P := l.prog) (w := w) (base := base) F8 B
 have ON := ok_near F9 B OA b7 k7 (M _ _ a7)
 have OI0 := ok_ini0 F48 B T.toSrT ON b9 k9 (M _ _ a9)
 have OTI := ok_tin F39 B T ⟨ga1, rd1, a48, k48⟩ (M _ _ aB1) OI0 b48
 have OST := ok_steps (P := l.prog) (w := w) (mg := mg) (base := base) F47 T.toSrT
 have OWT := ok_ways F40 F41 B4 T ⟨a40, i40, k40⟩ ⟨a41, i41, k41⟩ ⟨a47, i47, k47⟩ OST b47 b40 b41 10
 have OAW := ok_aw F42 T ⟨a40, i40, k40⟩ OWT b40
 have OTR := ok_tr F14 ⟨mk1, a39, i39, kc1⟩ (M _ _ aC1) OTI b39 (OAP.mono (by decide)) b8 k8 (M _ _ a8)
 have OCR := ok_cr F15 T ⟨a42, i42, k42⟩ OAW b42 (OC0.mono (by decide)) b5 k5 (M _ _ a5) (OTR.mono (by decide)) b14 k14 (M _ _ a14)
 have OCG := ok_cg F16 B T (M _ _ m2) ⟨a42, i42, k42⟩ ⟨mk1, a39, i39, kc1⟩ (M _ _ aC1) (OTI.mono (by decide)) b39 OAW b42 (OC0.mono (by decide)) b5 k5 (M _ _ a5) (ON.mono (by decide)) b9 k9 (M _ _ a9)
 have OCB := ok_cb F17 T ⟨a42, i42, k42⟩ ⟨mk1, a39, i39, kc1⟩ (M _ _ aC1) (OTI.mono (by decide)) b39 OAW b42 (OC0.mono (by decide)) b5 k5 (M _ _ a5) (OCN.mono (by decide)) b6 k6 (M _ _ a6)
 have ORX := ok_crR (j := 23) F15 T ⟨a42, i42, k42⟩ OAW b42 (OC.mono (by decide)) b5 k5 (M _ _ a5) (OTR.mono (by decide)) b14 k14 (M _ _ a14)
 have OGX := ok_cgR (j := 22) F16 B T (M _ _ m2) ⟨a42, i42, k42⟩ ⟨mk1, a39, i39, kc1⟩ (M _ _ aC1) (OTI.mono (by decide)) b39 OAW b42 (OC.mono (by decide)) b5 k5 (M _ _ a5) (ON.mono (by decide)) b9 k9 (M _ _ a9)
 have OBX := ok_cbR (j := 22) F17 T ⟨a42, i42, k42⟩ ⟨mk1, a39, i39, kc1⟩ (M _ _ aC1) (OTI.mono (by decide)) b39 OAW b42 (OC.mono (by decide)) b5 k5 (M _ _ a5) (OCY.mono (by decide)) b6 k6 (M _ _ a6)
 have OYX := ok_rbR F18 T exL.i TX.m3 ⟨a42, i42, k42⟩ ⟨a45, i45, k45⟩ (OAW.mono (by decide)) b42 FnOk_never b45 (OC.mono (by decide)) b5 k5 (M _ _ a5) (OTR.mono (by decide)) b14 k14 (M _ _ a14) (OW.mono (by decide)) b1 k1 (M _ _ a1) FnOk_never b10 k10 (M _ _ a10)
 have ONX := ok_noR (j := 25) F19 T ⟨a46, i46, k46⟩ exR.i TX.m4 FnOk_never b46 (OIR.mono (by decide)) b13 k13 (M _ _ a13) (OTR.mono (by decide)) b14 k14 (M _ _ a14)
 have OT := ok_tk (P := l.prog) (w := w) (base := base) F21 B
 have OD := ok_ds (P := l.prog) (w := w) (base := base) F20 BA
 have ONU := ok_nu F22 B OT b21 k21 (M _ _ a21)
 have OSP := ok_sp F23 B (OT.mono (by decide)) b21 k21 (M _ _ a21) ONU b22 k22 (M _ _ a22)
 have OCP := ok_copy (P := l.prog) (w := w) (base := base) F24 B.toBt2
 have OLN := ok_LN (P := l.prog) (w := w) (mg := mg) (base := base) F25
 have OLW := ok_LW F26 B OLN b25 k25 (M _ _ a25) b26 k26 (M _ _ a26) 11
 have OAL := ok_alw F27 B OLW b26 k26 (M _ _ a26)
 have OKI := ok_kin (P := l.prog) (w := w) (base := base) F28 B.toBt2 TX
 have ONL := ok_nls F29 BR OT b21 k21 (M _ _ a21)
 have ONP := ok_nop F30 BR (OT.mono (by decide)) b21 k21 (M _ _ a21) ONL b29 k29 (M _ _ a29)
 have OUR := ok_cauR F31 TX.mS exP exN exL exR (ORX.mono (by decide)) b15 k15 (M _ _ a15) (OGX.mono (by decide)) b16 k16 (M _ _ a16) (OBX.mono (by decide)) b17 k17 (M _ _ a17) (OYX.mono (by decide)) b18 k18 (M _ _ a18) (ONX.mono (by decide)) b19 k19 (M _ _ a19)
 have OUG := ok_cauG F31 TX.mS (OCR.cx1.mono (by decide)) b15 k15 (M _ _ a15) (OCG.cx1.mono (by decide)) b16 k16 (M _ _ a16) (OCB.cx1.mono (by decide)) b17 k17 (M _ _ a17) FnOk_never b18 k18 (M _ _ a18) FnOk_never b19 k19 (M _ _ a19)
 have ORE := ok_ref F32 BR OUR b31 k31 (M _ _ a31) (OKI.mono (by decide)) b28 k28 (M _ _ a28)
 have OOD := ok_od F33 OT b21 k21 (M _ _ a21)
 have ONR := ok_nrw F35 B OT b21 k21 (M _ _ a21)
 have OSR := ok_str F34 B OT b21 k21 (M _ _ a21)
 have OPR := ok_pr F36 B (ONP.mono (by decide)) b30 k30 (M _ _ a30) (OT.mono (by decide)) b21 k21 (M _ _ a21) ORE b32 k32 (M _ _ a32)
 have OTF := ok_trf F37 B (OSR.mono (by decide)) b34 k34 (M _ _ a34) (OOD.mono (by decide)) b33 k33 (M _ _ a33) (ONR.mono (by decide)) b35 k35 (M _ _ a35) (OT.mono (by decide)) b21 k21 (M _ _ a21) ORE b32 k32 (M _ _ a32)
 exact ok_law F38 B (OD.mono (by decide)) b20 k20 (M _ _ a20) (OSP.mono (by decide)) b23 k23 (M _ _ a23) (OCP.mono (by decide)) b24 k24 (M _ _ a24) (OAL.mono (by decide)) b27 k27 (M _ _ a27) OPR b36 k36 (M _ _ a36) OTF b37 k37 (M _ _ a37) (OUG.mono (by decide)) b31 k31 (M _ _ a31)
theorem walk {l : PySem.W.OpenLaw} {q : Program} {loose : List Str} {XP : (Str → Option Value) → Heap → Prop} {YP : World → Heap → Prop} {d : DefRec} {K : Params → PySem.W.Frag} (hn : l.most = some 63) (hdf : d.params.defaults = [])
  (hY : ∀ (w : World) (h : Heap), YP w h → (K w.params).In h)
  (F : ∀ (w : World) (mg : Str → Option Value) (fa : Addr) (h : Heap), (K w.params).In h → h.Ns mainGlobals mg → mg d.name = some (.ref fa) →
   ∃ fd : FuncData, (∀ (s : Shared) (u : Value), BindsTo s fd ⟨[u], []⟩ [("script", u)]) ∧ ∀ base : Heap, (K w.params).In base → base.Ns mainGlobals mg → FnOk l.prog w (K w.params) mg base CX0 31 fa fd ["script"] (spLaw (K w.params))) :
  PySem.W.WalkO q loose XP YP l.row.toRowW d [] (fun f vs => PySem.call f vs) :=
 L2.walk_of (n := 63) (k := 31) (x := "script") (CX := fun _ => CX0) (sp := fun w => spLaw (K w.params)) hn (by decide) hdf ⟨rfl, by decide, by decide, rfl⟩ hY F (fun _ _ a ns hl _ hS => ⟨a, ns, rfl, hS, hl, fun _ => rfl⟩) fun _ _ _ _ _ z => z
end N17
def PySem.W.Fast.tw6425298958153034710 : Nat := 0
def PySem.W.Fast.tw4038676824525002381 : Nat := 0
def PySem.W.Fast.tw5400621332588454804 : Nat := 0
def PySem.W.Fast.tw6251927182156194761 : Nat := 0
def PySem.W.Fast.tw11783071187136534815 : Nat := 0
def PySem.W.Fast.tw7860911364164199141 : Nat := 0
def PySem.W.Fast.tw10020222979245688854 : Nat := 0
def PySem.W.Fast.tw10986226268498361378 : Nat := 0
def PySem.W.Fast.tw17889093489107578896 : Nat := 0
def PySem.W.Fast.tw14731851895718148544 : Nat := 0
def PySem.W.Fast.tw14396603223199382516 : Nat := 0
def PySem.W.Fast.tw11164731004003333949 : Nat := 0
def PySem.W.Fast.tw2462066723690472388 : Nat := 0
def PySem.W.Fast.tw72363756704626094 : Nat := 0
def PySem.W.Fast.tw15903014237211332572 : Nat := 0
def PySem.W.Fast.tw1950827749667508097 : Nat := 0
def PySem.W.Fast.tw8991407866572890665 : Nat := 0
def PySem.W.Fast.tw8394073071035030889 : Nat := 0
def PySem.W.Fast.tw7829505065909286011 : Nat := 0
def PySem.W.Fast.tw4167154396919124112 : Nat := 0
def PySem.W.Fast.tw3134213326778038217 : Nat := 0
def PySem.W.Fast.tw2079107155276269521 : Nat := 0
def PySem.W.Fast.tw13141819614580198883 : Nat := 0
def PySem.W.Fast.tw15310115418189768332 : Nat := 0
def PySem.W.Fast.tw15651151048851789968 : Nat := 0
def PySem.W.Fast.tw4045505795340126146 : Nat := 0
def PySem.W.Fast.tw8501039551987013095 : Nat := 0
def PySem.W.Fast.tw1137874125604431787 : Nat := 0
def PySem.W.Fast.tw6110095154110281116 : Nat := 0
def PySem.W.Fast.tw7402248839531291654 : Nat := 0
def PySem.W.Fast.tw6108671339338888877 : Nat := 0
def PySem.W.Fast.tw10381722829078150656 : Nat := 0
def PySem.W.Fast.tw7887308404617812115 : Nat := 0
def PySem.W.Fast.tw9502911358722143707 : Nat := 0
def PySem.W.Fast.tw3287834704673563936 : Nat := 0
def PySem.W.Fast.tw6803194295227362126 : Nat := 0
def PySem.W.Fast.tw9678943854795973976 : Nat := 0
def PySem.W.Fast.tw1091043965057593131 : Nat := 0
def PySem.W.Fast.tw11506944019462442533 : Nat := 0
def PySem.W.Fast.tw13792759580948669929 : Nat := 0
def PySem.W.Fast.tw14912403615507530037 : Nat := 0
def PySem.W.Fast.tw17281512203527569555 : Nat := 0
def PySem.W.Fast.tw11703714718176883925 : Nat := 0
def PySem.W.Fast.tw9883669964055254977 : Nat := 0
def PySem.W.Fast.tw10712482253794268617 : Nat := 0
def PySem.W.Fast.tw18174448895033049511 : Nat := 0
def PySem.W.Fast.tw5543283037240682024 : Nat := 0
def PySem.W.Fast.tw18124096936966682299 : Nat := 0
def PySem.W.Fast.tw12679633504249962103 : Nat := 0
def PySem.W.Fast.tw7142106263009885998 : Nat := 0
def PySem.W.Fast.tw110850206653202564 : Nat := 0
def PySem.W.Fast.tw969373178078358387 : Nat := 0
def PySem.W.Fast.tw8655414672488029788 : Nat := 0
def PySem.W.Fast.tw18289111284608426074 : Nat := 0
def PySem.W.Fast.tw13002951037551006878 : Nat := 0
def PySem.W.Fast.tw13555316428698676038 : Nat := 0
def PySem.W.Fast.tw18056012622121901438 : Nat := 0
def PySem.W.Fast.tw15607204442517722539 : Nat := 0
def PySem.W.Fast.tw15008321253476819828 : Nat := 0
def PySem.W.Fast.tw8046324856330238032 : Nat := 0
def PySem.W.Fast.tw4044070515133188006 : Nat := 0
def PySem.W.Fast.tw12227153312645092138 : Nat := 0
def PySem.W.Fast.tw5387486840572974655 : Nat := 0
def PySem.W.Fast.tw6764745736178622860 : Nat := 0
def PySem.W.Fast.tw7198353982826951867 : Nat := 0
def PySem.W.Fast.tw13796113048322432458 : Nat := 0
def PySem.W.Fast.tw15866317829887474517 : Nat := 0
def PySem.W.Fast.tw12526329078220854502 : Nat := 0
def PySem.W.Fast.tw10246677375526232382 : Nat := 0
def PySem.W.Fast.tw6386962502782438594 : Nat := 0
def PySem.W.Fast.tw7155978512597608906 : Nat := 0
def PySem.W.Fast.tw15404539579272953183 : Nat := 0
def PySem.W.Fast.tw11110129732081181182 : Nat := 0
def PySem.W.Fast.tw17819394564935717109 : Nat := 0
def PySem.W.Fast.tw7308428298063370881 : Nat := 0
def PySem.W.Fast.tw9266059578642933922 : Nat := 0
def PySem.W.Fast.tw16273392125536587679 : Nat := 0
def PySem.W.Fast.tw12905837984789514861 : Nat := 0
def PySem.W.Fast.tw3107562660192047582 : Nat := 0
def PySem.W.Fast.tw13744849114468525385 : Nat := 0
def PySem.W.Fast.tw7052678934409609812 : Nat := 0
def PySem.W.Fast.tw16772353946249487544 : Nat := 0
def PySem.W.Fast.tw14628375317447404636 : Nat := 0
def PySem.W.Fast.tw9260416558198410560 : Nat := 0
def PySem.W.Fast.tw5041217438999283940 : Nat := 0
def PySem.W.Fast.tw3698333175796145451 : Nat := 0
def PySem.W.Fast.tw7344314005827094866 : Nat := 0
def PySem.W.Fast.tw1462318803170843509 : Nat := 0
def PySem.W.Fast.tw4442998864941555388 : Nat := 0
def PySem.W.Fast.tw9050897237461272967 : Nat := 0
def PySem.W.Fast.tw3413547672024239259 : Nat := 0
def PySem.W.Fast.tw13922131349321752445 : Nat := 0
def PySem.W.Fast.tw7809743945017094275 : Nat := 0
def PySem.W.Fast.tw13812006897266325600 : Nat := 0
def PySem.W.Fast.tw17141951293757084971 : Nat := 0
def PySem.W.Fast.tw8529139132000732450 : Nat := 0
def PySem.W.Fast.tw9558933311622046137 : Nat := 0
def PySem.W.Fast.tw361407326121289626 : Nat := 0
def PySem.W.Fast.tw9300227825815070142 : Nat := 0
def PySem.W.Fast.tw11649360340747624555 : Nat := 0
def PySem.W.Fast.tw10980551042776971777 : Nat := 0
def PySem.W.Fast.tw7324796617566727336 : Nat := 0
def PySem.W.Fast.tw15013628546807049950 : Nat := 0
def PySem.W.Fast.tw634521835124717403 : Nat := 0
def PySem.W.Fast.tw17785105435473874781 : Nat := 0
def PySem.W.Fast.tw9792780674009461651 : Nat := 0
def PySem.W.Fast.tw3052862554997755943 : Nat := 0
def PySem.W.Fast.tw11296446253109961058 : Nat := 0
def PySem.W.Fast.tw4115157419255678222 : Nat := 0
def PySem.W.Fast.tw7328594709867948858 : Nat := 0
def PySem.W.Fast.tw10135385942190990149 : Nat := 0
def PySem.W.Fast.tw6351651017462079642 : Nat := 0
def PySem.W.Fast.tw17218248233369115104 : Nat := 0
def PySem.W.Fast.tw2013843916817981954 : Nat := 0
def PySem.W.Fast.tw3896468008487468363 : Nat := 0
def PySem.W.Fast.tw2242270703462618053 : Nat := 0
def PySem.W.Fast.tw9991649740280871813 : Nat := 0
def PySem.W.Fast.tw17014581875307207667 : Nat := 0
def PySem.W.Fast.tw1173390695813082138 : Nat := 0
def PySem.W.Fast.tw7561495175210969253 : Nat := 0
def PySem.W.Fast.tw8338803334975311537 : Nat := 0
def PySem.W.Fast.tw4056480138485465505 : Nat := 0
def PySem.W.Fast.tw2066787425604493986 : Nat := 0
def PySem.W.Fast.tw1558998036526237491 : Nat := 0
def PySem.W.Fast.tw5124275510018785183 : Nat := 0
def PySem.W.Fast.tw12421442666178247430 : Nat := 0
def PySem.W.Fast.tw8174866481691552517 : Nat := 0
def PySem.W.Fast.tw6204189264308705448 : Nat := 0
def PySem.W.Fast.tw6966708482091858296 : Nat := 0
def PySem.W.Fast.tw11915330509107299118 : Nat := 0
def PySem.W.Fast.tw15585842631852236445 : Nat := 0
def PySem.W.Fast.tw15921109000786683682 : Nat := 0
def PySem.W.Fast.tw17613081288024322682 : Nat := 0
def PySem.W.Fast.tw2417905211799170605 : Nat := 0
def PySem.W.Fast.tw17360856550725535749 : Nat := 0
def PySem.W.Fast.tw4375937011567855953 : Nat := 0
def PySem.W.Fast.tw9878894694657696453 : Nat := 0
def PySem.W.Fast.tw10420657740564002187 : Nat := 0
def PySem.W.Fast.tw5348976941728232094 : Nat := 0
open PySem PySem.W PyProof.Rows
set_option maxRecDepth 100000 in
set_option maxHeartbeats 0 in
theorem PySem.Challenge.cw_nearsums_k17_no_plans_no_numbers_no_rows_holds : PySem.Challenge.rw_nearsums_k17_no_plans_no_numbers_no_rows.Holds := by
 w_on; o_law; k_head; (case hw => w_witness2)
 k_fill
 refine N17.walk (l := PySem.Challenge.rw_nearsums_k17_no_plans_no_numbers_no_rows) rfl rfl (fun w h Y => PySem.W.kIn_of Y) ?F
 case F =>
  intro w mg fa h KX G hmg
  refine' N17.all_mk KX G hmg ?a1 ?l1 ?c1 ?k1 ?a2 ?l2 ?c2 ?k2 ?a3 ?l3 ?c3 ?k3 ?a4 ?l4 ?c4 ?k4 ?a5 ?l5 ?c5 ?k5 ?a6 ?l6 ?c6 ?k6 ?a7 ?l7 ?c7 ?k7 ?a8 ?l8 ?c8 ?k8 ?a9 ?l9 ?c9 ?k9 ?a10 ?l10 ?c10 ?k10 ?a11 ?l11 ?c11 ?k11 ?a12 ?l12 ?c12 ?k12 ?a13 ?l13 ?c13 ?k13 ?a14 ?l14 ?c14 ?k14 ?a15 ?l15 ?c15 ?k15 ?a16 ?l16 ?c16 ?k16 ?a17 ?l17 ?c17 ?k17 ?a18 ?l18 ?c18 ?k18 ?a19 ?l19 ?c19 ?k19 ?a20 ?l20 ?c20 ?k20 ?a21 ?l21 ?c21 ?k21 ?a22 ?l22 ?c22 ?k22 ?a23 ?l23 ?c23 ?k23 ?a24 ?l24 ?c24 ?k24 ?a25 ?l25 ?c25 ?k25 ?a26 ?l26 ?c26 ?k26 ?a27 ?l27 ?c27 ?k27 ?a28 ?l28 ?c28 ?k28 ?a29 ?l29 ?c29 ?k29 ?a30 ?l30 ?c30 ?k30 ?a31 ?l31 ?c31 ?k31 ?a32 ?l32 ?c32 ?k32 ?a33 ?l33 ?c33 ?k33 ?a34 ?l34 ?c34 ?k34 ?a35 ?l35 ?c35 ?k35 ?a36 ?l36 ?c36 ?k36 ?a37 ?l37 ?c37 ?k37 ?a38 ?l38 ?c38 ?k38 ?aC1 ?pg1 ?hd1 ?po1 ?sa1 ?mk1 ?kc1 ?nn1_1 ?nn1_2 ?nn1_3 ?nn1_4 ?nn1_5 ?aB1 ?ty1 ?ga1 ?rd1 ?a39 ?i39 ?l39 ?c39 ?k39 ?a40 ?i40 ?l40 ?c40 ?k40 ?a41 ?i41 ?l41 ?c41 ?k41 ?a42 ?i42 ?l42 ?c42 ?k42 ?a43 ?i43 ?l43 ?c43 ?k43 ?a44 ?i44 ?l44 ?c44 ?k44 ?a45 ?i45 ?l45 ?c45 ?k45 ?a46 ?i46 ?l46 ?c46 ?k46 ?a47 ?i47 ?l47 ?c47 ?k47 ?a48 ?i48 ?l48 ?c48 ?k48 ?m1 ?m2 ?ax0 ?ax1 ?ax2 ?ax3 ?ax4 ?ax5 ?ax6 ?ax7 ?ax8 ?ax9 ?ax10 ?ax11 ?axS ?gaP ?ghP ?caP ?obP ?beP ?clP ?vvP ?emP ?eiP ?kkP ?gaN ?ghN ?caN ?obN ?beN ?clN ?vvN ?emN ?eiN ?kkN ?gaL ?ghL ?caL ?obL ?beL ?clL ?vvL ?emL ?eiL ?kkL ?gaR ?ghR ?caR ?obR ?beR ?clR ?vvR ?emR ?eiR ?kkR ?hn_ ?htk_ ?z1 ?z2 ?z3 ?z4 ?z5 ?z6 ?z7 ?z8 ?z9 ?z10 ?z11 ?z12 ?z13 ?z14 ?z15 ?z16 ?z17 ?z18
  (case a1 => k_is)
  (case l1 => k_is)
  (case c1 => k_is)
  (case k1 => k_is)
  (case a2 => k_is)
  (case l2 => k_is)
  (case c2 => k_is)
  (case k2 => k_is)
  (case a3 => k_is)
  (case l3 => k_is)
  (case c3 => k_is)
  (case k3 => k_is)
  (case a4 => k_is)
  (case l4 => k_is)
  (case c4 => k_is)
  (case k4 => k_is)
  (case a5 => k_is)
  (case l5 => k_is)
  (case c5 => k_is)
  (case k5 => k_is)
  (case a6 => k_is)
  (case l6 => k_is)
  (case c6 => k_is)
  (case k6 => k_is)
  (case a7 => k_is)
  (case l7 => k_is)
  (case c7 => k_is)
  (case k7 => k_is)
  (case a8 => k_is)
  (case l8 => k_is)
  (case c8 => k_is)
  (case k8 => k_is)
  (case a9 => k_is)
  (case l9 => k_is)
  (case c9 => k_is)
  (case k9 => k_is)
  (case a10 => k_is)
  (case l10 => k_is)
  (case c10 => k_is)
  (case k10 => k_is)
  (case a11 => k_is)
  (case l11 => k_is)
  (case c11 => k_is)
  (case k11 => k_is)
  (case a12 => k_is)
  (case l12 => k_is)
  (case c12 => k_is)
  (case k12 => k_is)
  (case a13 => k_is)
  (case l13 => k_is)
  (case c13 => k_is)
  (case k13 => k_is)
  (case a14 => k_is)
  (case l14 => k_is)
  (case c14 => k_is)
  (case k14 => k_is)
  (case a15 => k_is)
  (case l15 => k_is)
  (case c15 => k_is)
  (case k15 => k_is)
  (case a16 => k_is)
  (case l16 => k_is)
  (case c16 => k_is)
  (case k16 => k_is)
  (case a17 => k_is)
  (case l17 => k_is)
  (case c17 => k_is)
  (case k17 => k_is)
  (case a18 => k_is)
  (case l18 => k_is)
  (case c18 => k_is)
  (case k18 => k_is)
  (case a19 => k_is)
  (case l19 => k_is)
  (case c19 => k_is)
  (case k19 => k_is)
  (case a20 => k_is)
  (case l20 => k_is)
  (case c20 => k_is)
  (case k20 => k_is)
  (case a21 => k_is)
  (case l21 => k_is)
  (case c21 => k_is)
  (case k21 => k_is)
  (case a22 => k_is)
  (case l22 => k_is)
  (case c22 => k_is)
  (case k22 => k_is)
  (case a23 => k_is)
  (case l23 => k_is)
  (case c23 => k_is)
  (case k23 => k_is)
  (case a24 => k_is)
  (case l24 => k_is)
  (case c24 => k_is)
  (case k24 => k_is)
  (case a25 => k_is)
  (case l25 => k_is)
  (case c25 => k_is)
  (case k25 => k_is)
  (case a26 => k_is)
  (case l26 => k_is)
  (case c26 => k_is)
  (case k26 => k_is)
  (case a27 => k_is)
  (case l27 => k_is)
  (case c27 => k_is)
  (case k27 => k_is)
  (case a28 => k_is)
  (case l28 => k_is)
  (case c28 => k_is)
  (case k28 => k_is)
  (case a29 => k_is)
  (case l29 => k_is)
  (case c29 => k_is)
  (case k29 => k_is)
  (case a30 => k_is)
  (case l30 => k_is)
  (case c30 => k_is)
  (case k30 => k_is)
  (case a31 => k_is)
  (case l31 => k_is)
  (case c31 => k_is)
  (case k31 => k_is)
  (case a32 => k_is)
  (case l32 => k_is)
  (case c32 => k_is)
  (case k32 => k_is)
  (case a33 => k_is)
  (case l33 => k_is)
  (case c33 => k_is)
  (case k33 => k_is)
  (case a34 => k_is)
  (case l34 => k_is)
  (case c34 => k_is)
  (case k34 => k_is)
  (case a35 => k_is)
  (case l35 => k_is)
  (case c35 => k_is)
  (case k35 => k_is)
  (case a36 => k_is)
  (case l36 => k_is)
  (case c36 => k_is)
  (case k36 => k_is)
  (case a37 => k_is)
  (case l37 => k_is)
  (case c37 => k_is)
  (case k37 => k_is)
  (case a38 => k_is)
  (case l38 => k_is)
  (case c38 => k_is)
  (case k38 => k_is)
  (case aC1 => k_is)
  (case pg1 => k_is)
  (case hd1 => k_is)
  (case po1 => k_is)
  (case sa1 => k_is)
  (case mk1 => k_is)
  (case kc1 => k_is)
  (case nn1_1 => k_is)
  (case nn1_2 => k_is)
  (case nn1_3 => k_is)
  (case nn1_4 => k_is)
  (case nn1_5 => k_is)
  (case aB1 => k_is)
  (case ty1 => k_is)
  (case ga1 => k_is)
  (case rd1 => k_is)
  (case a39 => k_is)
  (case i39 => k_is)
  (case l39 => k_is)
  (case c39 => k_is)
  (case k39 => k_is)
  (case a40 => k_is)
  (case i40 => k_is)
  (case l40 => k_is)
  (case c40 => k_is)
  (case k40 => k_is)
  (case a41 => k_is)
  (case i41 => k_is)
  (case l41 => k_is)
  (case c41 => k_is)
  (case k41 => k_is)
  (case a42 => k_is)
  (case i42 => k_is)
  (case l42 => k_is)
  (case c42 => k_is)
  (case k42 => k_is)
  (case a43 => k_is)
  (case i43 => k_is)
  (case l43 => k_is)
  (case c43 => k_is)
  (case k43 => k_is)
  (case a44 => k_is)
  (case i44 => k_is)
  (case l44 => k_is)
  (case c44 => k_is)
  (case k44 => k_is)
  (case a45 => k_is)
  (case i45 => k_is)
  (case l45 => k_is)
  (case c45 => k_is)
  (case k45 => k_is)
  (case a46 => k_is)
  (case i46 => k_is)
  (case l46 => k_is)
  (case c46 => k_is)
  (case k46 => k_is)
  (case a47 => k_is)
  (case i47 => k_is)
  (case l47 => k_is)
  (case c47 => k_is)
  (case k47 => k_is)
  (case a48 => k_is)
  (case i48 => k_is)
  (case l48 => k_is)
  (case c48 => k_is)
  (case k48 => k_is)
  (case m1 => k_is)
  (case m2 => k_is)
  (case ax0 => k_is)
  (case ax1 => k_is)
  (case ax2 => k_is)
  (case ax3 => k_is)
  (case ax4 => k_is)
  (case ax5 => k_is)
  (case ax6 => k_is)
  (case ax7 => k_is)
  (case ax8 => k_is)
  (case ax9 => k_is)
  (case ax10 => k_is)
  (case ax11 => k_is)
  (case axS => k_is)
  (case gaP => k_is)
  (case ghP => k_is)
  (case caP => k_is)
  (case obP => k_is)
  (case beP => k_is)
  (case clP => kernel_rfl)
  (case vvP => kernel_rfl)
  (case emP => kernel_rfl)
  (case eiP => kernel_rfl)
  (case kkP => kernel_rfl)
  (case gaN => k_is)
  (case ghN => k_is)
  (case caN => k_is)
  (case obN => k_is)
  (case beN => k_is)
  (case clN => kernel_rfl)
  (case vvN => kernel_rfl)
  (case emN => kernel_rfl)
  (case eiN => kernel_rfl)
  (case kkN => kernel_rfl)
  (case gaL => k_is)
  (case ghL => k_is)
  (case caL => k_is)
  (case obL => k_is)
  (case beL => k_is)
  (case clL => kernel_rfl)
  (case vvL => kernel_rfl)
  (case emL => kernel_rfl)
  (case eiL => kernel_rfl)
  (case kkL => kernel_rfl)
  (case gaR => k_is)
  (case ghR => k_is)
  (case caR => k_is)
  (case obR => k_is)
  (case beR => k_is)
  (case clR => kernel_rfl)
  (case vvR => kernel_rfl)
  (case emR => kernel_rfl)
  (case eiR => kernel_rfl)
  (case kkR => kernel_rfl)
  (case hn_ => k_is)
  (case htk_ => k_is)
  (case z1 => k_is)
  (case z2 => k_is)
  (case z3 => k_is)
  (case z4 => k_is)
  (case z5 => k_is)
  (case z6 => k_is)
  (case z7 => k_is)
  (case z8 => k_is)
  (case z9 => k_is)
  (case z10 => k_is)
  (case z11 => k_is)
  (case z12 => k_is)
  (case z13 => k_is)
  (case z14 => k_is)
  (case z15 => k_is)
  (case z16 => k_is)
  (case z17 => k_is)
  (case z18 => k_is)
