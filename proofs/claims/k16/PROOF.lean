import PyProof.Rows.All
import Wide.All
import OpenK.AllK
import Wide.FinOn
import Lean
import PyProof.EqAt
import PyProof.EqKinds
import PyProof.TupleCall
import PyProof.NeKinds
import PyProof.EnumStmt
import PyProof.WalkInts
import PyProof.ZipIter
import PyProof.Rows.ZipGen
import PyProof.Rows.SumAny
import PyProof.ReprBulk
import PyProof.FitsInt
import PyProof.Draws
import PyProof.FactsAll.NoneType
import PyProof.FactsAll.list_4
import KE.KTryMore
import PyProof.NsDelKeeps
import PyProof.ExcArgsOwn
import PyProof.ExcBaseAll.ValueError
import PySem.Challenge.RW_nearsums_k16_numbers_of_rows
set_option Elab.async false
set_option linter.all false
set_option maxRecDepth 100000
namespace L2
open PySem PySem.Spec PyProof.Rows
abbrev Key := Sum Int Str
def keyIs : Key → Value → Bool
 | .inl k, v => Value.isInt k v
 | .inr x, v => Value.isStrOf x v
def keyH (w : World) : Key → Int
 | .inl k => hashInt k
 | .inr x => hashStr w x
theorem keyIs_shape : ∀ {k : Key} {v : Value}, keyIs k v = true → (∃ i t, k = Sum.inl i ∧ v = Value.int i t) ∨ (∃ x t, k = Sum.inr x ∧ v = Value.str x t)
 | .inl i, v, h => by
  obtain ⟨t, e⟩ := Value.isInt_shape (k := i) (v := v) h
  exact .inl ⟨i, t, rfl, e⟩
 | .inr x, v, h => by
  obtain ⟨t, e⟩ := Value.isStrOf_shape (x := x) (v := v) h
  exact .inr ⟨x, t, rfl, e⟩
theorem keyIs_int (i : Int) (t : Tok) : keyIs (.inl i) (.int i t) = true := by simp [keyIs, Value.isInt]
theorem keyIs_str (x : Str) (t : Tok) : keyIs (.inr x) (.str x t) = true := by simp [keyIs, Value.isStrOf]
theorem key_ll (a b : Int) : decide ((Sum.inl a : Key) = Sum.inl b) = (a == b) := by
 by_cases e : a = b
 ·subst e; simp
 ·have h : ¬ (Sum.inl a : Key) = Sum.inl b := fun q => e (Sum.inl.inj q)
  rw [decide_eq_false h]
  exact (beq_eq_false_iff_ne.mpr e).symm
theorem key_rr (a b : Str) : decide ((Sum.inr a : Key) = Sum.inr b) = decide (a = b) := by
 by_cases e : a = b
 ·subst e; simp
 ·have h : ¬ (Sum.inr a : Key) = Sum.inr b := fun q => e (Sum.inr.inj q)
  rw [decide_eq_false h, decide_eq_false e]
theorem key_lr (a : Int) (b : Str) : decide ((Sum.inl a : Key) = Sum.inr b) = false := decide_eq_false (fun q => nomatch q)
theorem key_rl (a : Str) (b : Int) : decide ((Sum.inr a : Key) = Sum.inl b) = false := decide_eq_false (fun q => nomatch q)
def mixKind (prog : Program) (w : World) : PySem.KeyKind prog w Key where
 is := keyIs
 hash := keyH w
 inj := fun v a b ha hb => by
  rcases keyIs_shape ha with ⟨i, t, rfl, rfl⟩ | ⟨x, t, rfl, rfl⟩
  ·rcases keyIs_shape hb with ⟨j, u, rfl, e⟩ | ⟨y, u, rfl, e⟩
   ·injection e with e1 _; rw [e1]
   ·exact nomatch e
  ·rcases keyIs_shape hb with ⟨j, u, rfl, e⟩ | ⟨y, u, rfl, e⟩
   ·exact nomatch e
   ·injection e with e1 _; rw [e1]
 byValue := fun k v h => by
  rcases keyIs_shape h with ⟨i, t, rfl, rfl⟩ | ⟨x, t, rfl, rfl⟩ <;> rfl
 pyHash := fun hv h => by
  rcases keyIs_shape hv with ⟨i, t, rfl, rfl⟩ | ⟨x, t, rfl, rfl⟩
  ·exact wpAny_pyHash_int h
  ·exact wpAny_pyHash_str h
 eqBool := fun hu hv h => by
  rcases keyIs_shape hu with ⟨i, t, rfl, rfl⟩ | ⟨x, t, rfl, rfl⟩
  ·rcases keyIs_shape hv with ⟨j, u, rfl, rfl⟩ | ⟨y, u, rfl, rfl⟩
   ·rw [key_ll] at h; exact wpAny_eqBool_int h
   ·rw [key_lr] at h; exact SeqAt.EqAt.int_str i t y u _ _ _ _ h
  ·rcases keyIs_shape hv with ⟨j, u, rfl, rfl⟩ | ⟨y, u, rfl, rfl⟩
   ·rw [key_rl] at h; exact SeqAt.EqAt.str_int x t j u _ _ _ _ h
   ·rw [key_rr] at h; exact wpAny_eqBool_str h
 «strs» := fun k x t v h => by
  rcases keyIs_shape h with ⟨i, u, rfl, e⟩ | ⟨y, u, rfl, e⟩
  ·exact nomatch e
  ·injection e with e1 _
   subst e1
   cases v <;> rfl
theorem mixKind_int (prog : Program) (w : World) (i : Int) (t : Tok) : (mixKind prog w).is (.inl i) (.int i t) = true := keyIs_int i t
theorem mixKind_str (prog : Program) (w : World) (x : Str) (t : Tok) : (mixKind prog w).is (.inr x) (.str x t) = true := keyIs_str x t
end L2
namespace L2
open PySem PySem.Spec PyProof.Rows
inductive V where
 | non | bl (b : Bool) | int (i : Int) | str (x : Str) | byt (b : Array UInt8) | flt (b : UInt64) | ref (a : Addr) | ty (n : String)
 deriving DecidableEq
def RelV : V → Value → Prop
 | .non, u => u = Value.none
 | .bl b, u => u = Value.bool b
 | .int i, u => ∃ t, u = Value.int i t
 | .str x, u => ∃ t, u = Value.str x t
 | .byt b, u => ∃ t, u = Value.bytes b t
 | .flt b, u => ∃ t, u = Value.float b t
 | .ref a, u => u = Value.ref a
 | .ty n, u => u = Value.type n
abbrev Vals : List V → List Value → Prop := Paired RelV
theorem Vals.length {xs : List V} {us : List Value} (r : Vals xs us) : xs.length = us.length := Paired.length r
theorem Vals.get : ∀ {xs : List V} {us : List Value} {i : Nat} {x : V}, Vals xs us → xs[i]? = some x → ∃ u, us[i]? = some u ∧ RelV x u
 | _, _, _, _, .nil, e => by simp at e
 | _, _, 0, _, .cons r _, e => by simp at e; subst e; exact ⟨_, rfl, r⟩
 | _, _, i + 1, x, .cons _ t, e => by
  obtain ⟨u, h1, h2⟩ := Vals.get (i := i) (x := x) t (by simpa using e)
  exact ⟨u, by simpa using h1, h2⟩
theorem Vals.set {x : V} {u : Value} (r : RelV x u) : ∀ {xs : List V} {us : List Value} (i : Nat), Vals xs us → Vals (xs.set i x) (us.set i u)
 | _, _, _, .nil => .nil
 | _, _, 0, .cons _ t => .cons r t
 | _, _, i + 1, .cons q t => .cons q (Vals.set r i t)
theorem Vals.append : ∀ {xs ys : List V} {us ws : List Value}, Vals xs us → Vals ys ws → Vals (xs ++ ys) (us ++ ws)
 | _, _, _, _, .nil, s => s
 | _, _, _, _, .cons r t, s => .cons r (Vals.append t s)
theorem Vals.take : ∀ {xs : List V} {us : List Value} (n : Nat), Vals xs us → Vals (xs.take n) (us.take n)
 | _, _, 0, _ => .nil
 | _, _, _ + 1, .nil => .nil
 | _, _, n + 1, .cons r t => .cons r (Vals.take n t)
theorem Vals.drop : ∀ {xs : List V} {us : List Value} (n : Nat), Vals xs us → Vals (xs.drop n) (us.drop n)
 | _, _, 0, r => r
 | _, _, _ + 1, .nil => .nil
 | _, _, n + 1, .cons _ t => Vals.drop n t
def RelO : Option V → Option Value → Prop
 | some v, some u => RelV v u
 | none, none => True
 | _, _ => False
def KV {κ : Type} : List (κ × V) → List (κ × Value) → Prop := Paired fun (p : κ × V) (q : κ × Value) => p.1 = q.1 ∧ RelV p.2 q.2
def kV : Key → V
 | .inl i => .int i
 | .inr x => .str x
inductive HO where
  | lst (xs : List V)
  | tup (xs : List V)
  | dK (kvs : List (Key × V)) | dT (kvs : List (List Key × V))
  | set (S : Int → Bool) (n : Nat)
  | ins (C dx : Addr) (fs : List (Str × V))
  | own (x : Addr)
  | xd (fs : List (Str × V))
  | met (f x : Addr)
  | rng (lo hi : Int)
  | frz (o : Obj) (u : HO)
  | tbl (ps : Array Value)
  | ext (φ : Heap → Prop)
abbrev Hp := Addr → Option HO
def upd (H : Hp) (a : Addr) (o : HO) : Hp := fun b => if b = a then some o else H b
theorem upd_same {H : Hp} {a : Addr} {o : HO} : upd H a o a = some o := by unfold upd; rw [if_pos rfl]
theorem upd_ne {H : Hp} {a b : Addr} {o : HO} (h : b ≠ a) : upd H a o b = H b := by unfold upd; rw [if_neg h]
theorem upd_upd {H : Hp} {a : Addr} {o u : HO} : upd (upd H a o) a u = upd H a u := by
 funext b; unfold upd; split <;> rfl
theorem ne_of {H : Hp} {a b : Addr} {o u : HO} (h : H a = some o) (h' : H b = some u) (d : o ≠ u) : a ≠ b := by
 intro e; subst e; rw [h] at h'; exact d (Option.some.inj h')
theorem ne_of_none {H : Hp} {a b : Addr} {o : HO} (h : H a = some o) (h' : H b = none) : a ≠ b := by
 intro e; subst e; rw [h] at h'; cases h'
section
variable (P : Program) (w : World)
def ObjOk (H : Hp) (h : Heap) (a : Addr) : HO → Prop
 | .lst xs => xs.length ≤ sizeLine ∧ ∃ (its : List Value) (n : Nat), Vals xs its ∧ h.get? a = some { cls := .type "list", data := .seq its.toArray n }
 | .tup xs => xs.length ≤ sizeLine ∧ ∃ its : List Value, Vals xs its ∧ IsTup h a its.toArray
 | .dK kvs => kvs.length ≤ sizeLine ∧ (a == sysModules) = false ∧ ∃ vs, KV kvs vs ∧ h.DictOf (mixKind P w) a vs
 | .dT kvs => kvs.length ≤ sizeLine ∧ (a == sysModules) = false ∧ ∃ xs : List (List Key × Addr × Value),
   Paired (fun (p : List Key × V) (q : List Key × Addr × Value) => p.1 = q.1 ∧ H q.2.1 = some (.tup (p.1.map kV)) ∧ RelV p.2 q.2.2) kvs xs ∧
   ∃ o es ep, h.get? a = some o ∧ o.ExactDict ∧ o.data = .dict es ep ∧ es.toList = xs.map (entryOfKey (tupleKind (mixKind P w))) ∧ (xs.map (·.1)).Nodup
 | .set S n => h.SetOf (intKind P w) a S n
 | .ins C dx fs => H dx = some (.own a) ∧ fs.length ≤ 1000 ∧ dx ≠ a ∧ h.get? a = some (PySem.W.instObj C dx) ∧
   ∃ mA, h.Ns1 dx mA ∧ (∀ f, RelO (fs.lookup f) (mA f)) ∧ PySem.Within mA (fs.map (·.1))
 | .own _ => ∃ o, h.get? a = some o
 | .xd fs => ∃ mA, h.Ns1 a mA ∧ ∀ f, RelO (fs.lookup f) (mA f)
 | .rng lo hi => ∃ t u v, h.get? a = some { cls := .type "range", data := .fields #[.int lo t, .int hi u, .int 1 v] }
 | .frz o u => h.get? a = some o ∧ ObjOk H h a u
 | .tbl ps => h.get? a = some { cls := .none, data := .fields ps }
 | .met f x => h.get? a = some (PySem.W.methodObj (.ref f) (.ref x))
 | .ext φ => φ h ∧ (∃ o, h.get? a = some o) ∧ ∀ h1 h2 : Heap, φ h1 → (∀ o, h1.get? a = some o → h2.get? a = some o) → φ h2
def HOk (H : Hp) (h : Heap) : Prop := ∀ a o, H a = some o → ObjOk P w H h a o
end
section
variable {P : Program} {w : World} {H H' : Hp} {h h' : Heap} {a : Addr} {o : HO}
theorem ObjOk.lt (x : ObjOk P w H h a o) : a < h.objs.size := by
 cases o with
 | lst xs => obtain ⟨_, _, _, _, e⟩ := x; exact Heap.lt_size e
 | tup xs => obtain ⟨_, _, _, p⟩ := x; exact p.lt
 | dK kvs => obtain ⟨_, _, _, _, o, _, _, e, _⟩ := x; exact Heap.lt_size e
 | dT kvs => obtain ⟨_, _, _, _, o, _, _, e, _⟩ := x; exact Heap.lt_size e
 | set S n => obtain ⟨o, _, _, _, e, _⟩ := x; exact Heap.lt_size e
 | ins C dx fs => obtain ⟨_, _, _, e, _⟩ := x; exact Heap.lt_size e
 | own y => obtain ⟨_, e⟩ := x; exact Heap.lt_size e
 | xd fs => obtain ⟨_, ⟨_, _, _, e, _⟩, _⟩ := x; exact Heap.lt_size e
 | rng lo hi => obtain ⟨_, _, _, e⟩ := x; exact Heap.lt_size e
 | frz ob u => obtain ⟨e, _⟩ := x; exact Heap.lt_size e
 | tbl ps => exact Heap.lt_size (show h.get? a = some _ from x)
 | met f y => exact Heap.lt_size (show h.get? a = some _ from x)
 | ext φ => obtain ⟨_, ⟨_, e⟩, _⟩ := x; exact Heap.lt_size e
theorem Paired.mapP {α β : Type} {F G : α → β → Prop} : ∀ {l₁ : List α} {l₂ : List β}, Paired F l₁ l₂ → (∀ a b, F a b → G a b) → Paired G l₁ l₂
 | _, _, .nil, _ => .nil
 | _, _, .cons r t, f => .cons (f _ _ r) (Paired.mapP t f)
theorem ObjOk.stay (x : ObjOk P w H h a o) (k : ∀ b u, (b = a ∨ H b = some (.own a)) → h.get? b = some u → h'.get? b = some u)
  (ho : ∀ b, H b = some (.own a) → H' b = some (.own a)) (ht : ∀ b xs, H b = some (.tup xs) → H' b = some (.tup xs)) : ObjOk P w H' h' a o := by
 induction o with
 | lst xs => obtain ⟨z, its, n, r, e⟩ := x; exact ⟨z, its, n, r, k _ _ (.inl rfl) e⟩
 | tup xs => obtain ⟨z, its, r, ob, e, c⟩ := x; exact ⟨z, its, r, ob, k _ _ (.inl rfl) e, c⟩
 | dK kvs => obtain ⟨z, y, vs, r, ob, es, ep, e, c⟩ := x; exact ⟨z, y, vs, r, ob, es, ep, k _ _ (.inl rfl) e, c⟩
 | dT kvs =>
  obtain ⟨z, y, xs, r, ob, es, ep, e, c⟩ := x
  exact ⟨z, y, xs, Paired.mapP r fun p q z => ⟨z.1, ht _ _ z.2.1, z.2.2⟩, ob, es, ep, k _ _ (.inl rfl) e, c⟩
 | set S n => obtain ⟨ob, es, ep, t, e, c⟩ := x; exact ⟨ob, es, ep, t, k _ _ (.inl rfl) e, c⟩
 | ins C dx fs =>
  obtain ⟨d, z, ne, e, mA, ⟨od, es, ep, e2, c⟩, r⟩ := x
  exact ⟨ho _ d, z, ne, k _ _ (.inl rfl) e, mA, ⟨od, es, ep, k _ _ (.inr d) e2, c⟩, r⟩
 | own y => obtain ⟨ob, e⟩ := x; exact ⟨ob, k _ _ (.inl rfl) e⟩
 | xd fs => obtain ⟨mA, ⟨od, es, ep, e, c⟩, r⟩ := x; exact ⟨mA, ⟨od, es, ep, k _ _ (.inl rfl) e, c⟩, r⟩
 | rng lo hi => obtain ⟨t, u, v, e⟩ := x; exact ⟨t, u, v, k _ _ (.inl rfl) e⟩
 | frz ob u ih => obtain ⟨e, q⟩ := x; exact ⟨k _ _ (.inl rfl) e, ih q⟩
 | tbl ps =>
  have e : h.get? a = some { cls := .none, data := .fields ps } := x
  show h'.get? a = some { cls := .none, data := .fields ps }
  exact k a _ (.inl rfl) e
 | met f y =>
  have e : h.get? a = some (PySem.W.methodObj (.ref f) (.ref y)) := x
  show h'.get? a = some (PySem.W.methodObj (.ref f) (.ref y))
  exact k a _ (.inl rfl) e
 | ext φ => obtain ⟨p, ⟨o, e⟩, st⟩ := x; exact ⟨st _ _ p fun o q => k _ _ (.inl rfl) q, ⟨o, k _ _ (.inl rfl) e⟩, st⟩
theorem HOk.lt (x : HOk P w H h) (e : H a = some o) : a < h.objs.size := (x a o e).lt
theorem HOk.fresh (x : HOk P w H h) (e : h.objs.size ≤ a) : H a = none := by
 cases q : H a with
 | none => rfl
 | some u => exact absurd (Nat.lt_of_lt_of_le (x.lt q) e) (Nat.lt_irrefl _)
theorem HOk.kept (x : HOk P w H h) (k : ∀ b u, h.get? b = some u → h'.get? b = some u) : HOk P w H h' := fun a o e =>
 (x a o e).stay (fun b u _ q => k b u q) (fun _ q => q) fun _ _ q => q
theorem HOk.laid (x : HOk P w H h) (k : ∀ b u, h.get? b = some u → h'.get? b = some u) (hp : h.objs.size ≤ a) (new : ObjOk P w (upd H a o) h' a o) : HOk P w (upd H a o) h' := fun b u e => by
 have hn := x.fresh hp
 by_cases hb : b = a
 ·subst hb; rw [upd_same] at e; cases e; exact new
 ·rw [upd_ne hb] at e
  exact (x b u e).stay (fun c v _ q => k c v q) (fun c q => by rw [upd_ne (ne_of_none q hn)]; exact q) fun c xs q => by rw [upd_ne (ne_of_none q hn)]; exact q
end
def Rd (H : Hp) (a : Addr) (u : HO) : Prop := H a = some u ∨ ∃ o, H a = some (.frz o u)
theorem Rd.ok {P : Program} {w : World} {H : Hp} {h : Heap} {a : Addr} {u : HO} (r : Rd H a u) (x : HOk P w H h) : ObjOk P w H h a u := by
 rcases r with r | ⟨o, r⟩
 ·exact x a u r
 ·obtain ⟨_, q⟩ := x a _ r
  exact q
def Mut : Option HO → Prop
 | some (.lst _) => True
 | some (.dK _) => True
 | some (.dT _) => True
 | some (.set _ _) => True
 | some (.ins _ _ _) => True
 | some (.ext _) => True
 | _ => False
section
variable {P : Program} {w : World} {H : Hp} {h h' : Heap} {x e : Addr} {o' : HO}
theorem HOk.write (ok : HOk P w H h) (mu : Mut (H x)) (he : e = x ∨ H e = some (.own x)) (k : ∀ b u, b ≠ e → h.get? b = some u → h'.get? b = some u) (heo : ∃ u, h'.get? e = some u)
  (new : ObjOk P w (upd H x o') h' x o') : HOk P w (upd H x o') h' := fun b u q => by
 have nown : ∀ c y, H c = some (.own y) → c ≠ x := fun c y r z => by subst z; rw [r] at mu; exact mu
 have ntup : ∀ c xs, H c = some (.tup xs) → c ≠ x := fun c xs r z => by subst z; rw [r] at mu; exact mu
 by_cases hb : b = x
 ·subst hb; rw [upd_same] at q; cases q; exact new
 ·rw [upd_ne hb] at q
  by_cases hbe : b = e
  ·have q' : H b = some (.own x) := by
    rcases he with z | z
    ·exact absurd (hbe.trans z) hb
    ·rw [hbe]; exact z
   rw [q] at q'; cases q'
   obtain ⟨v, hv⟩ := heo
   exact ⟨v, by rw [hbe]; exact hv⟩
  ·refine (ok b u q).stay (fun c v hc r => k c v ?_ r) (fun c r => by rw [upd_ne (nown c b r)]; exact r) fun c xs r => by rw [upd_ne (ntup c xs r)]; exact r
   rcases hc with rfl | hc
   ·exact hbe
   ·rintro rfl
    rcases he with z | z
    ·exact nown c b hc z
    ·rw [hc] at z; cases z; exact hb rfl
end
structure Un (fs ex : List Addr) (H H' : Hp) (h h' : Heap) : Prop where
 keep : ∀ b o, h.get? b = some o → H b = none → b ∉ fs → b ∉ ex → h'.get? b = some o
 slot : ∀ b o, h.get? b = some o → H b = none → b ∈ fs → b ∉ ex → ∃ sl, h'.get? b = some { o with slots := sl }
 free : ∀ b o, h.get? b = some o → H b = none → b ∉ ex → H' b = none
 there : ∀ b o, h.get? b = some o → b ∉ ex → ∃ o', h'.get? b = some o'
 tups : ∀ b xs, H b = some (.tup xs) → H' b = some (.tup xs)
 frzs : ∀ b o u, H b = some (.frz o u) → H' b = some (.frz o u)
 tbls : ∀ b ps, H b = some (.tbl ps) → ∃ more, H' b = some (.tbl (ps ++ more))
section
variable {fs fs' ex ex' : List Addr} {H H1 H2 : Hp} {h h1 h2 h' : Heap} {a x e : Addr} {o : HO}
theorem Un.any (u : Un fs ex H H1 h h1) {b : Addr} {ob : Obj} (q : h.get? b = some ob) (n : H b = none) (hx : b ∉ ex) : ∃ sl, h1.get? b = some { ob with slots := sl } := by
 by_cases hb : b ∈ fs
 ·exact u.slot b ob q n hb hx
 ·exact ⟨ob.slots, u.keep b ob q n hb hx⟩
theorem Un.trans (a : Un fs ex H H1 h h1) (b : Un fs ex H1 H2 h1 h2) : Un fs ex H H2 h h2 where
 keep := fun c ob q n hc hx => b.keep c ob (a.keep c ob q n hc hx) (a.free c ob q n hx) hc hx
 slot := fun c ob q n hc hx => by
  obtain ⟨sl, e1⟩ := a.slot c ob q n hc hx
  obtain ⟨sl', e2⟩ := b.slot c _ e1 (a.free c ob q n hx) hc hx
  exact ⟨sl', e2⟩
 free := fun c ob q n hx => by
  obtain ⟨o', e1⟩ := a.there c ob q hx
  exact b.free c o' e1 (a.free c ob q n hx) hx
 there := fun c ob q hx => by
  obtain ⟨o', e1⟩ := a.there c ob q hx
  exact b.there c o' e1 hx
 tups := fun c xs q => b.tups c xs (a.tups c xs q)
 frzs := fun c ob xs q => b.frzs c ob xs (a.frzs c ob xs q)
 tbls := fun c ps q => by
  obtain ⟨m1, e1⟩ := a.tbls c ps q
  obtain ⟨m2, e2⟩ := b.tbls c _ e1
  exact ⟨m1 ++ m2, by rw [e2, Array.append_assoc]⟩
theorem Un.kept (k : ∀ b u, h.get? b = some u → h'.get? b = some u) : Un fs ex H H h h' :=
 ⟨fun b ob q _ _ _ => k b ob q, fun b ob q _ _ _ => ⟨ob.slots, k b ob q⟩, fun _ _ _ n _ => n, fun b ob q _ => ⟨ob, k b ob q⟩, fun _ _ q => q, fun _ _ _ q => q, fun _ ps q => ⟨#[], by rw [q]; simp⟩⟩
theorem Un.refl : Un fs ex H H h h := Un.kept fun _ _ q => q
theorem Un.laid (k : ∀ b u, h.get? b = some u → h'.get? b = some u) (hp : h.objs.size ≤ a) (hn : H a = none) : Un fs ex H (upd H a o) h h' where
 keep := fun b u q _ _ _ => k b u q
 slot := fun b u q _ _ _ => ⟨u.slots, k b u q⟩
 free := fun b u q n _ => by rw [upd_ne (Nat.ne_of_lt (Nat.lt_of_lt_of_le (Heap.lt_size q) hp))]; exact n
 there := fun b u q _ => ⟨u, k b u q⟩
 tups := fun b xs q => by rw [upd_ne (ne_of_none q hn)]; exact q
 frzs := fun b u xs q => by rw [upd_ne (ne_of_none q hn)]; exact q
 tbls := fun b ps q => ⟨#[], by rw [upd_ne (ne_of_none q hn), q]; simp⟩
theorem Un.write (mu : Mut (H x)) (he : e = x ∨ H e = some (.own x)) (k : ∀ b u, b ≠ e → h.get? b = some u → h'.get? b = some u) (heo : ∃ u, h'.get? e = some u) : Un fs ex H (upd H x o) h h' := by
 have hx : ∀ b, H b = none → b ≠ x := fun b n z => by subst z; rw [n] at mu; exact mu
 have hb : ∀ b, H b = none → b ≠ e := fun b n z => by
  subst z
  rcases he with r | r
  ·exact hx b n r
  ·rw [n] at r; cases r
 have hm : ∀ b u, H b = some u → ¬ Mut (some u) → b ≠ x := fun b u q nm z => by subst z; rw [q] at mu; exact nm mu
 refine ⟨fun b u q n _ _ => k b u (hb b n) q, fun b u q n _ _ => ⟨u.slots, k b u (hb b n) q⟩, fun b u q n _ => by rw [upd_ne (hx b n)]; exact n, fun b u q _ => ?_,
  fun b xs q => by rw [upd_ne (hm b _ q fun z => z)]; exact q, fun b u xs q => by rw [upd_ne (hm b _ q fun z => z)]; exact q, fun b ps q => ⟨#[], by rw [upd_ne (hm b _ q fun z => z), q]; simp⟩⟩
 by_cases hbe : b = e
 ·subst hbe; exact heo
 ·exact ⟨u, k b u hbe q⟩
end
def trk (h : Heap) (H : Hp) : List Addr := (List.range h.objs.size).filter fun a => (H a).isSome
def hidT (h : Heap) (H : Hp) : Heap := PySem.W.hideAll h (trk h H)
theorem hidT_size (h : Heap) (H : Hp) : (hidT h H).objs.size = h.objs.size := PySem.W.hideAll_size _ _
theorem hidT_get {h : Heap} {H : Hp} {b : Addr} {o : Obj} (e : h.get? b = some o) (n : H b = none) : (hidT h H).get? b = some o :=
 PySem.W.hideAll_get _ e fun hm => by
  have q : (H b).isSome = true := (List.mem_filter.mp hm).2
  rw [n] at q; simp at q
theorem of_hidT {h : Heap} {H : Hp} {b : Addr} {o : Obj} (e : (hidT h H).get? b = some o) : h.get? b = some o ∧ H b = none := by
 have e' : h.get? b = some o := PySem.W.of_hideAll (trk h H) e
 refine ⟨e', ?_⟩
 cases q : H b with
 | none => rfl
 | some x =>
  have hm : b ∈ trk h H := List.mem_filter.mpr ⟨List.mem_range.mpr (Heap.lt_size e'), by simp [q]⟩
  have z : (hidT h H).get? b = none := PySem.W.hideAll_none (trk h H) hm
  rw [z] at e; cases e
end L2
namespace L2
open PySem PySem.Spec PyProof.Rows
structure Mod (K : PySem.W.Frag) (mg : Str → Option Value) (base : Heap) : Prop where
 kin : K.In base
 glob : base.Ns mainGlobals mg
 blt : ∃ mb, base.Ns builtinsNs mb ∧ ∀ x : Str, x ≠ "__name__" → mb x = bootBuiltins x
 nolimit : base.NoLimit
structure Cx where
 prog : Program
 w : World
 K : PySem.W.Frag
 mg : Str → Option Value
 base : Heap
 A : Around
 N : List Str
 s₀ : Shared
 H₀ : Hp
 env : Env
 outer : List Env
 stack : List Env
 ex : List Addr
 fn : Str → Bool
 calm : Bool
 pn : List (Addr × Obj)
 xe : Value → Shared → Prop
def frs (l : List Env) : List Addr := l.filterMap (·.frame)
abbrev Cx.fs (X : Cx) : List Addr := frs X.outer
def Vis (sc : Scope) (x : Str) : Prop := sc.names.lookup x = some .local ∨ sc.names.lookup x = some .cell ∨ sc.names.lookup x = some .free
def Loc (sc : Scope) (x : Str) : Prop := sc.names.lookup x = some .local ∨ sc.names.lookup x = some .cell
def Look (env : Env) (h : Heap) (m : Str → Option Value) (x : Str) (u : Value) : Prop :=
 (env.kindOf x = some .local ∧ m x = some u) ∨ ((env.kindOf x = some .cell ∨ env.kindOf x = some .free) ∧ ∃ c, env.cells.lookup x = some c ∧ h.IsCell c (some u))
structure Cx.Ok (X : Cx) : Prop where
 mod : Mod X.K X.mg X.base
 kind : X.env.scope.kind = .function
 glob : X.env.globals = mainGlobals
 blt : X.env.builtins = builtinsNs
 above : X.s₀.heap.objs.size ≤ X.env.locals
 inj : ∀ x y c, X.env.cells.lookup x = some c → X.env.cells.lookup y = some c → x = y
 has : ∀ x, (X.env.kindOf x = some .cell ∨ X.env.kindOf x = some .free) → ∃ c, X.env.cells.lookup x = some c
 cab : ∀ x c, X.fn x = true → X.env.cells.lookup x = some c → X.s₀.heap.objs.size ≤ c
 hd : X.calm = true → X.A.handled = none
 frames : X.A.frames = some X.stack
 stk : X.stack = X.outer ∨ (X.stack = X.env :: X.outer ∧ X.env.frame = some X.env.locals)
 exf : ∀ b ∈ X.ex, b ≠ X.env.locals ∧ ∀ x c, X.env.cells.lookup x = some c → c ≠ b
 bs : ∀ b o, X.base.get? b = some o → X.s₀.heap.get? b = some o ∧ X.H₀ b = none
 bsz : X.base.objs.size ≤ X.s₀.heap.objs.size
 noex : ∀ b o, X.base.get? b = some o → b ∉ X.ex
 exfs : ∀ b ∈ X.ex, b ∉ X.fs
 funs : X.s₀.heap.FunFrames X.base X.outer
 frf : ∀ b ∈ X.fs, X.H₀ b = none
structure Inv (X : Cx) (pins : List (Addr × Obj)) (σ : List (Option V)) (H : Hp) (s : Shared) : Prop where
 ok : X.Ok
 os : s.os = X.s₀.os
 bare : AllBare s.gens
 base : Un X.fs X.ex X.H₀ H X.s₀.heap s.heap
 loc : ∃ m, s.heap.Ns X.env.locals m ∧ ∀ (i : Nat) (x : Str) (v : V), X.N[i]? = some x → σ[i]? = some (some v) → Vis X.env.scope x → ∃ u, RelV v u ∧ Look X.env s.heap m x u
 cell : ∀ x c, X.env.cells.lookup x = some c → ∃ v, s.heap.IsCell c v
 free : H X.env.locals = none
 freeC : ∀ x c, X.env.cells.lookup x = some c → H c = none
 pin : ∀ p ∈ X.pn ++ pins, s.heap.get? p.1 = some p.2 ∧ H p.1 = none ∧ p.1 ≠ X.env.locals ∧ p.1 ∉ X.fs ∧ ∀ v, p.2.data ≠ .cell v
 hok : HOk X.prog X.w H s.heap
 len : σ.length = X.N.length
section
variable {X : Cx} {pins : List (Addr × Obj)} {σ : List (Option V)} {H H' : Hp} {s : Shared} {h' : Heap}
theorem Cx.Ok.nofr (ok : X.Ok) {b : Addr} {o : Obj} (e : X.base.get? b = some o) : b ∉ X.fs := fun hb => by
 have := (ok.funs.mem hb).1
 rw [e] at this; cases this
theorem Inv.bs (I : Inv X pins σ H s) : ∀ b o, X.base.get? b = some o → s.heap.get? b = some o ∧ H b = none := fun b o e =>
 ⟨I.base.keep b o (I.ok.bs b o e).1 (I.ok.bs b o e).2 (I.ok.nofr e) (I.ok.noex b o e), I.base.free b o (I.ok.bs b o e).1 (I.ok.bs b o e).2 (I.ok.noex b o e)⟩
theorem Inv.bk (I : Inv X pins σ H s) : ∀ b o, X.base.get? b = some o → s.heap.get? b = some o := fun b o e => (I.bs b o e).1
theorem Inv.mod (I : Inv X pins σ H s) : Mod X.K X.mg X.base := I.ok.mod
theorem Inv.kIn (I : Inv X pins σ H s) : X.K.In s.heap := I.ok.mod.kin.keeps I.bk
theorem Inv.lt (I : Inv X pins σ H s) : X.env.locals < s.heap.objs.size := let ⟨_, hn, _⟩ := I.loc; hn.lt
theorem Inv.sz (I : Inv X pins σ H s) : X.s₀.heap.objs.size ≤ s.heap.objs.size := Nat.le_trans I.ok.above (Nat.le_of_lt I.lt)
theorem Inv.nofs (I : Inv X pins σ H s) {a : Addr} (h : s.heap.objs.size ≤ a) : a ∉ X.fs := fun hb => by
 obtain ⟨_, o, ho, _⟩ := I.ok.funs.mem hb
 exact absurd (Nat.lt_of_lt_of_le (Heap.lt_size ho) (Nat.le_trans I.sz h)) (Nat.lt_irrefl _)
theorem Inv.cne (I : Inv X pins σ H s) : ∀ x c, X.env.cells.lookup x = some c → c ≠ X.env.locals := fun x c e z => by
 obtain ⟨v, o, ho, hd⟩ := I.cell x c e
 obtain ⟨m, ⟨o', es, ep, ho', hd', _⟩, _⟩ := I.loc
 rw [z, ho'] at ho; cases ho; rw [hd'] at hd; cases hd
theorem Inv.funs (I : Inv X pins σ H s) : s.heap.FunFrames X.base X.outer := by
 have all : ∀ (l : List Env), (∀ b ∈ frs l, b ∈ X.fs) → X.s₀.heap.FunFrames X.base l → s.heap.FunFrames X.base l := by
  intro l
  induction l with
  | nil => intro _ _; trivial
  | cons env r ih =>
   intro hs hl
   obtain ⟨hk, ⟨L, o, hf, hn, ho, hd⟩, hr⟩ := hl
   have hL : L ∈ X.fs := hs L (by unfold frs; rw [List.filterMap_cons, hf]; exact List.mem_cons_self)
   obtain ⟨sl, e⟩ := I.base.slot L o ho (I.ok.frf L hL) hL fun z => I.ok.exfs L z hL
   exact ⟨hk, ⟨L, _, hf, hn, e, hd⟩, ih (fun b hb => hs b (by unfold frs; rw [List.filterMap_cons, hf]; exact List.mem_cons_of_mem _ hb)) hr⟩
 exact all X.outer (fun _ hb => hb) I.ok.funs
theorem Inv.stack (I : Inv X pins σ H s) : s.heap.FunFrames X.base X.stack := by
 rcases I.ok.stk with e | ⟨e, hf⟩
 ·rw [e]; exact I.funs
 ·rw [e]
  obtain ⟨m, hn, _⟩ := I.loc
  refine .cons (by rw [I.ok.kind]; decide) hf hn ?_ I.funs
  exact Heap.get?_none_of_le (Nat.le_trans I.ok.bsz I.ok.above)
theorem Inv.stkSub (I : Inv X pins σ H s) : ∀ b ∈ frs X.stack, b ∈ X.env.locals :: X.fs := fun b hb => by
 rcases I.ok.stk with e | ⟨e, hf⟩
 ·rw [e] at hb; exact List.mem_cons_of_mem _ hb
 ·rw [e] at hb
  unfold frs at hb
  rw [List.filterMap_cons, hf] at hb
  exact hb
theorem Inv.stkFree (I : Inv X pins σ H s) : ∀ b ∈ frs X.stack, H b = none := fun b hb => by
 rcases List.mem_cons.mp (I.stkSub b hb) with e | hb
 ·rw [e]; exact I.free
 ·obtain ⟨_, o, ho, _⟩ := I.ok.funs.mem hb
  exact I.base.free b o ho (I.ok.frf b hb) fun z => I.ok.exfs b z hb
theorem Inv.step {g' : Array GenState} {t' : Nat} {d' : Drawn} {ch : List Addr} (I : Inv X pins σ H s)
  (hch : ∀ b ∈ ch, (b ∈ X.ex ∨ X.s₀.heap.objs.size ≤ b) ∧ b ≠ X.env.locals ∧ (∀ x c, X.env.cells.lookup x = some c → c ≠ b) ∧ ∀ p ∈ X.pn ++ pins, p.1 ≠ b)
  (keep : ∀ b o, b ≠ X.env.locals → b ∉ X.fs → b ∉ ch → s.heap.get? b = some o → H b = none → h'.get? b = some o)
  (slot : ∀ b o, b ≠ X.env.locals → b ∈ X.fs → b ∉ ch → s.heap.get? b = some o → H b = none → ∃ sl, h'.get? b = some { o with slots := sl }) (free : ∀ b o, b ∉ ch → s.heap.get? b = some o → H b = none → H' b = none)
  (there : ∀ b o, b ∉ ch → s.heap.get? b = some o → ∃ o', h'.get? b = some o')
  (tups : ∀ b xs, H b = some (.tup xs) → H' b = some (.tup xs)) (frzs : ∀ b o u, H b = some (.frz o u) → H' b = some (.frz o u)) (tbls : ∀ b ps, H b = some (.tbl ps) → ∃ more, H' b = some (.tbl (ps ++ more)))
  (ns : ∀ m, s.heap.Ns X.env.locals m → h'.Ns X.env.locals m) (hok : HOk X.prog X.w H' h') (hg : AllBare g') :
  Inv X pins σ H' { s with heap := h', gens := g', drawn := d', toks := t' } := by
 have neL : ∀ b o, X.s₀.heap.get? b = some o → b ≠ X.env.locals := fun b o e => Nat.ne_of_lt (Nat.lt_of_lt_of_le (Heap.lt_size e) I.ok.above)
 have neC : ∀ b o, X.s₀.heap.get? b = some o → b ∉ X.ex → b ∉ ch := fun b o e hx hb => by
  rcases (hch b hb).1 with z | z
  ·exact hx z
  ·exact absurd (Nat.lt_of_lt_of_le (Heap.lt_size e) z) (Nat.lt_irrefl _)
 have cellK : ∀ x c, X.env.cells.lookup x = some c → ∀ v, s.heap.IsCell c v → h'.IsCell c v := fun x c e v ⟨o, ho, hd⟩ => by
  have nch : c ∉ ch := fun z => (hch c z).2.2.1 x c e rfl
  by_cases hc : c ∈ X.fs
  ·obtain ⟨sl, q⟩ := slot c o (I.cne x c e) hc nch ho (I.freeC x c e)
   exact ⟨_, q, hd⟩
  ·exact ⟨o, keep c o (I.cne x c e) hc nch ho (I.freeC x c e), hd⟩
 refine ⟨I.ok, I.os, hg, ⟨fun b o e n hb hx => ?_, fun b o e n hb hx => ?_, fun b o e n hx => ?_, fun b o e hx => ?_, fun b xs e => tups b xs (I.base.tups b xs e), fun b o xs e => frzs b o xs (I.base.frzs b o xs e), fun b ps e => ?_⟩, ?_, fun x c e => ?_, ?_, fun x c e => ?_, fun p hp => ?_, hok, I.len⟩
 ·exact keep b o (neL b o e) hb (neC b o e hx) (I.base.keep b o e n hb hx) (I.base.free b o e n hx)
 ·obtain ⟨sl, e1⟩ := I.base.slot b o e n hb hx
  obtain ⟨sl', e2⟩ := slot b _ (neL b o e) hb (neC b o e hx) e1 (I.base.free b o e n hx)
  exact ⟨sl', e2⟩
 ·obtain ⟨o', e1⟩ := I.base.there b o e hx
  exact free b o' (neC b o e hx) e1 (I.base.free b o e n hx)
 ·obtain ⟨o', e1⟩ := I.base.there b o e hx
  exact there b o' (neC b o e hx) e1
 ·obtain ⟨m1, e1⟩ := I.base.tbls b ps e
  obtain ⟨m2, e2⟩ := tbls b _ e1
  exact ⟨m1 ++ m2, by rw [e2, Array.append_assoc]⟩
 ·obtain ⟨m, hn, hl⟩ := I.loc
  refine ⟨m, ns m hn, fun i x v e1 e2 e3 => ?_⟩
  obtain ⟨u, r, l⟩ := hl i x v e1 e2 e3
  refine ⟨u, r, ?_⟩
  rcases l with l | ⟨k, c, e, z⟩
  ·exact .inl l
  ·exact .inr ⟨k, c, e, cellK x c e _ z⟩
 ·obtain ⟨v, z⟩ := I.cell x c e
  exact ⟨v, cellK x c e v z⟩
 ·obtain ⟨m, ⟨o, _, _, ho, _⟩, _⟩ := I.loc
  exact free _ o (fun z => (hch _ z).2.1 rfl) ho I.free
 ·obtain ⟨v, o, ho, hd⟩ := I.cell x c e
  exact free c o (fun z => (hch c z).2.2.1 x c e rfl) ho (I.freeC x c e)
 ·obtain ⟨e, n, ne, nf, d⟩ := I.pin p hp
  have nch : p.1 ∉ ch := fun z => (hch p.1 z).2.2.2 p hp rfl
  exact ⟨keep p.1 p.2 ne nf nch e n, free p.1 p.2 nch e n, ne, nf, d⟩
theorem Inv.un {t' : Nat} (I : Inv X pins σ H s) (u : Un X.fs [] H H' s.heap h') (hok : HOk X.prog X.w H' h') : Inv X pins σ H' { s with heap := h', toks := t' } := by
 obtain ⟨m, ⟨o, es, ep, ho, r⟩, _⟩ := id I.loc
 obtain ⟨sl, hL⟩ := u.any ho I.free (by simp)
 exact I.step (g' := s.gens) (d' := s.drawn) (ch := []) (fun _ z => nomatch z) (fun b o _ hb _ e n => u.keep b o e n hb (by simp)) (fun b o _ hb _ e n => u.slot b o e n hb (by simp)) (fun b o _ e n => u.free b o e n (by simp)) (fun b o _ e => u.there b o e (by simp)) u.tups u.frzs u.tbls (fun m' hm => by
  obtain ⟨o', es', ep', ho', r'⟩ := hm
  rw [ho] at ho'; cases ho'
  exact ⟨_, es', ep', hL, r'⟩) hok I.bare
theorem Inv.call {g' : Array GenState} {t' : Nat} {d' : Drawn} {ch : List Addr} (I : Inv X pins σ H s) (u : Un (frs X.stack) ch H H' s.heap h') (hok : HOk X.prog X.w H' h') (hg : AllBare g')
  (hch : ∀ b ∈ ch, (b ∈ X.ex ∨ X.s₀.heap.objs.size ≤ b) ∧ b ≠ X.env.locals ∧ (∀ x c, X.env.cells.lookup x = some c → c ≠ b) ∧ ∀ p ∈ X.pn ++ pins, p.1 ≠ b) :
  Inv X pins σ H' { s with heap := h', gens := g', drawn := d', toks := t' } := by
 obtain ⟨m, ⟨o, es, ep, ho, r⟩, _⟩ := id I.loc
 obtain ⟨sl, hL⟩ := u.any ho I.free fun z => (hch _ z).2.1 rfl
 exact I.step (ch := ch) hch (fun b o hL hb hc e n => u.keep b o e n (fun z => (List.mem_cons.mp (I.stkSub b z)).elim hL hb) hc) (fun b o _ _ hc e n => u.any e n hc) (fun b o hc e n => u.free b o e n hc) (fun b o hc e => u.there b o e hc) u.tups u.frzs u.tbls (fun m' hm => by
  obtain ⟨o', es', ep', ho', r'⟩ := hm
  rw [ho] at ho'; cases ho'
  exact ⟨_, es', ep', hL, r'⟩) hok hg
theorem Inv.turned {t' : Nat} {it : Addr} (I : Inv X pins σ H s) (k : ∀ b o, b ≠ it → s.heap.get? b = some o → h'.get? b = some o) (hn : H it = none) (hL : it ≠ X.env.locals)
  (h1 : it ∈ X.ex ∨ X.s₀.heap.objs.size ≤ it) (h2 : ∀ x c, X.env.cells.lookup x = some c → c ≠ it) (h3 : ∀ p ∈ X.pn ++ pins, p.1 ≠ it) : Inv X pins σ H { s with heap := h', toks := t' } := by
 have nit : ∀ b u, H b = some u → b ≠ it := fun b u e z => by rw [z, hn] at e; cases e
 refine I.step (g' := s.gens) (d' := s.drawn) (ch := [it]) (fun b hb => ?_) (fun b o _ _ hc e _ => k b o (fun z => hc (by simp [z])) e) (fun b o _ _ hc e _ => ⟨o.slots, k b o (fun z => hc (by simp [z])) e⟩) (fun _ _ _ _ n => n)
  (fun b o hc e => ⟨o, k b o (fun z => hc (by simp [z])) e⟩) (fun _ _ e => e) (fun _ _ _ e => e) (fun b ps e => ⟨#[], by rw [e]; simp⟩) (fun m hm => ?_) (fun b u e => ?_) I.bare
 ·have e : b = it := by simpa using hb
  subst e
  exact ⟨h1, hL, h2, h3⟩
 ·obtain ⟨o, es, ep, ho, r⟩ := hm
  exact ⟨o, es, ep, k _ o (Ne.symm hL) ho, r⟩
 ·refine (I.hok b u e).stay (fun c v hc q => k c v ?_ q) (fun _ q => q) fun _ _ q => q
  rcases hc with z | z
  ·rw [z]; exact nit b u e
  ·exact nit c _ z
theorem Inv.tok (I : Inv X pins σ H s) (t : Nat) : Inv X pins σ H { s with toks := t } := I.un (h' := s.heap) (t' := t) Un.refl I.hok
theorem Inv.kept {t' : Nat} (I : Inv X pins σ H s) (k : ∀ b u, s.heap.get? b = some u → h'.get? b = some u) : Inv X pins σ H { s with heap := h', toks := t' } := I.un (Un.kept k) (I.hok.kept k)
theorem Inv.laid {a : Addr} {o : HO} {t' : Nat} (I : Inv X pins σ H s) (k : ∀ b u, s.heap.get? b = some u → h'.get? b = some u) (hp : s.heap.objs.size ≤ a) (new : ObjOk X.prog X.w (upd H a o) h' a o) :
  Inv X pins σ (upd H a o) { s with heap := h', toks := t' } := I.un (Un.laid k hp (I.hok.fresh hp)) (I.hok.laid k hp new)
theorem Inv.write {x e : Addr} {o : HO} {t' : Nat} (I : Inv X pins σ H s) (mu : Mut (H x)) (he : e = x ∨ H e = some (.own x)) (k : ∀ b u, b ≠ e → s.heap.get? b = some u → h'.get? b = some u) (heo : ∃ u, h'.get? e = some u)
  (new : ObjOk X.prog X.w (upd H x o) h' x o) : Inv X pins σ (upd H x o) { s with heap := h', toks := t' } := I.un (Un.write mu he k heo) (I.hok.write mu he k heo new)
theorem Inv.pins_of {pins' : List (Addr × Obj)} (I : Inv X pins σ H s) (h : ∀ p ∈ pins', s.heap.get? p.1 = some p.2 ∧ H p.1 = none ∧ p.1 ≠ X.env.locals ∧ p.1 ∉ X.fs ∧ ∀ v, p.2.data ≠ .cell v) : Inv X pins' σ H s :=
 ⟨I.ok, I.os, I.bare, I.base, I.loc, I.cell, I.free, I.freeC, fun p hp => (List.mem_append.mp hp).elim (fun z => I.pin p (List.mem_append_left _ z)) (h p), I.hok, I.len⟩
theorem nodup_ix {N : List Str} (hN : N.Nodup) {i j : Nat} {x : Str} (a : N[i]? = some x) (b : N[j]? = some x) : i = j := by
 obtain ⟨h1, e1⟩ := List.getElem?_eq_some_iff.mp a
 obtain ⟨h2, e2⟩ := List.getElem?_eq_some_iff.mp b
 exact (List.getElem_inj hN).mp (e1.trans e2.symm)
theorem store_ok2 {M : Model} {A : Around} {E : Value → Shared → Prop} {i : Nat} {x : Str} {v : V} {u : Value} {Q : Unit → Shared → Prop} (I : Inv X pins σ H s) (hN : X.N.Nodup) (hi : X.N[i]? = some x) (hx : Loc X.env.scope x) (r : RelV v u)
  (h : ∀ s', Inv X pins (σ.set i (some v)) H s' → (∃ a, Heap.SameBut a s.heap s'.heap ∧ (a = X.env.locals ∨ X.env.cells.lookup x = some a)) → Q () s') (hf : X.fn x = true ∨ X.env.scope.names.lookup x = some .local := by first | exact .inl rfl | exact .inr rfl | assumption) : wpAny M A (storeName X.env x u) Q E s := by
 obtain ⟨m, hn, hl⟩ := id I.loc
 have hcls : (X.env.scope.kind == .class || (X.env.scope.kind == .module && X.env.locals != X.env.globals)) = false := by rw [I.ok.kind]; rfl
 have hiσ : i < σ.length := by rw [I.len]; exact (List.getElem?_eq_some_iff.mp hi).1
 have cne := I.cne
 have tracked : ∀ {a : Addr} {h' : Heap}, (∃ o, s.heap.get? a = some o ∧ H a = none) → Heap.SameBut a s.heap h' → HOk X.prog X.w H h' := fun {a h'} ha hs b ob e => by
  obtain ⟨_, _, hfree⟩ := ha
  refine (I.hok b ob e).stay (fun c w' hc q => (hs.2 c ?_).trans q) (fun _ q => q) fun _ _ q => q
  rintro rfl
  rcases hc with rfl | hc
  ·rw [hfree] at e; cases e
  ·rw [hfree] at hc; cases hc
 rcases hx with hk | hk
 ·refine wpAny_storeName_local hk hn (fun h' hn' hs => ?_) hcls
  obtain ⟨oL, _, _, hoL, _⟩ := id hn
  refine h _ ⟨I.ok, I.os, I.bare, ⟨fun b o e n hb hx => ?_, fun b o e n hb hx => ?_, I.base.free, fun b o e hx => ?_, I.base.tups, I.base.frzs, I.base.tbls⟩, ⟨_, hn', fun j y v' e1 e2 e3 => ?_⟩, fun y c e => ?_, I.free, I.freeC, fun p hp => ?_, tracked ⟨oL, hoL, I.free⟩ hs, by simpa using I.len⟩ ⟨_, hs, .inl rfl⟩
  ·exact (hs.2 b (Nat.ne_of_lt (Nat.lt_of_lt_of_le (Heap.lt_size e) I.ok.above))).trans (I.base.keep b o e n hb hx)
  ·obtain ⟨sl, e1⟩ := I.base.slot b o e n hb hx
   exact ⟨sl, (hs.2 b (Nat.ne_of_lt (Nat.lt_of_lt_of_le (Heap.lt_size e) I.ok.above))).trans e1⟩
  ·obtain ⟨o', e1⟩ := I.base.there b o e hx
   exact ⟨o', (hs.2 b (Nat.ne_of_lt (Nat.lt_of_lt_of_le (Heap.lt_size e) I.ok.above))).trans e1⟩
  ·by_cases hj : j = i
   ·subst hj
    rw [hi] at e1; cases e1
    rw [List.getElem?_set_self hiσ] at e2
    cases e2
    exact ⟨u, r, .inl ⟨hk, by simp⟩⟩
   ·rw [List.getElem?_set_ne (Ne.symm hj)] at e2
    obtain ⟨u', r', q⟩ := hl j y v' e1 e2 e3
    refine ⟨u', r', ?_⟩
    rcases q with ⟨k, e⟩ | ⟨k, c, e, z⟩
    ·refine .inl ⟨k, ?_⟩
     have : y ≠ x := fun e => hj (nodup_ix hN e1 (e ▸ hi))
     simp [this, e]
    ·exact .inr ⟨k, c, e, z.sameBut hs (cne y c e)⟩
  ·obtain ⟨w', z⟩ := I.cell y c e
   exact ⟨w', z.sameBut hs (cne y c e)⟩
  ·obtain ⟨e, n, ne, nf, d⟩ := I.pin p hp
   exact ⟨(hs.2 p.1 ne).trans e, n, ne, nf, d⟩
 ·have hfn : X.fn x = true := by
   rcases hf with z | z
   ·exact z
   ·rw [z] at hk; cases hk
  obtain ⟨c, hc⟩ := I.ok.has x (.inl hk)
  obtain ⟨w', z⟩ := I.cell x c hc
  refine wpAny_storeName_cell I.ok.kind hk hc z (fun h' hc' hs => ?_)
  obtain ⟨oc, hoc, hocd⟩ := id z
  refine h { s with heap := h' } ⟨I.ok, I.os, I.bare, ⟨fun b o e n hb hx => ?_, fun b o e n hb hx => ?_, I.base.free, fun b o e hx => ?_, I.base.tups, I.base.frzs, I.base.tbls⟩, ⟨m, hn.sameBut hs (Ne.symm (cne x c hc)), fun j y v' e1 e2 e3 => ?_⟩, fun y c' e => ?_, I.free, I.freeC, fun p hp => ?_, tracked ⟨oc, hoc, I.freeC x c hc⟩ hs, by simpa using I.len⟩ ⟨c, hs, .inr hc⟩
  ·exact (hs.2 b (Nat.ne_of_lt (Nat.lt_of_lt_of_le (Heap.lt_size e) (I.ok.cab x c hfn hc)))).trans (I.base.keep b o e n hb hx)
  ·obtain ⟨sl, e1⟩ := I.base.slot b o e n hb hx
   exact ⟨sl, (hs.2 b (Nat.ne_of_lt (Nat.lt_of_lt_of_le (Heap.lt_size e) (I.ok.cab x c hfn hc)))).trans e1⟩
  ·obtain ⟨o', e1⟩ := I.base.there b o e hx
   exact ⟨o', (hs.2 b (Nat.ne_of_lt (Nat.lt_of_lt_of_le (Heap.lt_size e) (I.ok.cab x c hfn hc)))).trans e1⟩
  ·by_cases hj : j = i
   ·subst hj
    rw [hi] at e1; cases e1
    rw [List.getElem?_set_self hiσ] at e2
    cases e2
    exact ⟨u, r, .inr ⟨.inl hk, c, hc, hc'⟩⟩
   ·rw [List.getElem?_set_ne (Ne.symm hj)] at e2
    obtain ⟨u', r', q⟩ := hl j y v' e1 e2 e3
    refine ⟨u', r', ?_⟩
    rcases q with q | ⟨k, c', e, z'⟩
    ·exact .inl q
    ·refine .inr ⟨k, c', e, z'.sameBut hs ?_⟩
     rintro rfl
     exact hj (nodup_ix hN e1 (I.ok.inj _ _ _ e hc ▸ hi))
  ·by_cases hcc : c' = c
   ·subst hcc; exact ⟨_, hc'⟩
   ·obtain ⟨w2, z2⟩ := I.cell y c' e
    exact ⟨w2, z2.sameBut hs hcc⟩
  ·obtain ⟨e, n, ne, nf, d⟩ := I.pin p hp
   refine ⟨(hs.2 p.1 ?_).trans e, n, ne, nf, d⟩
   intro q
   rw [q, hoc] at e
   have q' : oc = p.2 := Option.some.inj e
   exact d w' (by rw [← q']; exact hocd)
theorem store_ok {M : Model} {A : Around} {E : Value → Shared → Prop} {i : Nat} {x : Str} {v : V} {u : Value} {Q : Unit → Shared → Prop} (I : Inv X pins σ H s) (hN : X.N.Nodup) (hi : X.N[i]? = some x) (hx : Loc X.env.scope x) (r : RelV v u)
  (h : ∀ s', Inv X pins (σ.set i (some v)) H s' → Q () s') (hf : X.fn x = true ∨ X.env.scope.names.lookup x = some .local := by first | exact .inl rfl | exact .inr rfl | assumption) : wpAny M A (storeName X.env x u) Q E s :=
 store_ok2 I hN hi hx r (fun s' I' _ => h s' I') hf
theorem Inv.call' {s' : Shared} {ch : List Addr} (I : Inv X pins σ H s) (ho : s'.os = s.os) (u : Un (frs X.stack) ch H H' s.heap s'.heap) (hok : HOk X.prog X.w H' s'.heap) (hg : AllBare s'.gens)
  (hch : ∀ b ∈ ch, (b ∈ X.ex ∨ X.s₀.heap.objs.size ≤ b) ∧ b ≠ X.env.locals ∧ (∀ x c, X.env.cells.lookup x = some c → c ≠ b) ∧ ∀ p ∈ X.pn ++ pins, p.1 ≠ b) : Inv X pins σ H' s' := by
 obtain ⟨h', g', d', t', o'⟩ := s'
 have e : o' = s.os := ho
 subst e
 exact I.call (g' := g') (t' := t') (d' := d') u hok hg hch
end
abbrev XK := Value → Option Addr → Hp → Prop
abbrev St := List (Option V)
abbrev VK := V → Hp → Prop
abbrev TE := St → Hp → VK → Prop
abbrev TT := St → Hp → (Bool → Hp → Prop) → Prop
abbrev TA := St → Hp → (List V → Hp → Prop) → Prop
structure Ends where
 nx : St → Hp → Prop
 rt : VK
 bk : St → Hp → Prop := fun _ _ => False
 ct : St → Hp → Prop := fun _ _ => False
abbrev TS := Ends → St → Hp → Prop
def EP (X : Cx) (pins : List (Addr × Obj)) (σ : St) (Q : VK) (u : Value) (s' : Shared) : Prop := ∃ v H', Inv X pins σ H' s' ∧ RelV v u ∧ Q v H'
def TP (X : Cx) (pins : List (Addr × Obj)) (σ : St) (Q : Bool → Hp → Prop) (b : Bool) (s' : Shared) : Prop := ∃ H', Inv X pins σ H' s' ∧ Q b H'
def AP (X : Cx) (pins : List (Addr × Obj)) (σ : St) (Q : List V → Hp → Prop) (us : List Value) (s' : Shared) : Prop := ∃ vs H', Inv X pins σ H' s' ∧ Vals vs us ∧ Q vs H'
def SP (X : Cx) (pins : List (Addr × Obj)) (D : Ends) (f : Flow) (s' : Shared) : Prop :=
 match f with
 | .next => ∃ σ' H', Inv X pins σ' H' s' ∧ D.nx σ' H'
 | .brk => ∃ σ' H', Inv X pins σ' H' s' ∧ D.bk σ' H'
 | .cont => ∃ σ' H', Inv X pins σ' H' s' ∧ D.ct σ' H'
 | .ret u => ∃ v σ' H', Inv X pins σ' H' s' ∧ RelV v u ∧ D.rt v H'
def PE (X : Cx) (e : Expr) (t : TE) : Prop :=
 ∀ (pins : List (Addr × Obj)) (s : Shared) (σ : St) (H : Hp) (Q : VK), Inv X pins σ H s → t σ H Q → wpAny (model X.prog X.w) X.A (eval e X.env) (EP X pins σ Q) X.xe s
def PT (X : Cx) (e : Expr) (t : TT) : Prop :=
 ∀ (pins : List (Addr × Obj)) (s : Shared) (σ : St) (H : Hp) (Q : Bool → Hp → Prop), Inv X pins σ H s → t σ H Q → wpAny (model X.prog X.w) X.A (isTrue e X.env (eval e X.env)) (TP X pins σ Q) X.xe s
def PW (X : Cx) (e : Expr) (t : TT) : Prop :=
 ∀ (whole : Sem Value) (pins : List (Addr × Obj)) (s : Shared) (σ : St) (H : Hp) (Q : Bool → Hp → Prop), Inv X pins σ H s → t σ H Q → wpAny (model X.prog X.w) X.A (isTrue e X.env whole) (TP X pins σ Q) X.xe s
theorem PW.pt {X : Cx} {e : Expr} {t : TT} (h : PW X e t) : PT X e t := h _
def PA (X : Cx) (es : List Expr) (t : TA) : Prop :=
 ∀ (pos : Pos) (pins : List (Addr × Obj)) (s : Shared) (σ : St) (H : Hp) (Q : List V → Hp → Prop), Inv X pins σ H s → t σ H Q → wpAny (model X.prog X.w) X.A (spliced (backTo pos (starEach es X.env))) (AP X pins σ Q) X.xe s
def PS (X : Cx) (st : Stmt) (t : TS) : Prop :=
 ∀ (pins : List (Addr × Obj)) (s : Shared) (σ : St) (H : Hp) (D : Ends), Inv X pins σ H s → t D σ H → wpAny (model X.prog X.w) X.A (exec st X.env) (SP X pins D) X.xe s
def PSs (X : Cx) (st : List Stmt) (t : TS) : Prop :=
 ∀ (pins : List (Addr × Obj)) (s : Shared) (σ : St) (H : Hp) (D : Ends), Inv X pins σ H s → t D σ H → wpAny (model X.prog X.w) X.A (execs st X.env) (SP X pins D) X.xe s
theorem thn {α : Type} {t : Sem α} {Q Q' : α → Shared → Prop} {M : Model} {A : Around} {E : Value → Shared → Prop} {s : Shared} (h : wpAny M A t Q E s) (hQ : ∀ a s, Q a s → Q' a s) : wpAny M A t Q' E s := wpAny_mono h hQ fun _ _ x => x
end L2
namespace L2
open PySem PySem.Spec PyProof.Rows
section
variable {X : Cx}
def tVar (i : Nat) : TE := fun σ H Q => ∃ v, σ[i]? = some (some v) ∧ Q v H
def tC (v : V) : TE := fun _ H Q => Q v H
theorem pe_var {i : Nat} {x : Str} {pos : Pos} (hN : X.N[i]? = some x) (hv : Vis X.env.scope x) (hd : (x == ("__debug__" : Str)) = false := by decide) (hcd : (x == ("__classdict__" : Str)) = false := by decide) : PE X (.Name x pos) (tVar i) := by
 intro pins s σ H Q I h
 obtain ⟨v, e, h⟩ := h
 obtain ⟨m, hn, hl⟩ := I.loc
 obtain ⟨u, r, l⟩ := hl i x v hN e hv
 have fin : EP X pins σ Q u s := ⟨v, H, I, r, h⟩
 rcases l with ⟨hk, hm⟩ | ⟨hk, c, hc, hcell⟩
 ·exact wpAny_Name (wpAny_loadName_local I.ok.kind hk hn hm fin) hd
 ·rcases hk with hk | hk
  ·exact wpAny_Name (wpAny_loadName_cell I.ok.kind hk hc hcell fin) hd
  ·exact wpAny_Name (wpAny_loadName_free I.ok.kind hk hc hcell fin hcd) hd
theorem pe_int {i j pos} : PE X (.Constant (.int i) j pos) (tC (.int i)) := fun _ _ _ H _ I h => wpAny_Constant_int ⟨.int i, H, I.tok _, ⟨_, rfl⟩, h⟩
theorem pe_bl {b j pos} : PE X (.Constant (.bool b) j pos) (tC (.bl b)) := fun _ _ _ H _ I h => Constant_bool ⟨.bl b, H, I, rfl, h⟩
theorem pe_non {j pos} : PE X (.Constant .none j pos) (tC .non) := fun _ _ _ H _ I h => Constant_none ⟨.non, H, I, rfl, h⟩
theorem pe_str {x j pos} : PE X (.Constant (.str x) j pos) (tC (.str x)) := fun _ _ _ H _ I h => Calls.Constant_str ⟨.str x, H, I.tok _, ⟨_, rfl⟩, h⟩
def Gl (X : Cx) (x : Str) : Prop := X.env.kindOf x = some .globalImplicit
theorem ld_glob {E : Value → Shared → Prop} {pins : List (Addr × Obj)} {s : Shared} {σ : St} {H : Hp} {x : Str} {u : Value} {pos : Pos} {Q : Value → Shared → Prop} (I : Inv X pins σ H s) (hg : Gl X x) (hm : X.mg x = some u) (h : Q u s)
  (hd : (x == ("__debug__" : Str)) = false := by decide) : wpAny (model X.prog X.w) X.A (eval (.Name x pos) X.env) Q E s :=
 Calls.Name_function_global I.ok.kind hg (Calls.loadGlobal_global (by rw [I.ok.glob]; exact I.mod.glob.keeps I.bk) hm h) hd
theorem ld_blt {E : Value → Shared → Prop} {pins : List (Addr × Obj)} {s : Shared} {σ : St} {H : Hp} {x : Str} {u : Value} {pos : Pos} {Q : Value → Shared → Prop} (I : Inv X pins σ H s) (hg : Gl X x) (hm : X.mg x = none) (hv : bootBuiltins x = some u) (h : Q u s)
  (hn : x ≠ "__name__" := by decide) (hd : (x == ("__debug__" : Str)) = false := by decide) : wpAny (model X.prog X.w) X.A (eval (.Name x pos) X.env) Q E s := by
 obtain ⟨mb, h1, h2⟩ := I.mod.blt
 exact Calls.Name_function_global I.ok.kind hg (Calls.loadGlobal_builtin (by rw [I.ok.glob]; exact I.mod.glob.keeps I.bk) hm (by rw [I.ok.blt]; exact h1.keeps I.bk) ((h2 x hn).trans hv) h) hd
theorem pe_glob {x : Str} {v : V} {u : Value} {pos : Pos} (hg : Gl X x) (hm : X.mg x = some u) (r : RelV v u) (hd : (x == ("__debug__" : Str)) = false := by decide) : PE X (.Name x pos) (tC v) :=
 fun _ _ _ H _ I h => ld_glob I hg hm ⟨v, H, I, r, h⟩ hd
theorem pe_bltn {x : Str} {v : V} {u : Value} {pos : Pos} (hg : Gl X x) (hm : X.mg x = none) (hv : bootBuiltins x = some u) (r : RelV v u) (hn : x ≠ "__name__" := by decide) (hd : (x == ("__debug__" : Str)) = false := by decide) : PE X (.Name x pos) (tC v) :=
 fun _ _ _ H _ I h => ld_blt I hg hm hv ⟨v, H, I, r, h⟩ hn hd
variable {a b : Expr} {ta tb : TE} {pos : Pos}
def PC (X : Cx) (op : CmpOp) (a b : Expr) (t : TE) : Prop :=
 ∀ (pins : List (Addr × Obj)) (s : Shared) (σ : St) (H : Hp) (Q : VK), Inv X pins σ H s → t σ H Q →
  wpAny (model X.prog X.w) X.A (eval a X.env) (fun v s₁ => wpAny (model X.prog X.w) X.A (eval b X.env) (fun u s₂ => wpAny (model X.prog X.w) X.A (compareOp op v u) (EP X pins σ Q) X.xe s₂) X.xe s₁) X.xe s
def tB (t : TE) : TT := fun σ H Q => t σ H fun x H1 => ∃ c, x = .bl c ∧ Q c H1
theorem pt_cmp {op : CmpOp} {t : TE} (h : PC X op a b t) (h1 : behindInMarks op b = false := by first | exact nobehind _ (by decide) (by decide) | rfl) : PT X (.Compare a [op] [b] pos) (tB t) := by
 intro pins s σ H Q I hw
 refine wpAny_isTrue_Compare1 (thn (h pins s σ H _ I hw) fun v s1 h1 => thn h1 fun u s2 h2 => thn h2 fun c s3 ⟨x, H1, I1, r1, q1⟩ => ?_) h1
 obtain ⟨d, rfl, q⟩ := q1
 cases r1
 exact wpAny_truthy_bool ⟨H1, I1, q⟩
theorem pt_val {e : Expr} {t : TE} (h : PE X e t) (he : ∀ whole, isTrue e X.env whole = (do let v ← whole; standAt e.pos; holding [v] (truthy v)) := by intro _; rfl) : PT X e (tB t) := by
 intro pins s σ H Q I hw
 refine isTrue_plain (thn (h pins s σ H _ I hw) fun v s1 ⟨x, H1, I1, r1, q1⟩ => ?_) (he _)
 obtain ⟨d, rfl, q⟩ := q1
 cases r1
 exact wpAny_truthy_bool ⟨H1, I1, q⟩
variable {tA tB' : TT} {rest : List Expr}
def tAnd (t u : TT) : TT := fun σ H Q => t σ H fun c H1 => if c = true then u σ H1 Q else Q false H1
def tOr (t u : TT) : TT := fun σ H Q => t σ H fun c H1 => if c = true then Q true H1 else u σ H1 Q
def tNot (t : TT) : TT := fun σ H Q => t σ H fun c H1 => Q (!c) H1
theorem pw_and1 (ha : PT X a tA) : PW X (.BoolOp .And [a] pos) tA := by
 intro wh pins s σ H Q I h
 refine isTrue_and (thn (ha pins s σ H Q I h) fun c s1 e => ?_)
 cases c with
 | true => exact isTrue_and_nil e
 | false => exact e
theorem pw_or1 (ha : PT X a tA) : PW X (.BoolOp .Or [a] pos) tA := by
 intro wh pins s σ H Q I h
 refine isTrue_or (thn (ha pins s σ H Q I h) fun c s1 e => ?_)
 cases c with
 | false => exact isTrue_or_nil e
 | true => exact e
theorem pw_and (ha : PT X a tA) (hb : PW X (.BoolOp .And (b :: rest) pos) tB') : PW X (.BoolOp .And (a :: b :: rest) pos) (tAnd tA tB') := by
 intro wh pins s σ H Q I h
 refine isTrue_and (thn (ha pins s σ H _ I h) fun c s1 ⟨H1, I1, q1⟩ => ?_)
 cases c with
 | true => exact hb wh pins s1 σ H1 Q I1 q1
 | false => exact ⟨H1, I1, q1⟩
theorem pw_or (ha : PT X a tA) (hb : PW X (.BoolOp .Or (b :: rest) pos) tB') : PW X (.BoolOp .Or (a :: b :: rest) pos) (tOr tA tB') := by
 intro wh pins s σ H Q I h
 refine isTrue_or (thn (ha pins s σ H _ I h) fun c s1 ⟨H1, I1, q1⟩ => ?_)
 cases c with
 | true => exact ⟨H1, I1, q1⟩
 | false => exact hb wh pins s1 σ H1 Q I1 q1
theorem pt_not (ha : PT X a tA) : PT X (.UnaryOp .Not a pos) (tNot tA) := by
 intro pins s σ H Q I h
 exact isTrue_not (ha pins s σ H (fun c H1 => Q (!c) H1) I h)
def tAndV (ta tb : TE) : TE := fun σ H Q => ta σ H fun x H1 => ∃ c, x = .bl c ∧ if c = true then tb σ H1 Q else Q (.bl false) H1
def tNotV (ta : TE) : TE := fun σ H Q => ta σ H fun x H1 => ∃ c, x = .bl c ∧ Q (.bl (!c)) H1
theorem pe_one {op} {t : TE} (h : PE X a t) : PE X (.BoolOp op [a] pos) t := fun pins s σ H Q I hw => BoolOp_one (h pins s σ H Q I hw)
theorem pe_and (ha : PE X a ta) (hb : PE X (.BoolOp .And (b :: rest) pos) tb) : PE X (.BoolOp .And (a :: b :: rest) pos) (tAndV ta tb) := by
 intro pins s σ H Q I h
 refine BoolOp_and (thn (ha pins s σ H _ I h) fun v s1 ⟨x, H1, I1, r1, q1⟩ => ?_)
 obtain ⟨c, rfl, q1⟩ := q1
 cases r1
 refine wpAny_truthy_bool ?_
 cases c with
 | true => exact hb pins s1 σ H1 Q I1 q1
 | false => exact ⟨.bl false, H1, I1, rfl, q1⟩
theorem pe_not (ha : PE X a ta) : PE X (.UnaryOp .Not a pos) (tNotV ta) := by
 intro pins s σ H Q I h
 refine UnaryOp_ (thn (ha pins s σ H _ I h) fun v s1 ⟨x, H1, I1, r1, q1⟩ => ?_)
 obtain ⟨c, rfl, q1⟩ := q1
 cases r1
 exact not_of (wpAny_truthy_bool ⟨.bl (!c), H1, I1, rfl, q1⟩)
def tIf (t : TT) (ta tb : TE) : TE := fun σ H Q => t σ H fun c H1 => if c = true then ta σ H1 Q else tb σ H1 Q
theorem pe_ifExp {c : Expr} (hc : PT X c tA) (ha : PE X a ta) (hb : PE X b tb) : PE X (.IfExp c a b pos) (tIf tA ta tb) := by
 intro pins s σ H Q I h
 refine wpAny_IfExp (thn (hc pins s σ H _ I h) fun d s1 ⟨H1, I1, q1⟩ => ?_)
 cases d with
 | true => exact ha pins s1 σ H1 Q I1 q1
 | false => exact hb pins s1 σ H1 Q I1 q1
end
end L2
namespace L2
open PySem PySem.Spec PyProof.Rows
def SqL (K : PySem.W.Frag) (H : Hp) (a : Addr) (xs : List V) : Prop :=
 Rd H a (.lst xs) ∨
  ∃ (o : Obj) (its : Array Value) (n : Nat), K.lookup a = some o ∧ o.cls = .type "list" ∧ o.dict = none ∧ o.data = .seq its n ∧ its.size ≤ sizeLine ∧ Vals xs its.toList
def SqT (K : PySem.W.Frag) (H : Hp) (a : Addr) (xs : List V) : Prop :=
 Rd H a (.tup xs) ∨
  ∃ (o : Obj) (its : Array Value) (n : Nat), K.lookup a = some o ∧ o.cls = .type "tuple" ∧ o.data = .seq its n ∧ its.size ≤ sizeLine ∧ Vals xs its.toList
def absV : Value → Option V
 | .none => some .non
 | .bool b => some (.bl b)
 | .int i _ => some (.int i)
 | .str x _ => some (.str x)
 | .bytes b _ => some (.byt b)
 | .float b _ => some (.flt b)
 | .ref a => some (.ref a)
 | .type n => some (.ty n)
 | _ => none
theorem RelV.abs {x : V} {u : Value} (r : RelV x u) : absV u = some x := by
 cases x with
 | non => cases r; rfl
 | bl _ => cases r; rfl
 | int _ => obtain ⟨t, rfl⟩ := r; rfl
 | str _ => obtain ⟨t, rfl⟩ := r; rfl
 | byt _ => obtain ⟨t, rfl⟩ := r; rfl
 | flt _ => obtain ⟨t, rfl⟩ := r; rfl
 | ref _ => cases r; rfl
 | ty _ => cases r; rfl
theorem RelV.inj {x y : V} {u : Value} (r : RelV x u) (q : RelV y u) : x = y := Option.some.inj (r.abs.symm.trans q.abs)
theorem Vals.inj : ∀ {xs ys : List V} {us : List Value}, Vals xs us → Vals ys us → xs = ys
 | _, _, _, .nil, .nil => rfl
 | _, _, _, .cons r t, .cons r' t' => by rw [r.inj r', Vals.inj t t']
section
variable {X : Cx} {pins : List (Addr × Obj)} {σ : St} {H : Hp} {s : Shared} {a : Addr} {xs ys : List V}
theorem SqL.of {K : PySem.W.Frag} (h : H a = some (.lst xs)) : SqL K H a xs := .inl (.inl h)
theorem SqT.of {K : PySem.W.Frag} (h : H a = some (.tup xs)) : SqT K H a xs := .inl (.inl h)
theorem Inv.list (I : Inv X pins σ H s) (h : SqL X.K H a xs) : ∃ its : List Value, Vals xs its ∧ PlainL s.heap a its.toArray ∧ xs.length ≤ sizeLine := by
 rcases h with h | ⟨o, its, n, hk, hc, hd, hs, hz, r⟩
 ·obtain ⟨z, its, n, r, e⟩ := h.ok I.hok
  exact ⟨its, r, ⟨_, n, e, rfl, rfl, rfl⟩, z⟩
 ·refine ⟨its.toList, r, ⟨o, n, I.kIn a o hk, hc, hd, by simpa using hs⟩, ?_⟩
  have e := r.length
  simp only [Array.length_toList] at e
  omega
theorem Inv.tuple (I : Inv X pins σ H s) (h : SqT X.K H a xs) : ∃ its : List Value, Vals xs its ∧ IsTup s.heap a its.toArray ∧ xs.length ≤ sizeLine := by
 rcases h with h | ⟨o, its, n, hk, hc, hs, hz, r⟩
 ·obtain ⟨z, its, r, p⟩ := h.ok I.hok
  exact ⟨its, r, p, z⟩
 ·refine ⟨its.toList, r, ⟨o, I.kIn a o hk, hc, n, by simpa using hs⟩, ?_⟩
  have e := r.length
  simp only [Array.length_toList] at e
  omega
theorem Inv.list_inj (I : Inv X pins σ H s) (h : SqL X.K H a xs) (h' : SqL X.K H a ys) : xs = ys := by
 obtain ⟨its, r, ⟨o, n, e, _, _, d⟩, _⟩ := I.list h
 obtain ⟨its', r', ⟨o', n', e', _, _, d'⟩, _⟩ := I.list h'
 rw [e] at e'; cases e'
 rw [d] at d'
 injection d' with d1 _
 have : its = its' := by simpa using congrArg Array.toList d1
 subst this
 exact r.inj r'
end
abbrev Cx.wish (X : Cx) (E : Value → Shared → Prop) : Cx := { X with xe := E }
abbrev Cx.nox (X : Cx) : Cx := X.wish fun _ _ => False
theorem Cx.Ok.wish {X : Cx} (ok : X.Ok) (E : Value → Shared → Prop) : (X.wish E).Ok :=
 ⟨ok.mod, ok.kind, ok.glob, ok.blt, ok.above, ok.inj, ok.has, ok.cab, ok.hd, ok.frames, ok.stk, ok.exf, ok.bs, ok.bsz, ok.noex, ok.exfs, ok.funs, ok.frf⟩
theorem Cx.Ok.unwish {X : Cx} {E : Value → Shared → Prop} (ok : (X.wish E).Ok) : X.Ok :=
 ⟨ok.mod, ok.kind, ok.glob, ok.blt, ok.above, ok.inj, ok.has, ok.cab, ok.hd, ok.frames, ok.stk, ok.exf, ok.bs, ok.bsz, ok.noex, ok.exfs, ok.funs, ok.frf⟩
section
variable {X : Cx} {pins : List (Addr × Obj)} {σ : St} {H : Hp} {s : Shared} {E : Value → Shared → Prop}
theorem Inv.wish (I : Inv X pins σ H s) (E : Value → Shared → Prop) : Inv (X.wish E) pins σ H s := ⟨I.ok.wish E, I.os, I.bare, I.base, I.loc, I.cell, I.free, I.freeC, I.pin, I.hok, I.len⟩
theorem Inv.unwish (I : Inv (X.wish E) pins σ H s) : Inv X pins σ H s := ⟨I.ok.unwish, I.os, I.bare, I.base, I.loc, I.cell, I.free, I.freeC, I.pin, I.hok, I.len⟩
theorem SP.unwish {D : Ends} {f : Flow} {s' : Shared} (h : SP (X.wish E) pins D f s') : SP X pins D f s' := by
 cases f with
 | next => obtain ⟨σ', H', I, q⟩ := h; exact ⟨σ', H', I.unwish, q⟩
 | brk => obtain ⟨σ', H', I, q⟩ := h; exact ⟨σ', H', I.unwish, q⟩
 | cont => obtain ⟨σ', H', I, q⟩ := h; exact ⟨σ', H', I.unwish, q⟩
 | ret u => obtain ⟨v, σ', H', I, r, q⟩ := h; exact ⟨v, σ', H', I.unwish, r, q⟩
theorem PSs.nox {st : List Stmt} {t : TS} (h : PSs X.nox st t) : PSs X st t := fun pins s σ H D I hw =>
 wpAny_mono (h pins s σ H D (I.wish _) hw) (fun _ _ q => q.unwish) fun _ _ z => False.elim z
end
section
variable {X : Cx} {st : Stmt} {rest : List Stmt} {t u : TS} {e : Expr} {te : TE} {pos : Pos}
def tNext : TS := fun D σ H => D.nx σ H
def tSeq (t u : TS) : TS := fun D σ H => t { D with nx := u D } σ H
theorem pss_nil : PSs X [] tNext := fun _ _ σ H _ I h => wpAny_execs_nil ⟨σ, H, I, h⟩
theorem pss_cons (h1 : PS X st t) (h2 : PSs X rest u) : PSs X (st :: rest) (tSeq t u) := by
 intro pins s σ H D I h
 refine wpAny_execs_cons (thn (h1 pins s σ H { D with nx := u D } I h) fun f s1 q => ?_)
 cases f with
 | next =>
  obtain ⟨σ', H', I', q⟩ := q
  exact h2 pins s1 σ' H' D I' q
 | ret v => exact q
 | brk => exact q
 | cont => exact q
theorem pss_one (h1 : PS X st t) : PSs X [st] t := by
 intro pins s σ H D I h
 refine wpAny_execs_cons (thn (h1 pins s σ H D I h) fun f s1 q => ?_)
 cases f with
 | next => exact wpAny_execs_nil q
 | ret v => exact q
 | brk => exact q
 | cont => exact q
def tBreak : TS := fun D σ H => D.bk σ H
theorem ps_break : PS X (.Break pos) tBreak := fun _ _ σ H _ I h => wpAny_Break ⟨σ, H, I, h⟩
theorem Inv.quiet {pins : List (Addr × Obj)} {σ : St} {H : Hp} {s : Shared} (I : Inv X pins σ H s) : interactive X.env = false := by simp [interactive, I.ok.kind]
def tDrop (te : TE) : TS := fun D σ H => te σ H fun _ H1 => D.nx σ H1
theorem ps_expr (he : PE X e te) (hs : swapsWith e none pos.line X.env = pure false := by rfl) : PS X (.Expr e pos) (tDrop te) := by
 intro pins s σ H D I h
 exact wpAny_Expr_any (thn (he pins s σ H _ I h) fun v s1 ⟨x, H1, I1, r1, q1⟩ => ⟨σ, H1, I1, q1⟩) I.quiet hs
def tRet (te : TE) : TS := fun D σ H => te σ H D.rt
theorem ps_ret (he : PE X e te) : PS X (.Return (some e) pos) (tRet te) := by
 intro pins s σ H D I h
 exact wpAny_Return_some (thn (he pins s σ H _ I h) fun v s1 ⟨x, H1, I1, r1, q1⟩ => ⟨x, σ, H1, I1, r1, q1⟩)
def tIfS (c : TT) (t u : TS) : TS := fun D σ H => c σ H fun b H1 => if b = true then t D σ H1 else u D σ H1
theorem ps_if {c : Expr} {a b : List Stmt} {tc : TT} (hc : PT X c tc) (ha : PSs X a t) (hb : PSs X b u) : PS X (.If c a b pos) (tIfS tc t u) := by
 intro pins s σ H D I h
 refine wpAny_If (thn (hc pins s σ H _ I h) fun d s1 ⟨H1, I1, q1⟩ => ?_)
 cases d with
 | true => exact ha pins s1 σ H1 D I1 q1
 | false => exact hb pins s1 σ H1 D I1 q1
end
abbrev TG := V → St → Hp → (St → Hp → Prop) → Prop
abbrev TGs := List V → St → Hp → (St → Hp → Prop) → Prop
def PG (X : Cx) (target : Expr) (t : TG) : Prop :=
 ∀ (pins : List (Addr × Obj)) (s : Shared) (σ : St) (H : Hp) (v : V) (u : Value) (Q : St → Hp → Prop), Inv X pins σ H s → RelV v u → t v σ H Q →
  wpAny (model X.prog X.w) X.A (assign target X.env u) (fun _ s' => ∃ σ' H', Inv X pins σ' H' s' ∧ Q σ' H') X.xe s
def PGs (X : Cx) (ts : List Expr) (t : TGs) : Prop :=
 ∀ (pins : List (Addr × Obj)) (s : Shared) (σ : St) (H : Hp) (vs : List V) (us : List Value) (Q : St → Hp → Prop), Inv X pins σ H s → Vals vs us → t vs σ H Q →
  wpAny (model X.prog X.w) X.A (assignInOrder ((assignEach ts X.env).map (·.2)) us) (fun _ s' => ∃ σ' H', Inv X pins σ' H' s' ∧ Q σ' H') X.xe s
abbrev TSet := V → V → V → Hp → (Hp → Prop) → Prop
def PSet (X : Cx) (t : TSet) : Prop :=
 ∀ (pins : List (Addr × Obj)) (s : Shared) (σ : St) (H : Hp) (o i v : V) (ov iv u : Value) (Q : Hp → Prop), Inv X pins σ H s → RelV o ov → RelV i iv → RelV v u → t o i v H Q →
  wpAny (model X.prog X.w) X.A (setItem ov iv u) (fun _ s' => ∃ H', Inv X pins σ H' s' ∧ Q H') X.xe s
section
variable {X : Cx} {pos : Pos}
def gName (i : Nat) : TG := fun v σ H Q => Q (σ.set i (some v)) H
theorem pg_name {i : Nat} {x : Str} (hN : X.N.Nodup) (hi : X.N[i]? = some x) (hx : Loc X.env.scope x) (hf : X.fn x = true ∨ X.env.scope.names.lookup x = some .local := by first | exact .inl rfl | exact .inr rfl | assumption) : PG X (.Name x pos) (gName i) := by
 intro pins s σ H v u Q I r h
 exact wpAny_assign_Name (store_ok I hN hi hx r (fun s' I' => ⟨_, H, I', h⟩) hf)
def gNil : TGs := fun vs σ H Q => vs = [] ∧ Q σ H
def gCons (t : TG) (u : TGs) : TGs := fun vs σ H Q => ∃ v r, vs = v :: r ∧ t v σ H fun σ' H' => u r σ' H' Q
theorem pgs_nil : PGs X [] gNil := by
 intro pins s σ H vs us Q I r h
 obtain ⟨e, h⟩ := h
 subst e
 cases r
 exact assignInOrder_nil ⟨σ, H, I, h⟩
theorem pgs_cons {e : Expr} {es : List Expr} {t : TG} {u : TGs} (h1 : PG X e t) (h2 : PGs X es u)
  (hs : (assignEach (e :: es) X.env).map (·.2) = assign e X.env :: (assignEach es X.env).map (·.2) := by rfl) : PGs X (e :: es) (gCons t u) := by
 intro pins s σ H vs us Q I r h
 obtain ⟨v, vr, e1, h⟩ := h
 subst e1
 cases r with
 | cons r rr =>
  rw [hs]
  refine assignInOrder_cons (thn (h1 pins s σ H _ _ _ I r h) fun _ s1 ⟨σ1, H1, I1, q1⟩ => ?_)
  exact h2 pins s1 σ1 H1 _ _ Q I1 rr q1
def gTup (K : PySem.W.Frag) (n : Nat) (t : TGs) : TG := fun v σ H Q => ∃ a xs, v = .ref a ∧ SqT K H a xs ∧ xs.length = n ∧ t xs σ H Q
theorem pg_tup {es : List Expr} {k : Nat} {t : TGs} {n : Nat} (hc : X.calm = true) (h : PGs X es t)
  (hn : (assignEach es X.env).length = n := by rfl) (hst : (assignEach es X.env).findIdx? (·.1) = none := by rfl) : PG X (.Tuple es k pos) (gTup X.K n t) := by
 intro pins s σ H v u Q I r hw
 obtain ⟨a, xs, e1, hq, hl, hw⟩ := hw
 subst e1
 cases r
 obtain ⟨its, rv, ht, hz⟩ := I.tuple hq
 refine assign_Tuple_tuple (I.ok.hd hc) ht (by simp [hn, ← hl, rv.length]) hst fun h' hx => ?_
 have I1 : Inv X pins σ H { s with heap := h' } := I.kept (t' := s.toks) fun b o e => hx b o (Nat.ne_of_lt (Heap.lt_size e)) e
 exact h pins _ σ H xs _ Q I1 (by simpa using rv) hw
def gSub (to ti : TE) (t : TSet) : TG := fun v σ H Q => to σ H fun o H1 => ti σ H1 fun i H2 => t o i v H2 fun H3 => Q σ H3
theorem pg_sub {o i : Expr} {to ti : TE} {t : TSet} (ho : PE X o to) (hi : PE X i ti) (hs : PSet X t)
  (ha : ∀ v, assign (.Subscript o i pos) X.env v = (do
   let ov ← holding [v] (eval o X.env)
   let iv ← holding [v, ov] (eval i X.env)
   standAt pos
   holding [v, ov, iv] (setItem ov iv v)
   release [v, ov, iv] []) := by intro _; rfl) : PG X (.Subscript o i pos) (gSub to ti t) := by
 intro pins s σ H v u Q I r h
 rw [ha]
 refine wpAny_bind (wpAny_holding (thn (ho pins s σ H _ I h) fun ov s1 ⟨x, H1, I1, r1, q1⟩ => ?_))
 refine wpAny_bind (wpAny_holding (thn (hi pins s1 σ H1 _ I1 q1) fun iv s2 ⟨y, H2, I2, r2, q2⟩ => ?_))
 refine wpAny_bind (wpAny_standAt (wpAny_bind (wpAny_holding (thn (hs pins s2 σ H2 x y v ov iv u _ I2 r1 r2 r q2) fun _ s3 ⟨H3, I3, q3⟩ => ?_))))
 exact wpAny_release ⟨σ, H3, I3, q3⟩
def tAsg (te : TE) (g : TG) : TS := fun D σ H => te σ H fun x H1 => g x σ H1 D.nx
theorem ps_asg {tg e : Expr} {te : TE} {g : TG} (he : PE X e te) (hg : PG X tg g) (hs : swapsWithSole [tg] e pos.line X.env = pure false := by rfl) (hw : swappedStores [tg] e X.env = pure none := by rfl)
  (h1 : (assignEach [tg] X.env).map (·.2) = [assign tg X.env] := by rfl) : PS X (.Assign [tg] e pos) (tAsg te g) := by
 intro pins s σ H D I h
 refine wpAny_Assign_stores (thn (he pins s σ H _ I h) fun v s1 ⟨x, H1, I1, r1, q1⟩ => ?_) hs hw
 rw [h1]
 exact thn (hg pins s1 σ H1 x v _ I1 r1 q1) fun _ s2 q => q
theorem ps_set {i : Nat} {x : Str} {e : Expr} {te : TE} {pos' : Pos} (hN : X.N.Nodup) (hi : X.N[i]? = some x) (hx : Loc X.env.scope x) (he : PE X e te) (hs : swapsWith e (some (.Name x pos')) pos.line X.env = pure false := by rfl) (hf : X.fn x = true ∨ X.env.scope.names.lookup x = some .local := by first | exact .inl rfl | exact .inr rfl | assumption) :
  PS X (.Assign [.Name x pos'] e pos) (tAsg te (gName i)) := by
 intro pins s σ H D I h
 refine wpAny_Assign_Name (thn (he pins s σ H _ I h) fun v s1 ⟨y, H1, I1, r1, q1⟩ => ?_) hs
 exact store_ok I1 hN hi hx r1 (fun s2 I2 => ⟨_, H1, I2, q1⟩) hf
end
section
variable {X : Cx} {pos : Pos}
def tWhile (c : TT) (tb : TS) : TS := fun D σ H => ∃ W : Nat → St → Hp → Prop, (∃ m, W m σ H) ∧ ∀ m σ H, W m σ H →
 c σ H fun b H1 => if b = true then ∃ N : St → Hp → Prop, (∀ σ' H', N σ' H' → ∃ m', m' < m ∧ W m' σ' H') ∧ tb { D with nx := N, ct := N, bk := D.nx } σ H1 else D.nx σ H1
theorem ps_while {c : Expr} {body : List Stmt} {tc : TT} {tb : TS} (hp : PassesOwn (model X.prog X.w) X.A X.env X.xe) (hc : PT X c tc) (hb : PSs X body tb) : PS X (.While c body [] pos) (tWhile tc tb) := by
 intro pins s σ H D I h
 obtain ⟨W, ⟨m0, w0⟩, turn⟩ := h
 refine wpAny_While (codeAny_whileLoop (fun n s' => ∃ σ' H', Inv X pins σ' H' s' ∧ W n σ' H') ?_ m0 ⟨σ, H, I, w0⟩)
 rintro n s1 ⟨σ1, H1, I1, w1⟩
 refine wpAny_passesOwn hp (thn (hc pins s1 σ1 H1 _ I1 (turn n σ1 H1 w1)) fun b s2 ⟨H2, I2, q2⟩ => ?_)
 cases b with
 | true =>
  obtain ⟨N, hN, q2⟩ := q2
  rw [if_pos rfl]
  refine wpAny_passesOwn hp (thn (hb pins s2 σ1 H2 _ I2 q2) fun f s3 q3 => ?_)
  cases f with
  | next =>
   obtain ⟨σ3, H3, I3, n3⟩ := q3
   obtain ⟨m', hm, w3⟩ := hN σ3 H3 n3
   exact ⟨m', hm, σ3, H3, I3, w3⟩
  | cont =>
   obtain ⟨σ3, H3, I3, n3⟩ := q3
   obtain ⟨m', hm, w3⟩ := hN σ3 H3 n3
   exact ⟨m', hm, σ3, H3, I3, w3⟩
  | brk => exact q3
  | ret v => exact q3
 | false =>
  rw [if_neg Bool.false_ne_true]
  exact wpAny_execs_nil ⟨σ1, H2, I2, q2⟩
end
structure It where
 go : Nat → Hp → Prop
 yld : Nat → Hp → V → Hp → Prop
 stop : Nat → Hp → Prop
def FpOk (X : Cx) (pins : List (Addr × Obj)) (H : Hp) (b : Addr) : Prop :=
 H b = none ∧ b ≠ X.env.locals ∧ b ∉ X.fs ∧ (b ∈ X.ex ∨ X.s₀.heap.objs.size ≤ b) ∧ (∀ x c, X.env.cells.lookup x = some c → c ≠ b) ∧ ∀ p ∈ X.pn ++ pins, p.1 ≠ b
theorem Inv.fpOk {X : Cx} {pins : List (Addr × Obj)} {σ : St} {H H' : Hp} {s : Shared} {b : Addr} (I : Inv X pins σ H s) (hb : s.heap.objs.size ≤ b) (hn : H' b = none) : FpOk X pins H' b := by
 refine ⟨hn, Nat.ne_of_gt (Nat.lt_of_lt_of_le I.lt hb), I.nofs hb, .inr (Nat.le_trans I.sz hb), fun x c e z => ?_, fun p hp z => ?_⟩
 ·obtain ⟨v, q⟩ := I.cell x c e
  exact absurd (Nat.lt_of_lt_of_le q.lt (by rw [z]; exact hb)) (Nat.lt_irrefl _)
 ·exact absurd (Nat.lt_of_lt_of_le (Heap.lt_size (I.pin p hp).1) (by rw [z]; exact hb)) (Nat.lt_irrefl _)
structure Turn (P : Program) (w : World) (K : PySem.W.Frag) (tg : Expr) (J : It) (fp : List Addr) (it : Addr) (tn : Nat → Heap → Prop) : Prop where
 mem : it ∈ fp
 obj : ∀ i h, tn i h → ∀ b ∈ fp, ∃ o, h.get? b = some o ∧ ∀ v, o.data ≠ .cell v
 keep : ∀ i h h', tn i h → (∀ b ∈ fp, ∀ o, h.get? b = some o → h'.get? b = some o) → tn i h'
 item : ∀ (X : Cx), X.prog = P → X.w = w → X.K = K → X.calm = true → ∀ (i : Nat) (pins : List (Addr × Obj)) (s : Shared) (σ : St) (H : Hp) (E : Value → Shared → Prop), Inv X pins σ H s → (∀ b ∈ fp, FpOk X pins H b) → tn i s.heap → J.go i H →
  wpAny (model P w) X.A (pyNext (.ref it)) (fun r s1 => ∃ u, r = some u ∧
   wpAny (model P w) X.A (letOwnedTupleGo tg (.ref it) u) (fun _ s2 => ∃ x H', Inv X pins σ H' s2 ∧ RelV x u ∧ J.yld i H x H' ∧ tn (i + 1) s2.heap ∧ ∀ b ∈ fp, H' b = none) E s1) E s
 done : ∀ (X : Cx), X.prog = P → X.w = w → X.K = K → X.calm = true → ∀ (i : Nat) (pins : List (Addr × Obj)) (s : Shared) (σ : St) (H : Hp) (E : Value → Shared → Prop), Inv X pins σ H s → (∀ b ∈ fp, FpOk X pins H b) → tn i s.heap → J.stop i H →
  wpAny (model P w) X.A (pyNext (.ref it)) (fun r s1 => r = none ∧ Inv X pins σ H s1) E s
 self : ∀ (A : Around) (i : Nat) (s : Shared) (Q : Value → Shared → Prop) (E : Value → Shared → Prop), tn i s.heap → Q (.ref it) s → wpAny (model P w) A (pyIter (.ref it)) Q E s
abbrev TI := St → Hp → (It → Hp → Prop) → Prop
def PIE (X : Cx) (pins : List (Addr × Obj)) (σ : St) (tg : Expr) (R : It → Hp → Prop) (itv : Value) (s2 : Shared) : Prop :=
 ∃ (it : Addr) (fp : List Addr) (tn : Nat → Heap → Prop) (J : It) (H' : Hp), itv = .ref it ∧ Inv X pins σ H' s2 ∧ Turn X.prog X.w X.K tg J fp it tn ∧ tn 0 s2.heap ∧ (∀ b ∈ fp, FpOk X pins H' b) ∧ R J H'
def PI (X : Cx) (tg iter : Expr) (wi : TI) : Prop :=
 ∀ (pins : List (Addr × Obj)) (s : Shared) (σ : St) (H : Hp) (R : It → Hp → Prop), Inv X pins σ H s → wi σ H R →
  wpAny (model X.prog X.w) X.A (eval iter X.env) (fun v s1 => wpAny (model X.prog X.w) X.A (pyIter v) (PIE X pins σ tg R) X.xe s1) X.xe s
theorem go_of {M : Model} {A : Around} {E : Value → Shared → Prop} {s : Shared} {tg : Expr} {it : Addr} {u : Value} {o : Obj} {n : String} {vs : Array Value} {Q : Unit → Shared → Prop} (ho : s.heap.get? it = some o) (hc : o.cls = .type n) (hd : o.data = .fields vs)
    (hn : ["enumerate", "zip", "dict_itemiterator", "dict_reverseitemiterator", "odict_iterator", "itertools.zip_longest", "itertools.pairwise"].contains n = false) (hQ : Q () s) : wpAny M A (letOwnedTupleGo tg (.ref it) u) Q E s := by
  unfold letOwnedTupleGo
  cases tg <;> first
    | exact wpAny_pure hQ
    | (cases u <;> first
        | exact wpAny_pure hQ
        | (refine wpAny_bind (wpAny_load ho ?_)
           rw [hc, hd]
           show wpAny M A (if (["enumerate", "zip", "dict_itemiterator", "dict_reverseitemiterator", "odict_iterator", "itertools.zip_longest", "itertools.pairwise"].contains n && vs[0]? == some (rawInt _)) = true then _ else _) Q E s
           rw [if_neg (by intro h; rw [hn, Bool.false_and] at h; cases h)]
           exact wpAny_pure hQ))
def Itl (K : PySem.W.Frag) (a : Addr) : It :=
 ⟨fun i H => ∃ xs x, SqL K H a xs ∧ xs[i]? = some x, fun i H x H' => H' = H ∧ ∀ xs, SqL K H a xs → xs[i]? = some x, fun i H => ∃ xs, SqL K H a xs ∧ xs.length ≤ i⟩
def Itr (lo : Int) (n : Nat) : It := ⟨fun i _ => i < n, fun i H x H' => H' = H ∧ x = .int (lo + i), fun i _ => n ≤ i⟩
theorem turn_list {P : Program} {w : World} {K : PySem.W.Frag} {tg : Expr} (a it : Addr) : Turn P w K tg (Itl K a) [it] it (fun i h => h.IsListIter it a i) where
 mem := by simp
 obj := fun i h st b hb => by
  have e : b = it := by simpa using hb
  subst e
  obtain ⟨o, e, c, d⟩ := st
  exact ⟨o, e, fun v z => by rw [d] at z; cases z⟩
 keep := fun i h h' st k => st.at fun o e => k it (by simp) o e
 item := by
  intro X hP hw hK hc i pins s σ H E I hf st hg
  subst hP hw hK
  obtain ⟨xs, x, hq, hx⟩ := hg
  obtain ⟨its, rv, p, hz⟩ := I.list hq
  obtain ⟨u, hu, ru⟩ := rv.get hx
  obtain ⟨f0, f1, f2, f3, f4, f5⟩ := hf it (by simp)
  refine wpAny_pyNext_list_item st p.isList (x := u) (by simpa using hu) fun h' st' sb => ?_
  have I1 : Inv X pins σ H { s with heap := h' } := I.turned (t' := s.toks) (fun b o hb e => (sb.2 b hb).trans e) f0 f1 f3 f4 f5
  obtain ⟨o, e, c, d⟩ := id st'
  exact ⟨u, rfl, go_of (s := { s with heap := h' }) e c d (by decide) ⟨x, H, I1, ru, ⟨rfl, fun ys hy => by rw [I.list_inj hy hq]; exact hx⟩, st', fun b hb => (hf b hb).1⟩⟩
 done := by
  intro X hP hw hK hc i pins s σ H E I hf st hg
  subst hP hw hK
  obtain ⟨xs, hq, hx⟩ := hg
  obtain ⟨its, rv, p, hz⟩ := I.list hq
  obtain ⟨f0, f1, f2, f3, f4, f5⟩ := hf it (by simp)
  have hl := rv.length
  exact wpAny_pyNext_list_end (I.ok.hd hc) st p.isList (by simp; omega) fun h' eb => ⟨rfl, I.turned (t' := s.toks) (fun b o hb e => eb b o hb e) f0 f1 f3 f4 f5⟩
 self := fun _ _ _ _ _ st h => wpAny_pyIter_listiter st h
theorem turn_range {P : Program} {w : World} {K : PySem.W.Frag} {tg : Expr} (it : Addr) (lo : Int) (n : Nat) : Turn P w K tg (Itr lo n) [it] it (fun i h => IsRangeIter h it (lo + (i : Nat) * 1) ((n : Int) - (i : Nat)) 1) where
 mem := by simp
 obj := fun i h st b hb => by
  have e : b = it := by simpa using hb
  subst e
  exact ⟨_, st, fun v z => by
   have z' : Data.fields _ = Data.cell v := z
   cases z'⟩
 keep := fun i h h' st k => k it (by simp) _ st
 item := by
  intro X hP hw hK hc i pins s σ H E I hf st hg
  subst hP hw hK
  obtain ⟨f0, f1, f2, f3, f4, f5⟩ := hf it (by simp)
  have W := Walks.range (prog := X.prog) (w := X.w) (I.ok.hd hc) it lo 1 n
  refine W.item i s _ _ hg st fun v h' tk hv st' kk => ?_
  obtain ⟨t, rfl⟩ := hv
  have I1 : Inv X pins σ H { s with heap := h', toks := tk } := I.turned (fun b o hb e => kk b o (by simpa using hb) e) f0 f1 f3 f4 f5
  refine ⟨_, rfl, go_of (s := { s with heap := h', toks := tk }) (n := "range_iterator") st' rfl rfl (by decide) ⟨.int (lo + i), H, I1, ⟨t, ?_⟩, ⟨rfl, rfl⟩, st', fun b hb => (hf b hb).1⟩⟩
  rw [Int.mul_one]
 done := by
  intro X hP hw hK hc i pins s σ H E I hf st hg
  subst hP hw hK
  obtain ⟨f0, f1, f2, f3, f4, f5⟩ := hf it (by simp)
  exact wpAny_pyNext_range_end (I.ok.hd hc) st (by have : n ≤ i := hg; omega) fun h' eb => ⟨rfl, I.turned (t' := s.toks) (fun b o hb e => eb b o hb e) f0 f1 f3 f4 f5⟩
 self := fun _ _ _ _ _ st h => wpAny_pyIter_rangeiter st h
end L2
namespace L2
open PySem PySem.Spec PyProof.Rows
section
variable {X : Cx} {tg : Expr}
def iList (K : PySem.W.Frag) (tl : TE) : TI := fun σ H R => tl σ H fun x H1 => ∃ a, x = .ref a ∧ (∃ xs, SqL K H1 a xs) ∧ R (Itl K a) H1
theorem pi_list {l : Expr} {tl : TE} (hl : PE X l tl) : PI X tg l (iList X.K tl) := by
 intro pins s σ H R I h
 refine thn (hl pins s σ H _ I h) fun v s1 ⟨x, H1, I1, r1, q1⟩ => ?_
 obtain ⟨a, e, ⟨xs, hq⟩, q⟩ := q1
 subst e
 cases r1
 obtain ⟨its, rv, p, hz⟩ := I1.list hq
 refine wpAny_pyIter_list p.isList ?_
 refine ⟨s1.heap.objs.size, [s1.heap.objs.size], _, _, H1, rfl, I1.kept (t' := s1.toks) fun b o e => Heap.get?_push_of_some _ e, turn_list a _, ⟨_, Heap.get?_push_size _ rfl, rfl, rfl⟩, fun b hb => ?_, q⟩
 have e : b = s1.heap.objs.size := by simpa using hb
 subst e
 exact I1.fpOk (Nat.le_refl _) (I1.hok.fresh (Nat.le_refl _))
theorem range_it {pins : List (Addr × Obj)} {σ : St} {H : Hp} {s : Shared} {R : It → Hp → Prop} {E : Value → Shared → Prop} {lo hi : Int} {t u v : Tok} {tk : Nat} (I : Inv X pins σ H s) (h1 : -(2 ^ 62) ≤ lo) (h2 : lo < 2 ^ 62) (h3 : -(2 ^ 62) ≤ hi) (h4 : hi < 2 ^ 62)
  (q : R (Itr lo (hi - lo).toNat) H) : wpAny (model X.prog X.w) X.A (pyIter (.ref s.heap.objs.size)) (PIE X pins σ tg R) E { s with heap := s.heap.push { cls := .type "range", data := .fields #[.int lo t, .int hi u, .int 1 v] }, toks := tk } := by
 refine wpAny_pyIter_range (IsRange.new ..) (small_one h1 h2 h3 h4) ?_
 have I1 : Inv X pins σ H { s with heap := s.heap.push { cls := .type "range", data := .fields #[.int lo t, .int hi u, .int 1 v] }, toks := tk } := I.kept fun b o e => Heap.get?_push_of_some _ e
 refine ⟨(s.heap.push { cls := .type "range", data := .fields #[.int lo t, .int hi u, .int 1 v] }).objs.size, [(s.heap.push { cls := .type "range", data := .fields #[.int lo t, .int hi u, .int 1 v] }).objs.size], _, _, H, rfl,
  I1.kept (t' := tk) fun b o e => Heap.get?_push_of_some _ e, turn_range _ lo (hi - lo).toNat, ?_, fun b hb => ?_, q⟩
 ·have e1 : lo + ((0 : Nat) : Int) * 1 = lo := by simp
  have e2 : (((hi - lo).toNat : Nat) : Int) - ((0 : Nat) : Int) = Builtin.Range.rangeSize lo hi 1 := by rw [rangeSize_one]; split <;> omega
  show IsRangeIter _ _ (lo + ((0 : Nat) : Int) * 1) ((((hi - lo).toNat : Nat) : Int) - ((0 : Nat) : Int)) 1
  rw [e1, e2]
  exact Heap.get?_push_size _ rfl
 ·have e : b = (s.heap.push { cls := .type "range", data := .fields #[.int lo t, .int hi u, .int 1 v] }).objs.size := by simpa using hb
  subst e
  exact I1.fpOk (Nat.le_refl _) (I1.hok.fresh (Nat.le_refl _))
def iRng1 (ta : TA) : TI := fun σ H R => ta σ H fun vs H1 => ∃ j : Int, vs = [.int j] ∧ -(2 ^ 62) ≤ j ∧ j < 2 ^ 62 ∧ R (Itr 0 j.toNat) H1
def iRng2 (ta : TA) : TI := fun σ H R => ta σ H fun vs H1 => ∃ i j : Int, vs = [.int i, .int j] ∧ (-(2 ^ 62) ≤ i ∧ i < 2 ^ 62 ∧ -(2 ^ 62) ≤ j ∧ j < 2 ^ 62) ∧ R (Itr i (j - i).toNat) H1
theorem pi_range1 {a : Expr} {ta : TA} {p pos : Pos} (hg : Gl X "range") (hm : X.mg "range" = none) (ha : PA X [a] ta) (hs : starEach [a] X.env = [(false, eval a X.env)] := by rfl) : PI X tg (.Call (.Name "range" p) [a] [] pos) (iRng1 ta) := by
 intro pins s σ H R I h
 refine Call_ (ld_blt I hg hm boot_range (PyProof.Rows.callWith_type1 (thn (ha pos pins s σ H _ I h) fun us s1 ⟨vs, H1, I1, r1, q1⟩ => ?_) hs rfl))
 obtain ⟨j, e, q1, q2, q⟩ := q1
 subst e
 cases r1 with
 | cons r rr =>
  cases rr
  obtain ⟨t, rfl⟩ := r
  exact call_range_1 (range_it I1 (by omega) (by omega) q1 q2 (by simpa using q))
theorem pi_range2 {a b : Expr} {ta : TA} {p pos : Pos} (hg : Gl X "range") (hm : X.mg "range" = none) (ha : PA X [a, b] ta) (hs : starEach [a, b] X.env = [(false, eval a X.env), (false, eval b X.env)] := by rfl) (hs2 : starEach [b] X.env = [(false, eval b X.env)] := by rfl) :
  PI X tg (.Call (.Name "range" p) [a, b] [] pos) (iRng2 ta) := by
 intro pins s σ H R I h
 refine Call_ (ld_blt I hg hm boot_range (PyProof.Rows.callWith_type1 (thn (ha pos pins s σ H _ I h) fun us s1 ⟨vs, H1, I1, r1, q1⟩ => ?_) (by rw [hs, hs2]) (by rw [hs2]; rfl)))
 obtain ⟨i, j, e, ⟨q1, q2, q3, q4⟩, q⟩ := q1
 subst e
 cases r1 with
 | cons r rr =>
  cases rr with
  | cons r' rr =>
   cases rr
   obtain ⟨t, rfl⟩ := r
   obtain ⟨t', rfl⟩ := r'
   exact call_range_2 (range_it I1 q1 q2 q3 q4 q)
def tFor (wi : TI) (g : TG) (tb : TS) : TS := fun D σ H => wi σ H fun J H1 => ∃ W : Nat → Nat → St → Hp → Prop, (∃ m, W 0 m σ H1) ∧ ∀ i m σ H, W i m σ H →
 (J.stop i H ∧ D.nx σ H) ∨ (J.go i H ∧ ∃ N : St → Hp → Prop, (∀ σ' H', N σ' H' → ∃ m', m' < m ∧ W (i + 1) m' σ' H') ∧ ∀ x H', J.yld i H x H' → g x σ H' fun σ2 H2 => tb { D with nx := N, ct := N, bk := D.nx } σ2 H2)
def pinsAt (fp : List Addr) (h : Heap) : List (Addr × Obj) := fp.filterMap fun b => (h.get? b).map fun o => (b, o)
theorem mem_pinsAt {fp : List Addr} {h : Heap} {b : Addr} {o : Obj} (hb : b ∈ fp) (e : h.get? b = some o) : (b, o) ∈ pinsAt fp h := List.mem_filterMap.mpr ⟨b, hb, by rw [e]; rfl⟩
theorem of_pinsAt {fp : List Addr} {h : Heap} {p : Addr × Obj} (hp : p ∈ pinsAt fp h) : p.1 ∈ fp ∧ h.get? p.1 = some p.2 := by
 obtain ⟨b, hb, e⟩ := List.mem_filterMap.mp hp
 cases q : h.get? b with
 | none => rw [q] at e; cases e
 | some o =>
  rw [q] at e
  have e' : (b, o) = p := Option.some.inj e
  subst e'
  exact ⟨hb, q⟩
theorem Inv.pinned {pins : List (Addr × Obj)} {σ : St} {H : Hp} {s : Shared} {fp : List Addr} (I : Inv X pins σ H s) (hf : ∀ b ∈ fp, FpOk X pins H b) (ho : ∀ b ∈ fp, ∃ o, s.heap.get? b = some o ∧ ∀ v, o.data ≠ .cell v) : Inv X (pins ++ pinsAt fp s.heap) σ H s :=
 I.pins_of fun p hp => (List.mem_append.mp hp).elim (fun z => I.pin p (List.mem_append_right _ z)) fun z => by
  obtain ⟨hb, e⟩ := of_pinsAt z
  obtain ⟨f0, f1, f2, _⟩ := hf p.1 hb
  obtain ⟨o, e', d⟩ := ho p.1 hb
  rw [e] at e'; cases e'
  exact ⟨e, f0, f1, f2, d⟩
theorem Inv.unpinned {pins pl : List (Addr × Obj)} {σ : St} {H : Hp} {s : Shared} (I : Inv X (pins ++ pl) σ H s) : Inv X pins σ H s := I.pins_of fun p hp => I.pin p (List.mem_append_right _ (List.mem_append_left _ hp))
theorem ps_for {iter : Expr} {body : List Stmt} {wi : TI} {g : TG} {tb : TS} {pos : Pos} (hp : PassesOwn (model X.prog X.w) X.A X.env X.xe) (hc : X.calm = true) (hi : PI X tg iter wi) (hg : PG X tg g) (hb : PSs X body tb)
  (hs : ∀ x, foldedSetIterable iter X.env x = pure x := by intro _; rfl) : PS X (.For tg iter body [] pos) (tFor wi g tb) := by
 intro pins s σ H D I h
 refine wpAny_For (thn (hi pins s σ H _ I h) fun v s1 h1 => thn h1 fun itv s2 h2 => ?_) hs
 obtain ⟨it, fp, tn, J, H2, e, I2, T, st2, f2, W, ⟨m0, w0⟩, turn⟩ := h2
 subst e
 have stat : ∀ {H' : Hp}, (∀ b ∈ fp, H' b = none) → ∀ b ∈ fp, FpOk X pins H' b := fun hn b hb => ⟨hn b hb, (f2 b hb).2⟩
 refine codeAny_forLoop_any (fun n s' => ∃ i σ' H', Inv X pins σ' H' s' ∧ tn i s'.heap ∧ (∀ b ∈ fp, H' b = none) ∧ W i n σ' H') ?_ m0 ⟨0, σ, H2, I2, st2, fun b hb => (f2 b hb).1, w0⟩
 rintro n s3 ⟨i, σ3, H3, I3, st3, fr3, w3⟩
 rcases turn i n σ3 H3 w3 with ⟨stop, qn⟩ | ⟨go, N, hN, step⟩
 ·refine wpAny_passesOwn hp (thn (T.done X rfl rfl rfl hc i pins s3 σ3 H3 X.xe I3 (stat fr3) st3 stop) fun r s4 ⟨hr, I4⟩ => ?_)
  subst hr
  exact wpAny_execs_nil ⟨σ3, H3, I4, qn⟩
 ·refine wpAny_passesOwn hp (thn (T.item X rfl rfl rfl hc i pins s3 σ3 H3 X.xe I3 (stat fr3) st3 go) fun r s4 ⟨u, hr, h4⟩ => ?_)
  subst hr
  refine wpAny_passesOwn hp (thn h4 fun _ s5 ⟨x, H5, I5, r5, y5, st5, fr5⟩ => ?_)
  have I5' := I5.pinned (stat fr5) (T.obj _ _ st5)
  refine wpAny_passesOwn hp (thn (hg _ s5 σ3 H5 x u _ I5' r5 (step x H5 y5)) fun _ s6 ⟨σ6, H6, I6, q6⟩ => ?_)
  refine wpAny_passesOwn hp (thn (hb _ s6 σ6 H6 _ I6 q6) fun f s7 q7 => ?_)
  have again : ∀ {σ7 : St} {H7 : Hp}, Inv X (pins ++ pinsAt fp s5.heap) σ7 H7 s7 → N σ7 H7 → ∃ m, m < n ∧ ∃ i σ' H', Inv X pins σ' H' s7 ∧ tn i s7.heap ∧ (∀ b ∈ fp, H' b = none) ∧ W i m σ' H' := fun {σ7 H7} I7 n7 => by
   obtain ⟨m', hm, w7⟩ := hN σ7 H7 n7
   refine ⟨m', hm, i + 1, σ7, H7, I7.unpinned, T.keep _ _ _ st5 fun b hb o e => (I7.pin (b, o) (List.mem_append_right _ (List.mem_append_right _ (mem_pinsAt hb e)))).1, fun b hb => ?_, w7⟩
   obtain ⟨o, e, d⟩ := T.obj _ _ st5 b hb
   exact (I7.pin (b, o) (List.mem_append_right _ (List.mem_append_right _ (mem_pinsAt hb e)))).2.1
  cases f with
  | next => obtain ⟨σ7, H7, I7, n7⟩ := q7; exact again I7 n7
  | cont => obtain ⟨σ7, H7, I7, n7⟩ := q7; exact again I7 n7
  | brk => obtain ⟨σ7, H7, I7, q7⟩ := q7; exact ⟨σ7, H7, I7.unpinned, q7⟩
  | ret v => obtain ⟨x7, σ7, H7, I7, r7, q7⟩ := q7; exact ⟨x7, σ7, H7, I7.unpinned, r7, q7⟩
end
theorem for_list {K : PySem.W.Frag} {a : Addr} {xs : List V} {g : TG} {tb : TS} {D : Ends} {σ : St} {H : Hp} (Pv : Nat → St → Hp → Prop) (h0 : Pv 0 σ H) (hl : ∀ i σ H, i ≤ xs.length → Pv i σ H → SqL K H a xs)
  (hs : ∀ i x σ H, xs[i]? = some x → Pv i σ H → g x σ H fun σ2 H2 => tb { D with nx := Pv (i + 1), ct := Pv (i + 1), bk := D.nx } σ2 H2) (hd : ∀ σ H, Pv xs.length σ H → D.nx σ H) :
  ∃ W : Nat → Nat → St → Hp → Prop, (∃ m, W 0 m σ H) ∧ ∀ i m σ H, W i m σ H →
   ((Itl K a).stop i H ∧ D.nx σ H) ∨ ((Itl K a).go i H ∧ ∃ N : St → Hp → Prop, (∀ σ' H', N σ' H' → ∃ m', m' < m ∧ W (i + 1) m' σ' H') ∧ ∀ x H', (Itl K a).yld i H x H' → g x σ H' fun σ2 H2 => tb { D with nx := N, ct := N, bk := D.nx } σ2 H2) := by
 refine ⟨fun i m σ H => m = xs.length - i ∧ i ≤ xs.length ∧ Pv i σ H, ⟨xs.length, by simp, Nat.zero_le _, h0⟩, ?_⟩
 rintro i m σ H ⟨rfl, hi, p⟩
 have q := hl i σ H hi p
 by_cases hlt : i < xs.length
 ·refine .inr ⟨⟨xs, xs[i], q, by simp [hlt]⟩, Pv (i + 1), fun σ' H' p' => ⟨xs.length - (i + 1), by omega, rfl, hlt, p'⟩, fun x H' y => ?_⟩
  obtain ⟨e, y⟩ := y
  subst e
  exact hs i x σ _ (y xs q) p
 ·have e : i = xs.length := by omega
  subst e
  exact .inl ⟨⟨xs, q, Nat.le_refl _⟩, hd σ H p⟩
theorem for_range {lo : Int} {n : Nat} {g : TG} {tb : TS} {D : Ends} {σ : St} {H : Hp} (Pv : Nat → St → Hp → Prop) (h0 : Pv 0 σ H)
  (hs : ∀ i σ H, i < n → Pv i σ H → g (.int (lo + i)) σ H fun σ2 H2 => tb { D with nx := Pv (i + 1), ct := Pv (i + 1), bk := D.nx } σ2 H2) (hd : ∀ σ H, Pv n σ H → D.nx σ H) :
  ∃ W : Nat → Nat → St → Hp → Prop, (∃ m, W 0 m σ H) ∧ ∀ i m σ H, W i m σ H →
   ((Itr lo n).stop i H ∧ D.nx σ H) ∨ ((Itr lo n).go i H ∧ ∃ N : St → Hp → Prop, (∀ σ' H', N σ' H' → ∃ m', m' < m ∧ W (i + 1) m' σ' H') ∧ ∀ x H', (Itr lo n).yld i H x H' → g x σ H' fun σ2 H2 => tb { D with nx := N, ct := N, bk := D.nx } σ2 H2) := by
 refine ⟨fun i m σ H => m = n - i ∧ i ≤ n ∧ Pv i σ H, ⟨n, by simp, Nat.zero_le _, h0⟩, ?_⟩
 rintro i m σ H ⟨rfl, hi, p⟩
 by_cases hlt : i < n
 ·refine .inr ⟨hlt, Pv (i + 1), fun σ' H' p' => ⟨n - (i + 1), by omega, rfl, hlt, p'⟩, fun x H' y => ?_⟩
  obtain ⟨e, y⟩ := y
  subst e y
  exact hs i σ _ hlt p
 ·have e : i = n := by omega
  subst e
  exact .inl ⟨Nat.le_refl _, hd σ H p⟩
end L2
namespace L2
open PySem PySem.Spec PyProof.Rows
abbrev R2 := V → V → Hp → VK → Prop
def OpR (X : Cx) (f : Value → Value → Sem Value) (r : R2) : Prop :=
 ∀ (pins : List (Addr × Obj)) (s : Shared) (σ : St) (H : Hp) (x y : V) (v u : Value) (Q : VK), Inv X pins σ H s → RelV x v → RelV y u → r x y H Q →
  wpAny (model X.prog X.w) X.A (f v u) (EP X pins σ Q) X.xe s
def UnR (X : Cx) (f : Value → Sem Value) (r : V → Hp → VK → Prop) : Prop :=
 ∀ (pins : List (Addr × Obj)) (s : Shared) (σ : St) (H : Hp) (x : V) (v : Value) (Q : VK), Inv X pins σ H s → RelV x v → r x H Q →
  wpAny (model X.prog X.w) X.A (f v) (EP X pins σ Q) X.xe s
def CallR (X : Cx) (f : Value) (r : List V → Hp → VK → Prop) : Prop :=
 ∀ (pins : List (Addr × Obj)) (s : Shared) (σ : St) (H : Hp) (xs : List V) (us : List Value) (Q : VK), Inv X pins σ H s → Vals xs us → r xs H Q →
  wpAny (model X.prog X.w) X.A (call f us) (EP X pins σ Q) X.xe s
def tOp (r : R2) (ta tb : TE) : TE := fun σ H Q => ta σ H fun x H1 => tb σ H1 fun y H2 => r x y H2 Q
def tUn (r : V → Hp → VK → Prop) (ta : TE) : TE := fun σ H Q => ta σ H fun x H1 => r x H1 Q
def rI (C : Int → Int → Prop) (g : Int → Int → V) : R2 := fun x y H Q => ∃ i j, x = .int i ∧ y = .int j ∧ C i j ∧ Q (g i j) H
def rI0 (g : Int → Int → V) : R2 := fun x y H Q => ∃ i j, x = .int i ∧ y = .int j ∧ Q (g i j) H
def rU (g : Int → V) : V → Hp → VK → Prop := fun x H Q => ∃ i, x = .int i ∧ Q (g i) H
section
variable {X : Cx} {a b c : Expr} {ta tb tc : TE} {pos : Pos}
theorem binT (ha : PE X a ta) (hb : PE X b tb) {pins : List (Addr × Obj)} {s : Shared} {σ : St} {H : Hp} {R : V → V → Hp → Prop} (I : Inv X pins σ H s)
  (h : ta σ H fun x H1 => tb σ H1 fun y H2 => R x y H2) {Q : Value → Shared → Prop} {f : Value → Value → Sem Value}
  (hf : ∀ v u s2 x y H2, Inv X pins σ H2 s2 → RelV x v → RelV y u → R x y H2 → wpAny (model X.prog X.w) X.A (f v u) Q X.xe s2) :
  wpAny (model X.prog X.w) X.A (eval a X.env) (fun v s₁ => wpAny (model X.prog X.w) X.A (eval b X.env) (fun u s₂ => wpAny (model X.prog X.w) X.A (f v u) Q X.xe s₂) X.xe s₁) X.xe s := by
 refine thn (ha pins s σ H _ I h) fun v s1 ⟨x, H1, I1, r1, q1⟩ => ?_
 refine thn (hb pins s1 σ H1 _ I1 q1) fun u s2 ⟨y, H2, I2, r2, q2⟩ => ?_
 exact hf v u s2 x y H2 I2 r1 r2 q2
theorem pe_op {op : Operator} {r : R2} (ho : OpR X (binaryOp op) r) (ha : PE X a ta) (hb : PE X b tb) : PE X (.BinOp a op b pos) (tOp r ta tb) := by
 intro pins s σ H Q I h
 exact wpAny_BinOp (binT ha hb I h fun v u s2 x y H2 I2 rx ry q => ho pins s2 σ H2 x y v u Q I2 rx ry q)
theorem pe_un {op : UnaryOp} {r : V → Hp → VK → Prop} (ho : UnR X (unaryOp op) r) (ha : PE X a ta) : PE X (.UnaryOp op a pos) (tUn r ta) := by
 intro pins s σ H Q I h
 exact UnaryOp_ (thn (ha pins s σ H _ I h) fun v s1 ⟨x, H1, I1, r1, q1⟩ => ho pins s1 σ H1 x v Q I1 r1 q1)
theorem opI {f : Value → Value → Sem Value} {C : Int → Int → Prop} {g : Int → Int → Int}
  (rule : ∀ (i j : Int) (t u : Tok) (s : Shared) (Q : Value → Shared → Prop) (E : Value → Shared → Prop), C i j → Q (.int (g i j) s.toks) { s with toks := s.toks + 1 } → wpAny (model X.prog X.w) X.A (f (.int i t) (.int j u)) Q E s) :
  OpR X f (rI C fun i j => .int (g i j)) := by
 intro pins s σ H x y v u Q I rx ry h
 obtain ⟨i, j, rfl, rfl, hc, q⟩ := h
 obtain ⟨t, rfl⟩ := rx
 obtain ⟨t', rfl⟩ := ry
 exact rule i j t t' s _ _ hc ⟨.int (g i j), H, I.tok _, ⟨_, rfl⟩, q⟩
theorem opI0 {f : Value → Value → Sem Value} {g : Int → Int → Int}
  (rule : ∀ (i j : Int) (t u : Tok) (s : Shared) (Q : Value → Shared → Prop) (E : Value → Shared → Prop), Q (.int (g i j) s.toks) { s with toks := s.toks + 1 } → wpAny (model X.prog X.w) X.A (f (.int i t) (.int j u)) Q E s) :
  OpR X f (rI0 fun i j => .int (g i j)) := by
 intro pins s σ H x y v u Q I rx ry h
 obtain ⟨i, j, rfl, rfl, q⟩ := h
 obtain ⟨t, rfl⟩ := rx
 obtain ⟨t', rfl⟩ := ry
 exact rule i j t t' s _ _ ⟨.int (g i j), H, I.tok _, ⟨_, rfl⟩, q⟩
theorem opB0 {f : Value → Value → Sem Value} {g : Int → Int → Bool}
  (rule : ∀ (i j : Int) (t u : Tok) (s : Shared) (Q : Value → Shared → Prop) (E : Value → Shared → Prop), Q (.bool (g i j)) s → wpAny (model X.prog X.w) X.A (f (.int i t) (.int j u)) Q E s) :
  OpR X f (rI0 fun i j => .bl (g i j)) := by
 intro pins s σ H x y v u Q I rx ry h
 obtain ⟨i, j, rfl, rfl, q⟩ := h
 obtain ⟨t, rfl⟩ := rx
 obtain ⟨t', rfl⟩ := ry
 exact rule i j t t' s _ _ ⟨.bl (g i j), H, I, rfl, q⟩
def CDiv (i j : Int) : Prop := 0 < j ∧ j < 1073741824
def CPow (i j : Int) : Prop := 0 ≤ j ∧ j ≤ 1000000 ∧ i.natAbs < 2 ^ 64
def CMul (i j : Int) : Prop := (-(2 ^ 64) < i ∧ i < 2 ^ 64) ∨ (-(2 ^ 64) < j ∧ j < 2 ^ 64)
theorem CMul.ok {i j : Int} (h : CMul i j) : IntMulOk i j := by
 rcases h with ⟨h1, h2⟩ | ⟨h1, h2⟩
 ·exact .of_left (intBits_le_64 h1 h2)
 ·exact .of_right (intBits_le_64 h1 h2)
theorem op_add : OpR X (binaryOp .Add) (rI0 fun i j => .int (i + j)) := opI0 fun _ _ _ _ _ _ _ q => add_int q
theorem op_sub : OpR X (binaryOp .Sub) (rI0 fun i j => .int (i - j)) := opI0 fun _ _ _ _ _ _ _ q => sub_int q
theorem op_mul : OpR X (binaryOp .Mult) (rI CMul fun i j => .int (i * j)) := opI fun _ _ _ _ _ _ _ hc q => mul_int q hc.ok
theorem op_fdiv : OpR X (binaryOp .FloorDiv) (rI CDiv fun i j => .int (i / j)) := opI fun i j _ _ _ _ _ hc q => by
 have h1 : (0 : Int) < j := hc.1
 have h2 : j < 1073741824 := hc.2
 exact floordiv_int (by omega) (by rw [Int.fdiv_eq_ediv_of_nonneg i (by omega)]; exact q) (.inl (PyProof.noPylong_small (by omega)))
theorem op_mod : OpR X (binaryOp .Mod) (rI (fun _ j => 0 < j) fun i j => .int (i % j)) := opI fun i j _ _ _ _ _ hc q => by
 have h1 : (0 : Int) < j := hc
 exact mod_int' (by omega) (by rw [Int.fmod_eq_emod_of_nonneg i (by omega)]; exact q)
theorem op_pow : OpR X (binaryOp .Pow) (rI CPow fun i j => .int (i ^ j.toNat)) := opI fun _ _ _ _ _ _ _ hc q => pow_int_small hc.1 hc.2.1 hc.2.2 q
theorem op_shl : OpR X (binaryOp .LShift) (rI CPow fun i j => .int (i * 2 ^ j.toNat)) := opI fun _ _ _ _ _ _ _ hc q => lshift_int_small hc.1 hc.2.1 hc.2.2 q
theorem op_and : OpR X (binaryOp .BitAnd) (rI0 fun i j => .int (Builtin.bitAnd i j)) := opI0 fun _ _ _ _ _ _ _ q => and_int q
theorem unI {f : Value → Sem Value} {g : Int → Int}
  (rule : ∀ (i : Int) (t : Tok) (s : Shared) (Q : Value → Shared → Prop) (E : Value → Shared → Prop), Q (.int (g i) s.toks) { s with toks := s.toks + 1 } → wpAny (model X.prog X.w) X.A (f (.int i t)) Q E s) :
  UnR X f (rU fun i => .int (g i)) := by
 intro pins s σ H x v Q I rx h
 obtain ⟨i, rfl, q⟩ := h
 obtain ⟨t, rfl⟩ := rx
 exact rule i t s _ _ ⟨.int (g i), H, I.tok _, ⟨_, rfl⟩, q⟩
theorem un_neg : UnR X (unaryOp .USub) (rU fun i => .int (-i)) := unI fun _ _ _ _ _ q => neg_int q
end
def scal : V → V → Bool
 | .non, .non => true | .non, .int _ => true | .int _, .non => true | .non, .bl _ => true | .bl _, .non => true | .non, .str _ => true | .str _, .non => true
 | .int _, .int _ => true | .bl _, .bl _ => true | .str _, .str _ => true | .byt _, .byt _ => true
 | .int _, .str _ => true | .str _, .int _ => true | .bl _, .str _ => true | .str _, .bl _ => true
 | _, _ => false
def rEq : R2 := fun x y H Q => scal x y = true ∧ Q (.bl (decide (x = y))) H
def rNe : R2 := fun x y H Q => scal x y = true ∧ Q (.bl (!decide (x = y))) H
theorem dec_int {i j : Int} : decide (V.int i = V.int j) = (i == j) := by
 rw [Bool.eq_iff_iff]
 simp
theorem dec_bl {i j : Bool} : decide (V.bl i = V.bl j) = (i == j) := by
 rw [Bool.eq_iff_iff]
 simp
theorem dec_str {i j : Str} : decide (V.str i = V.str j) = (i == j) := by
 rw [Bool.eq_iff_iff]
 simp
theorem dec_byt {i j : Array UInt8} : decide (V.byt i = V.byt j) = (i.toList == j.toList) := by
 rw [Bool.eq_iff_iff]
 cases i
 cases j
 simp
section
variable {X : Cx} {a b c : Expr} {ta tb tc : TE} {pos : Pos}
theorem fin_bl {pins : List (Addr × Obj)} {σ : St} {H : Hp} {s : Shared} {Q : VK} {k k' : Bool} (I : Inv X pins σ H s) (q : Q (.bl k) H) (e : k = k') : EP X pins σ Q (.bool k') s := by
 subst e
 exact ⟨.bl k, H, I, rfl, q⟩
theorem op_eq : OpR X (compareOp .Eq) rEq := by
 intro pins s σ H x y v u Q I rx ry h
 obtain ⟨hs, q⟩ := h
 cases x with
 | non =>
  cases rx
  cases y with
  | non => cases ry; exact PySem.EqNone.eq_none_none (fin_bl I q (by simp))
  | bl j => cases ry; exact PySem.EqNone.eq_none_bool (fin_bl I q (by simp))
  | int j => obtain ⟨t', rfl⟩ := ry; exact PySem.EqNone.eq_none_int (fin_bl I q (by simp))
  | str j => obtain ⟨t', rfl⟩ := ry; exact PySem.EqNone.eq_none_str (fin_bl I q (by simp))
  | _ => exact absurd (show false = true from hs) Bool.false_ne_true
 | bl i =>
  cases rx
  cases y with
  | non => cases ry; exact PySem.EqNone.eq_bool_none (fin_bl I q (by simp))
  | bl j => cases ry; exact eq_bool (fin_bl I q dec_bl)
  | str j => obtain ⟨t', rfl⟩ := ry; exact PySem.EqMixed.eq_bool_str (fin_bl I q (by simp))
  | _ => exact absurd (show false = true from hs) Bool.false_ne_true
 | int i =>
  obtain ⟨t, rfl⟩ := rx
  cases y with
  | non => cases ry; exact PySem.EqNone.eq_int_none (fin_bl I q (by simp))
  | int j => obtain ⟨t', rfl⟩ := ry; exact eq_int (fin_bl I q dec_int)
  | str j => obtain ⟨t', rfl⟩ := ry; exact PySem.EqMixed.eq_int_str (fin_bl I q (by simp))
  | _ => exact absurd (show false = true from hs) Bool.false_ne_true
 | str i =>
  obtain ⟨t, rfl⟩ := rx
  cases y with
  | non => cases ry; exact PySem.EqNone.eq_str_none (fin_bl I q (by simp))
  | bl j => cases ry; exact PySem.EqMixed.eq_str_bool (fin_bl I q (by simp))
  | int j => obtain ⟨t', rfl⟩ := ry; exact PySem.EqMixed.eq_str_int (fin_bl I q (by simp))
  | str j => obtain ⟨t', rfl⟩ := ry; exact eq_str (fin_bl I q dec_str)
  | _ => exact absurd (show false = true from hs) Bool.false_ne_true
 | byt i =>
  obtain ⟨t, rfl⟩ := rx
  cases y with
  | byt j => obtain ⟨t', rfl⟩ := ry; exact PySem.W.eq_bytes (fin_bl I q dec_byt)
  | _ => exact absurd (show false = true from hs) Bool.false_ne_true
 | _ => cases y <;> exact absurd (show false = true from hs) Bool.false_ne_true
theorem op_ne : OpR X (compareOp .NotEq) rNe := by
 intro pins s σ H x y v u Q I rx ry h
 obtain ⟨hs, q⟩ := h
 cases x with
 | non =>
  cases rx
  cases y with
  | non => cases ry; exact PySem.EqNone.ne_none_none (fin_bl I q (by simp))
  | bl j => cases ry; exact PySem.EqNone.ne_none_bool (fin_bl I q (by simp))
  | int j => obtain ⟨t', rfl⟩ := ry; exact PySem.EqNone.ne_none_int (fin_bl I q (by simp))
  | str j => obtain ⟨t', rfl⟩ := ry; exact PySem.EqNone.ne_none_str (fin_bl I q (by simp))
  | _ => exact absurd (show false = true from hs) Bool.false_ne_true
 | bl i =>
  cases rx
  cases y with
  | non => cases ry; exact PySem.EqNone.ne_bool_none (fin_bl I q (by simp))
  | bl j => cases ry; exact ne_bool (fin_bl I q (congrArg not dec_bl))
  | str j => obtain ⟨t', rfl⟩ := ry; exact PySem.EqMixed.ne_bool_str (fin_bl I q (by simp))
  | _ => exact absurd (show false = true from hs) Bool.false_ne_true
 | int i =>
  obtain ⟨t, rfl⟩ := rx
  cases y with
  | non => cases ry; exact PySem.EqNone.ne_int_none (fin_bl I q (by simp))
  | int j => obtain ⟨t', rfl⟩ := ry; exact ne_int (fin_bl I q (congrArg not dec_int))
  | str j => obtain ⟨t', rfl⟩ := ry; exact PySem.EqMixed.ne_int_str (fin_bl I q (by simp))
  | _ => exact absurd (show false = true from hs) Bool.false_ne_true
 | str i =>
  obtain ⟨t, rfl⟩ := rx
  cases y with
  | non => cases ry; exact PySem.EqNone.ne_str_none (fin_bl I q (by simp))
  | bl j => cases ry; exact PySem.EqMixed.ne_str_bool (fin_bl I q (by simp))
  | int j => obtain ⟨t', rfl⟩ := ry; exact PySem.EqMixed.ne_str_int (fin_bl I q (by simp))
  | str j => obtain ⟨t', rfl⟩ := ry; exact ne_str (fin_bl I q (congrArg not dec_str))
  | _ => exact absurd (show false = true from hs) Bool.false_ne_true
 | byt i =>
  obtain ⟨t, rfl⟩ := rx
  cases y with
  | byt j => obtain ⟨t', rfl⟩ := ry; exact PySem.W.ne_bytes (fin_bl I q (congrArg not dec_byt))
  | _ => exact absurd (show false = true from hs) Bool.false_ne_true
 | _ => cases y <;> exact absurd (show false = true from hs) Bool.false_ne_true
theorem op_lt : OpR X (compareOp .Lt) (rI0 fun i j => .bl (decide (i < j))) := opB0 fun _ _ _ _ _ _ _ q => lt_int q
theorem op_le : OpR X (compareOp .LtE) (rI0 fun i j => .bl (decide (i ≤ j))) := opB0 fun _ _ _ _ _ _ _ q => le_int q
theorem op_gt : OpR X (compareOp .Gt) (rI0 fun i j => .bl (decide (j < i))) := opB0 fun _ _ _ _ _ _ _ q => gt_int q
theorem op_ge : OpR X (compareOp .GtE) (rI0 fun i j => .bl (decide (j ≤ i))) := opB0 fun _ _ _ _ _ _ _ q => ge_int q
theorem op_isN : OpR X (compareOp .Is) (fun x y H Q => y = .non ∧ Q (.bl (decide (x = .non))) H) := by
 intro pins s σ H x y v u Q I rx ry h
 obtain ⟨rfl, q⟩ := h
 cases ry
 refine is_none_gen (fin_bl I q ?_)
 cases x <;> first
  | (cases rx; rfl)
  | (obtain ⟨t, rfl⟩ := rx; rfl)
theorem nomark (b : Expr) {op : CmpOp} (h : op ≠ .In := by decide) (h2 : op ≠ .NotIn := by decide) : behindInMarks op b = false := by
 have e1 : (op == CmpOp.In) = false := by cases op <;> first | rfl | exact absurd rfl h
 have e2 : (op == CmpOp.NotIn) = false := by cases op <;> first | rfl | exact absurd rfl h2
 cases b <;> simp [behindInMarks, e1, e2]
theorem pe_cmpR {op : CmpOp} {r : R2} (ho : OpR X (compareOp op) r) (ha : PE X a ta) (hb : PE X b tb) (hm : behindInMarks op b = false) : PE X (.Compare a [op] [b] pos) (tOp r ta tb) := by
 intro pins s σ H Q I h
 exact wpAny_Compare1 (binT ha hb I h fun v u s2 x y H2 I2 rx ry q => ho pins s2 σ H2 x y v u Q I2 rx ry q) hm
def tTest (t : TE) : TT := fun σ H Q => t σ H fun x H' => ∃ k, x = .bl k ∧ Q k H'
theorem pt_cmpR {op : CmpOp} {r : R2} (ho : OpR X (compareOp op) r) (ha : PE X a ta) (hb : PE X b tb) (hm : behindInMarks op b = false) : PT X (.Compare a [op] [b] pos) (tTest (tOp r ta tb)) := by
 intro pins s σ H Q I h
 refine wpAny_isTrue_Compare1 (thn (ha pins s σ H _ I h) fun v s1 ⟨x, H1, I1, r1, q1⟩ => thn (hb pins s1 σ H1 _ I1 q1) fun u s2 ⟨y, H2, I2, r2, q2⟩ =>
  thn (ho pins s2 σ H2 x y v u _ I2 r1 r2 q2) fun c s3 ⟨z, H3, I3, r3, k, e, q3⟩ => ?_) hm
 subst e
 cases r3
 exact wpAny_truthy_bool ⟨H3, I3, q3⟩
def tChain (r r' : R2) (ta tb tc : TE) : TE := fun σ H Q => ta σ H fun x H1 => tb σ H1 fun y H2 => r x y H2 fun z H3 => ∃ k, z = .bl k ∧
 (if k = true then tc σ H3 fun w' H4 => r' y w' H4 Q else Q (.bl false) H3)
theorem pt_chain {op op' : CmpOp} {r r' : R2} (ho : OpR X (compareOp op) r) (ho' : OpR X (compareOp op') r') (ha : PE X a ta) (hb : PE X b tb) (hc : PE X c tc)
  (hm : lastMarks [op, op'] [b, c] = false := by with_unfolding_all rfl) : PT X (.Compare a [op, op'] [b, c] pos) (tTest (tChain r r' ta tb tc)) := by
 intro pins s σ H Q I h
 refine isTrue_chain (thn (ha pins s σ H _ I h) fun v s1 ⟨x, H1, I1, r1, q1⟩ => test_link (thn (hb pins s1 σ H1 _ I1 q1) fun u s2 ⟨y, H2, I2, r2, q2⟩ =>
  thn (ho pins s2 σ H2 x y v u _ I2 r1 r2 q2) fun d s3 ⟨z, H3, I3, r3, k, e, q3⟩ => ?_)) hm
 subst e
 cases r3
 refine wpAny_truthy_bool ?_
 cases k with
 | false =>
  obtain ⟨k', e', q'⟩ := q3
  cases e'
  exact ite_ff ⟨H3, I3, q'⟩
 | true =>
  refine ite_tt (test_last (thn (hc pins s3 σ H3 _ I3 q3) fun w' s4 ⟨z', H4, I4, r4, q4⟩ => thn (ho' pins s4 σ H4 y z' u w' _ I4 r2 r4 q4) fun d' s5 ⟨z2, H5, I5, r5, k2, e2, q5⟩ => ?_))
  subst e2
  cases r5
  exact wpAny_truthy_bool ⟨H5, I5, q5⟩
theorem line63 : (sizeLine : Nat) < 2 ^ 63 := by rw [sizeLine_eq]; decide
theorem vals1 {x : V} {us : List Value} (r : Vals [x] us) : ∃ u, us = [u] ∧ RelV x u := by
 cases r with
 | cons r1 r2 => cases r2; exact ⟨_, rfl, r1⟩
theorem vals2 {x y : V} {us : List Value} (r : Vals [x, y] us) : ∃ u w', us = [u, w'] ∧ RelV x u ∧ RelV y w' := by
 cases r with
 | cons r1 r2 =>
  cases r2 with
  | cons r3 r4 => cases r4; exact ⟨_, _, rfl, r1, r3⟩
theorem call_abs : CallR X (.builtin "abs") (fun xs H Q => ∃ i, xs = [.int i] ∧ Q (.int (if i < 0 then -i else i)) H) := by
 intro pins s σ H xs us Q I r h
 obtain ⟨i, rfl, q⟩ := h
 obtain ⟨u, rfl, t, rfl⟩ := vals1 r
 exact call_abs_int fun u tk => ⟨.int (if i < 0 then -i else i), H, I.tok _, ⟨_, rfl⟩, q⟩
theorem call_max2 (hc : X.calm = true) : CallR X (.builtin "max") (fun xs H Q => ∃ i j, xs = [.int i, .int j] ∧ Q (.int (if j > i then j else i)) H) := by
 intro pins s σ H xs us Q I r h
 obtain ⟨i, j, rfl, q⟩ := h
 obtain ⟨u, w', rfl, ⟨t, rfl⟩, ⟨t', rfl⟩⟩ := vals2 r
 refine max_two_ints (I.ok.hd hc) fun h' tk k => ⟨_, H, I.kept k, ?_, q⟩
 by_cases hj : j > i
 ·rw [if_pos hj, if_pos hj]; exact ⟨_, rfl⟩
 ·rw [if_neg hj, if_neg hj]; exact ⟨_, rfl⟩
theorem call_min2 (hc : X.calm = true) : CallR X (.builtin "min") (fun xs H Q => ∃ i j, xs = [.int i, .int j] ∧ Q (.int (if j < i then j else i)) H) := by
 intro pins s σ H xs us Q I r h
 obtain ⟨i, j, rfl, q⟩ := h
 obtain ⟨u, w', rfl, ⟨t, rfl⟩, ⟨t', rfl⟩⟩ := vals2 r
 refine min_two_ints (I.ok.hd hc) fun h' tk k => ⟨_, H, I.kept k, ?_, q⟩
 by_cases hj : j < i
 ·rw [if_pos hj, if_pos hj]; exact ⟨_, rfl⟩
 ·rw [if_neg hj, if_neg hj]; exact ⟨_, rfl⟩
theorem call_int1 : CallR X (.type "int") (fun xs H Q => (∃ i, xs = [.int i] ∧ Q (.int i) H) ∨ ∃ k, xs = [.bl k] ∧ Q (.int (if k then 1 else 0)) H) := by
 intro pins s σ H xs us Q I r h
 rcases h with ⟨i, rfl, q⟩ | ⟨k, rfl, q⟩
 ·obtain ⟨u, rfl, t, rfl⟩ := vals1 r
  exact call_int_int ⟨.int i, H, I, ⟨_, rfl⟩, q⟩
 ·obtain ⟨u, rfl, r1⟩ := vals1 r
  cases r1
  exact call_int_bool ⟨.int (if k then 1 else 0), H, I.tok _, ⟨_, rfl⟩, q⟩
end
end L2
namespace L2
open PySem PySem.Spec PyProof.Rows
structure ObjM (h : Heap) (x dx C : Addr) (mA : Str → Option Value) : Prop where
 obj : h.get? x = some (PySem.W.instObj C dx)
 ns : h.Ns1 dx mA
 ne : dx ≠ x
theorem lookIn_ns {h : Heap} {dx : Addr} {mA : Str → Option Value} (n : h.Ns1 dx mA) : ∃ od, h.get? dx = some od ∧ ∀ name, PySem.W.lookIn name od = some (mA name) := by
 obtain ⟨o, es, ep, ho, hd, hk, _, hm⟩ := n
 refine ⟨o, ho, fun name => ?_⟩
 have e := hm name
 unfold nsFind findBy at e
 rw [← Array.find?_toList] at e
 unfold PySem.W.lookIn
 rw [hd]
 dsimp only
 split
 ·rename_i y q
  rw [q] at e
  exact congrArg some e
 ·rename_i q
  rw [q] at e
  have a : es.toList.any (·.refKey) = false := by
   rw [List.any_eq_false]
   intro y hy
   obtain ⟨z, t, hkey⟩ := hk y (Array.mem_toList_iff.mp hy)
   simp [DictEntry.refKey, hkey]
  have a' : ¬ es.toList.any (·.refKey) = true := by rw [a]; exact Bool.false_ne_true
  rw [if_neg a']
  exact congrArg some e
theorem ObjM.look {h : Heap} {x dx C : Addr} {mA : Str → Option Value} (I : ObjM h x dx C mA) : ∃ od, PySem.W.InstAt h x (PySem.W.instObj C dx) C (some od) ∧ ∀ name, PySem.W.lookIn name od = some (mA name) :=
 let ⟨od, ho, hl⟩ := lookIn_ns I.ns
 ⟨od, ⟨I.obj, rfl, rfl, ho⟩, hl⟩
section
variable {prog : Program} {w : World} {A : Around} {E : Value → Shared → Prop} {s : Shared} {K : PySem.W.Frag} {x dx C f : Addr} {mA : Str → Option Value} {name : Str} {v : Value}
theorem get_map {expr : Bool} {Q : Value → Shared → Prop} (X : K.In s.heap) (I : ObjM s.heap x dx C mA) (hg : PySem.W.plainGet K C name = true) (hh : PySem.W.hasDictIn K C = true)
  (ha : PySem.W.findIn K (.ref C) name = some none) (hv : mA name = some v) (hv' : PySem.W.handedIn v = true) (h : Q v { s with toks := s.toks + 1 }) :
  wpAny (model prog w) A (getAttr (.ref x) name expr) Q E s := by
 obtain ⟨od, J, hl⟩ := I.look
 exact PySem.W.get_value X J (PySem.W.plainGet_of hg).1 (PySem.W.findObj_own hh ha rfl (by rw [hl, hv])) hv' h
theorem get_meth {pl : Sem Bool} {Q : Value × List Value → Shared → Prop} (X : K.In s.heap) (I : ObjM s.heap x dx C mA) (hg : PySem.W.plainGet K C name = true)
  (hf : PySem.W.findIn K (.ref C) name = some (some (.ref f))) (ht : PySem.W.isFn K (.ref f) = true) (hv : mA name = none) (h : Q (.ref f, [.ref x]) s) :
  wpAny (model prog w) A (getMethod (.ref x) name pl) Q E s := by
 obtain ⟨od, J, hl⟩ := I.look
 exact PySem.W.method_fn X J (PySem.W.plainGet_of hg).1 (PySem.W.plainGet_of hg).2 hf (beq_iff_eq.mp ht) (by show (PySem.W.lookIn name od).map (·.isSome) = some false; rw [hl, hv]; rfl) h
theorem set_map {ns : List Str} {Q : Unit → Shared → Prop} (X : K.In s.heap) (I : ObjM s.heap x dx C mA)
  (hs : PySem.W.findIn K (.ref C) "__setattr__" = some (some (.builtin "object.__setattr__"))) (hp : PySem.W.plainOver K C = true) (ht : PySem.W.takerIn K C name = some none) (hh : PySem.W.hasDictIn K C = true)
  (hw : PySem.Within mA ns) (hsz : ns.length ≤ sizeLine)
  (h : ∀ h', ObjM h' x dx C (fun y => if y = name then some v else mA y) → Heap.SameBut dx s.heap h' → Q () { s with heap := h', toks := s.toks + 2 }) :
  wpAny (model prog w) A (setAttr (.ref x) name v) Q E s := by
 obtain ⟨od, J, hl⟩ := I.look
 refine PySem.W.set_plain X J hs (PySem.W.osa_open (s := { s with toks := s.toks + 1 }) (r := none) X J hp ht fun b => ?_)
 obtain ⟨cd, hc, hd'⟩ := PySem.W.any_some hh
 have hx : s.heap.get? x = some ⟨.ref C, some dx, .plain, #[]⟩ := I.obj
 refine wpAny_bind (wpAny_pure (wpAny_bind (wpAny_bind (wpAny_loadPart hx (wpAny_bind (PySem.W.Looks.here (s := { s with toks := s.toks + 1 }) (PySem.W.looks_clsIn X hc) ?_))))))
 rw [hd']
 refine wpAny_pure (a := some dx) (wpAny_bind (wpAny_pure (wpAny_bind ?_)))
 refine wpAny_nsSet1 (s := { s with toks := s.toks + 1 }) I.ns fun h' hn2 hs2 => ?_
 obtain ⟨oD, esD, epD, hoD, hdD, hcD⟩ := hn2.count (PySem.Within.cons name v hw)
 refine wpAny_bind (wpAny_lookBehind hoD (by rw [hdD]; exact pastItsLine_dict (Nat.le_trans hcD (by rw [List.length_cons]; omega))) ?_)
 exact wpAny_pure (h _ ⟨(hs2.2 _ (Ne.symm I.ne)).trans I.obj, hn2, I.ne⟩ hs2)
theorem make_map {R : Result → Shared → Prop} {vs : List Value} {kw : List (Str × Value)} (X : K.In s.heap) (hm : PySem.W.makesIn K C = true)
  (hi : PySem.W.findIn K (.ref C) "__init__" = some (some (.ref f))) (hf : PySem.W.typeIn K (.ref f) = some (.type "function"))
  (h : codeAny (model prog w) (A.under (.builtin "type.__call__" ⟨.ref C :: vs, kw⟩)) (.call (.ref f) ⟨.ref (s.heap.objs.size + 1) :: vs, kw⟩) (PySem.W.InitBack (s.heap.objs.size + 1) R)
   { s with heap := (s.heap.push PySem.W.emptyDict).push (PySem.W.instObj C s.heap.objs.size) }) :
  codeAny (model prog w) A (.call (.ref C) ⟨vs, kw⟩) R s := by
 obtain ⟨hh, g, d, t, os⟩ := s
 exact PySem.W.make_core (PySem.W.makes_of X hm) (PySem.W.looks_findIn X hi) (fun self => PySem.W.bind_fn X self hf) (.inl rfl) h
end
def putF (f : Str) (v : V) : List (Str × V) → List (Str × V)
 | [] => [(f, v)]
 | (g, x) :: r => if g = f then (g, v) :: r else (g, x) :: putF f v r
theorem lookup_putF (f g : Str) (v : V) : ∀ fs : List (Str × V), (putF f v fs).lookup g = if g = f then some v else fs.lookup g
 | [] => by
  show List.lookup g [(f, v)] = _
  by_cases h : g = f
  ·have hb : (g == f) = true := beq_iff_eq.mpr h
   simp only [List.lookup, hb, if_pos h]
  ·have hb : (g == f) = false := beq_eq_false_iff_ne.mpr h
   simp only [List.lookup, hb, if_neg h]
 | (k, x) :: r => by
  have ih := lookup_putF f g v r
  rw [show putF f v ((k, x) :: r) = (if k = f then (k, v) :: r else (k, x) :: putF f v r) from rfl]
  by_cases hk : k = f
  ·rw [if_pos hk]
   by_cases h : g = k
   ·have hb : (g == k) = true := beq_iff_eq.mpr h
    simp only [List.lookup, hb, if_pos (h.trans hk)]
   ·have hb : (g == k) = false := beq_eq_false_iff_ne.mpr h
    simp only [List.lookup, hb, if_neg (fun e : g = f => h (e.trans hk.symm))]
  ·rw [if_neg hk]
   by_cases h : g = k
   ·have hb : (g == k) = true := beq_iff_eq.mpr h
    simp only [List.lookup, hb, if_neg (fun e : g = f => hk (h.symm.trans e))]
   ·have hb : (g == k) = false := beq_eq_false_iff_ne.mpr h
    simp only [List.lookup, hb]
    exact ih
theorem keys_putF (f : Str) (v : V) : ∀ fs : List (Str × V), f ∈ (putF f v fs).map (·.1) ∧ ∀ g, g ∈ fs.map (·.1) → g ∈ (putF f v fs).map (·.1)
 | [] => ⟨by simp [putF], fun g h => by simp at h⟩
 | (k, x) :: r => by
  obtain ⟨i1, i2⟩ := keys_putF f v r
  rw [show putF f v ((k, x) :: r) = (if k = f then (k, v) :: r else (k, x) :: putF f v r) from rfl]
  by_cases hk : k = f
  ·rw [if_pos hk]
   subst hk
   exact ⟨by simp, fun g h => by simpa using h⟩
  ·rw [if_neg hk]
   refine ⟨?_, fun g h => ?_⟩
   ·rw [List.map_cons]
    exact List.mem_cons_of_mem _ i1
   ·rw [List.map_cons] at h ⊢
    rcases List.mem_cons.mp h with e | e
    ·exact List.mem_cons.mpr (.inl e)
    ·exact List.mem_cons_of_mem _ (i2 g e)
theorem length_putF (f : Str) (v : V) : ∀ fs : List (Str × V), (putF f v fs).length ≤ fs.length + 1
 | [] => by simp [putF]
 | (k, x) :: r => by
  have ih := length_putF f v r
  rw [show putF f v ((k, x) :: r) = (if k = f then (k, v) :: r else (k, x) :: putF f v r) from rfl]
  by_cases hk : k = f
  ·rw [if_pos hk, List.length_cons, List.length_cons]; omega
  ·rw [if_neg hk, List.length_cons, List.length_cons]; omega
theorem RelO.some_of {v : V} {o : Option Value} (r : RelO (some v) o) : ∃ u, o = some u ∧ RelV v u := by
 cases o with
 | none => exact (show False from r).elim
 | some u => exact ⟨u, rfl, r⟩
theorem RelO.none_of {o : Option Value} (r : RelO none o) : o = none := by
 cases o with
 | none => rfl
 | some u => exact (show False from r).elim
theorem handed_of {v : V} {u : Value} (r : RelV v u) : PySem.W.handedIn u = true := by
 cases v with
 | non => cases (show u = Value.none from r); rfl
 | bl b => cases (show u = Value.bool b from r); rfl
 | int i => obtain ⟨t, e⟩ := (show ∃ t, u = Value.int i t from r); cases e; rfl
 | str x => obtain ⟨t, e⟩ := (show ∃ t, u = Value.str x t from r); cases e; rfl
 | byt b => obtain ⟨t, e⟩ := (show ∃ t, u = Value.bytes b t from r); cases e; rfl
 | flt b => obtain ⟨t, e⟩ := (show ∃ t, u = Value.float b t from r); cases e; rfl
 | ref a => cases (show u = Value.ref a from r); rfl
 | ty n => cases (show u = Value.type n from r); rfl
section
variable {P : Program} {w : World} {H H' : Hp} {h h' : Heap} {a C dx : Addr} {fs fs' : List (Str × V)}
theorem ins_get (hok : HOk P w H h) (e : H a = some (.ins C dx fs)) : ∃ mA, ObjM h a dx C mA ∧ (∀ f, RelO (fs.lookup f) (mA f)) ∧ PySem.Within mA (fs.map (·.1)) ∧ fs.length ≤ 1000 ∧ H dx = some (.own a) := by
 obtain ⟨d, z, ne, ob, mA, n, r, q⟩ := (show ObjOk P w H h a (.ins C dx fs) from hok a _ e)
 exact ⟨mA, ⟨ob, n, ne⟩, r, q, z, d⟩
end
structure Cls (K : PySem.W.Frag) (C : Addr) : Prop where
 pg : PySem.W.plainGet K C Str.empty = true
 hd : PySem.W.hasDictIn K C = true
 po : PySem.W.plainOver K C = true
 sa : PySem.W.findIn K (.ref C) "__setattr__" = some (some (.builtin "object.__setattr__"))
theorem Cls.get {K : PySem.W.Frag} {C : Addr} (c : Cls K C) (f : Str) : PySem.W.plainGet K C f = true := c.pg
def NoAttr (K : PySem.W.Frag) (C : Addr) (f : Str) : Prop := PySem.W.findIn K (.ref C) f = some none
theorem NoAttr.taker {K : PySem.W.Frag} {C : Addr} {f : Str} (n : NoAttr K C f) : PySem.W.takerIn K C f = some none := by
 unfold PySem.W.takerIn
 rw [show PySem.W.findIn K (.ref C) f = some none from n]
 rfl
structure Con (K : PySem.W.Frag) (C : Addr) (f : Str) (v : V) (u : Value) : Prop where
 at_ : PySem.W.findIn K (.ref C) f = some (some u)
 rel : RelV v u
 get : PySem.W.specialIn K u "__get__" = some none
 cp : PySem.W.copiedNames.contains f = false
structure Meth (K : PySem.W.Frag) (C : Addr) (m : Str) (f : Addr) : Prop where
 at_ : PySem.W.findIn K (.ref C) m = some (some (.ref f))
 fn : PySem.W.isFn K (.ref f) = true
 kp : PySem.W.keepIn K (.ref f) = true
section
variable {X : Cx} {pins : List (Addr × Obj)} {σ : St} {H : Hp} {s : Shared} {a C dx : Addr} {fs : List (Str × V)} {f : Str} {v : V} {A : Around} {E : Value → Shared → Prop}
theorem getattr_ok {b : Bool} {Q : Value → Shared → Prop} (I : Inv X pins σ H s) (e : H a = some (.ins C dx fs)) (c : Cls X.K C) (n : NoAttr X.K C f) (l : fs.lookup f = some v)
  (h : ∀ u s', Inv X pins σ H s' → RelV v u → Q u s') : wpAny (model X.prog X.w) A (getAttr (.ref a) f b) Q E s := by
 obtain ⟨mA, O, r, _, _, _⟩ := ins_get I.hok e
 obtain ⟨u, hu, ru⟩ := RelO.some_of (v := v) (o := mA f) (by rw [← l]; exact r f)
 exact get_map I.kIn O (c.get f) c.hd n hu (handed_of ru) (h u _ (I.tok _) ru)
theorem getmeth_ok {m : Str} {g : Addr} {pl : Sem Bool} {Q : Value × List Value → Shared → Prop} (I : Inv X pins σ H s) (e : H a = some (.ins C dx fs)) (c : Cls X.K C) (k : Meth X.K C m g) (l : fs.lookup m = none)
  (h : Q (.ref g, [.ref a]) s) : wpAny (model X.prog X.w) A (getMethod (.ref a) m pl) Q E s := by
 obtain ⟨mA, O, r, _, _, _⟩ := ins_get I.hok e
 have hn : mA m = none := RelO.none_of (by rw [← l]; exact r m)
 exact get_meth I.kIn O (c.get m) k.at_ k.fn hn h
theorem setattr_ok {y : V} {u : Value} {Q : Unit → Shared → Prop} (I : Inv X pins σ H s) (e : H a = some (.ins C dx fs)) (c : Cls X.K C) (n : NoAttr X.K C f) (hl : fs.length < 1000) (ry : RelV y u)
  (h : ∀ s', Inv X pins σ (upd H a (.ins C dx (putF f y fs))) s' → Q () s') : wpAny (model X.prog X.w) A (setAttr (.ref a) f u) Q E s := by
 obtain ⟨mA, O, r, wi, _, ho⟩ := ins_get I.hok e
 have hz : (fs.map (·.1)).length ≤ sizeLine := by rw [List.length_map, sizeLine_eq]; omega
 refine set_map I.kIn O c.sa c.po n.taker c.hd wi hz fun h' O' sb => h _ ?_
 have hd : ∃ o, h'.get? dx = some o := let ⟨o, _, _, e', _⟩ := O'.ns; ⟨o, e'⟩
 refine I.write (x := a) (e := dx) (by rw [e]; exact True.intro) (.inr ho) (fun b q hb z => (sb.2 b hb).trans z) hd ?_
 refine ⟨by rw [upd_ne O.ne]; exact ho, ?_, O.ne, O'.obj, _, O'.ns, fun g => ?_, fun g hg => ?_⟩
 ·have := length_putF f y fs; omega
 ·show RelO ((putF f y fs).lookup g) (if g = f then some u else mA g)
  rw [lookup_putF]
  by_cases q : g = f
  ·rw [if_pos q, if_pos q]; exact ry
  ·rw [if_neg q, if_neg q]; exact r g
 ·by_cases q : g = f
  ·rw [q]; exact (keys_putF f y fs).1
  ·refine (keys_putF f y fs).2 g (wi g fun z => hg ?_)
   show (if g = f then some u else mA g) = none
   rw [if_neg q]; exact z
theorem Inv.made (I : Inv X pins σ H s) : Inv X pins σ (upd (upd H s.heap.objs.size (.own (s.heap.objs.size + 1))) (s.heap.objs.size + 1) (.ins C s.heap.objs.size []))
  { s with heap := (s.heap.push PySem.W.emptyDict).push (PySem.W.instObj C s.heap.objs.size) } := by
 have e1 : (s.heap.push PySem.W.emptyDict).get? s.heap.objs.size = some PySem.W.emptyDict := Heap.get?_push_size s.heap rfl
 have e2 : ((s.heap.push PySem.W.emptyDict).push (PySem.W.instObj C s.heap.objs.size)).get? (s.heap.objs.size + 1) = some (PySem.W.instObj C s.heap.objs.size) := by
  have := Heap.get?_push_size (s.heap.push PySem.W.emptyDict) (o := PySem.W.instObj C s.heap.objs.size) rfl
  rwa [Heap.size_push] at this
 have e3 : (s.heap.push PySem.W.emptyDict).Ns s.heap.objs.size (fun _ => none) := ⟨PySem.W.emptyDict, #[], _, e1, rfl, (fun e he => absurd he (by simp)), fun _ => rfl⟩
 have I1 := I.laid (a := s.heap.objs.size) (o := .own (s.heap.objs.size + 1)) (h' := s.heap.push PySem.W.emptyDict) (t' := s.toks) (fun b u q => Heap.get?_push_of_some _ q) (Nat.le_refl _) ⟨_, e1⟩
 refine I1.laid (a := s.heap.objs.size + 1) (o := .ins C s.heap.objs.size []) (t' := s.toks) (fun b u q => Heap.get?_push_of_some _ q) (Nat.le_of_eq (Heap.size_push _ _)) ?_
 have ne : s.heap.objs.size ≠ s.heap.objs.size + 1 := Nat.ne_of_lt (Nat.lt_succ_self _)
 refine ⟨by rw [upd_ne ne, upd_same], Nat.zero_le _, ne, e2, fun _ => none, (Heap.Ns1.of_empty e3).at fun o q => Heap.get?_push_of_some _ q, fun _ => True.intro, fun y hy => absurd rfl hy⟩
theorem attr_of {prog : Program} {w : World} {env : Env} {e : Expr} {f : Str} {pos : Pos} {s : Shared} {Q : Value → Shared → Prop} (hb : attributeBase e f env (eval e env) = eval e env)
  (h : wpAny (model prog w) A (eval e env) (fun o s₁ => wpAny (model prog w) A (getAttr o f true) Q E s₁) E s) : wpAny (model prog w) A (eval (.Attribute e f pos) env) Q E s :=
 Attribute_any_ h (by rw [arm_eval_Attribute, hb])
end
def tFld (K : PySem.W.Frag) (ta : TE) (f : Str) : TE := fun σ H Q => ta σ H fun x H1 => ∃ a C dx fs v, x = .ref a ∧ H1 a = some (.ins C dx fs) ∧ Cls K C ∧ NoAttr K C f ∧ fs.lookup f = some v ∧ Q v H1
def sFld (K : PySem.W.Frag) (ta tv : TE) (f : Str) : TS := fun D σ H => tv σ H fun y H1 => ta σ H1 fun x H2 => ∃ a C dx fs, x = .ref a ∧ H2 a = some (.ins C dx fs) ∧ Cls K C ∧ NoAttr K C f ∧ fs.length < 1000 ∧
 D.nx σ (upd H2 a (.ins C dx (putF f y fs)))
section
variable {X : Cx} {o e value : Expr} {f : Str} {pos pos' tpos : Pos} {ta tv : TE}
theorem pe_fld (he : PE X e ta) (hb : attributeBase e f X.env (eval e X.env) = eval e X.env) : PE X (.Attribute e f pos) (tFld X.K ta f) := by
 intro pins s σ H Q I h
 refine attr_of hb (thn (he pins s σ H _ I h) fun u s1 ⟨x, H1, I1, rx, a, C, dx, fs, v, ex, ea, c, n, l, q⟩ => ?_)
 subst ex
 obtain rfl : u = Value.ref a := rx
 exact getattr_ok I1 ea c n l fun u' s2 I2 ru => ⟨v, H1, I2, ru, q⟩
theorem ps_fld (ha : PE X o ta) (hv : PE X value tv) (hs : swapsWith value (some (.Attribute o f pos')) pos.line X.env = pure false) : PS X (.Assign [.Attribute o f pos'] value pos) (sFld X.K ta tv f) := by
 intro pins s σ H D I h
 refine plainObj_wpAny_Assign_Attribute (thn (hv pins s σ H _ I h) fun u s1 ⟨y, H1, I1, ry, q⟩ => thn (ha pins s1 σ H1 _ I1 q) fun ov s2 ⟨x, H2, I2, rx, a, C, dx, fs, ex, ea, c, n, l, q2⟩ => ?_) hs
 subst ex
 obtain rfl : ov = Value.ref a := rx
 exact setattr_ok I2 ea c n l ry fun s3 I3 => ⟨σ, _, I3, q2⟩
end
section
variable {X : Cx} {pins : List (Addr × Obj)} {σ : St} {H : Hp} {s : Shared} {A : Around} {E : Value → Shared → Prop} {Q : Value → Shared → Prop} {c : Value} {b : Bool}
inductive TyOf (K : PySem.W.Frag) (H : Hp) : V → Value → Prop where
 | non : TyOf K H .non (.type "NoneType")
 | bl (x : Bool) : TyOf K H (.bl x) (.type "bool")
 | int (i : Int) : TyOf K H (.int i) (.type "int")
 | str (x : Str) : TyOf K H (.str x) (.type "str")
 | flt (x : UInt64) : TyOf K H (.flt x) (.type "float")
 | lst {a : Addr} {xs : List V} (e : H a = some (.lst xs)) : TyOf K H (.ref a) (.type "list")
 | frz {a : Addr} {o : Obj} {xs : List V} (e : H a = some (.frz o (.lst xs))) : TyOf K H (.ref a) (.type "list")
 | tup {a : Addr} {xs : List V} (e : H a = some (.tup xs)) : TyOf K H (.ref a) (.type "tuple")
 | dK {a : Addr} {kvs : List (Key × V)} (e : H a = some (.dK kvs)) : TyOf K H (.ref a) (.type "dict")
 | dT {a : Addr} {kvs : List (List Key × V)} (e : H a = some (.dT kvs)) : TyOf K H (.ref a) (.type "dict")
 | ins {a C dx : Addr} {fs : List (Str × V)} (e : H a = some (.ins C dx fs)) (cl : Cls K C) (ha : PySem.W.findIn K (.ref C) "__class__" = some (some (.builtin "object.__class__")))
   (hn : PySem.W.specialIn K (.builtin "object.__class__") "__get__" = some (some (.builtin "getset_descriptor.__get__"))) (htk : PySem.W.takesIn K (.builtin "object.__class__") = some true)
   (hm : PySem.W.mroIn K C (.type "object") = some true) : TyOf K H (.ref a) (.ref C)
theorem isinst_ok {x : V} {u t : Value} (I : Inv X pins σ H s) (rx : RelV x u) (ty : TyOf X.K H x t) (e : PySem.W.kitOne X.K t c = some b) (h : ∀ tk, Q (.bool b) { s with toks := tk }) :
  wpAny (model X.prog X.w) A (call (.builtin "isinstance") [u, c]) Q E s := by
 cases ty with
 | non => cases (show u = Value.none from rx); exact PySem.W.kia_one PySem.W.kitx_none I.kIn True.intro e (fun z => nomatch z) h
 | bl y => cases (show u = Value.bool y from rx); exact PySem.W.kia_one PySem.W.kitx_bool I.kIn True.intro e (fun z => nomatch z) h
 | int i => obtain ⟨t, q⟩ := (show ∃ t, u = Value.int i t from rx); cases q; exact PySem.W.kia_one PySem.W.kitx_int I.kIn True.intro e (fun z => nomatch z) h
 | str y => obtain ⟨t, q⟩ := (show ∃ t, u = Value.str y t from rx); cases q; exact PySem.W.kia_one PySem.W.kitx_str I.kIn True.intro e (fun z => nomatch z) h
 | flt y => obtain ⟨t, q⟩ := (show ∃ t, u = Value.float y t from rx); cases q; exact PySem.W.kia_one PySem.W.kitx_float I.kIn True.intro e (fun z => nomatch z) h
 | @lst a xs ea =>
  cases (show u = Value.ref a from rx)
  obtain ⟨_, _, n, _, h1⟩ := (show ObjOk X.prog X.w H s.heap a (.lst xs) from I.hok a _ ea)
  exact PySem.W.kia_one PySem.W.kitx_list I.kIn ⟨_, h1, rfl⟩ e (fun z => nomatch z) h
 | @frz a ob xs ea =>
  cases (show u = Value.ref a from rx)
  obtain ⟨_, _, _, n, _, h1⟩ := (show ObjOk X.prog X.w H s.heap a (.frz ob (.lst xs)) from I.hok a _ ea)
  exact PySem.W.kia_one PySem.W.kitx_list I.kIn ⟨_, h1, rfl⟩ e (fun z => nomatch z) h
 | @tup a xs ea =>
  cases (show u = Value.ref a from rx)
  obtain ⟨_, _, _, p⟩ := (show ObjOk X.prog X.w H s.heap a (.tup xs) from I.hok a _ ea)
  obtain ⟨o, h1, h2, _⟩ := p
  exact PySem.W.kia_one PySem.W.kitx_tuple I.kIn ⟨o, h1, h2⟩ e (fun z => nomatch z) h
 | @dK a kvs ea =>
  cases (show u = Value.ref a from rx)
  obtain ⟨_, _, vs, _, p⟩ := (show ObjOk X.prog X.w H s.heap a (.dK kvs) from I.hok a _ ea)
  obtain ⟨o, es, ep, h1, h2, _⟩ := p
  exact PySem.W.kia_one PySem.W.kitx_dict I.kIn ⟨o, h1, h2.1⟩ e (fun z => nomatch z) h
 | @dT a kvs ea =>
  cases (show u = Value.ref a from rx)
  obtain ⟨_, _, xs, _, o, es, ep, h1, h2, _⟩ := (show ObjOk X.prog X.w H s.heap a (.dT kvs) from I.hok a _ ea)
  exact PySem.W.kia_one PySem.W.kitx_dict I.kIn ⟨o, h1, h2.1⟩ e (fun z => nomatch z) h
 | @ins a C dx fs ea cl ha hn htk hm =>
  cases (show u = Value.ref a from rx)
  obtain ⟨mA, O, _⟩ := ins_get I.hok ea
  obtain ⟨od, J, _⟩ := O.look
  exact PySem.W.kia_one (PySem.W.kitx_own (cl.get _) cl.hd ha hn htk hm) I.kIn J e (fun z => nomatch z) h
end
end L2
namespace L2
open PySem PySem.Spec PyProof.Rows
structure Room (k : Nat) (A : Around) : Prop where
 hd : A.handled = none
 dp : A.depth + 3 * k + 5 < recursionLimit
 un : A.units + 16 * k + 200 < cLine
 gd : A.guards = some []
theorem Room.mono {j k : Nat} {A : Around} (r : Room k A) (h : j ≤ k) : Room j A := ⟨r.hd, by have := r.dp; omega, by have := r.un; omega, r.gd⟩
theorem Room.deeper {k : Nat} {A : Around} (r : Room (k + 1) A) (env : Env) : Room k (A.deeper env) :=
 ⟨r.hd, by have := r.dp; show A.depth + 1 + 3 * k + 5 < _; omega, by have := r.un; show A.units + 3 + 16 * k + 200 < _; omega, r.gd⟩
theorem make_depth {A : Around} {C : Addr} {us : List Value} {kw : List (Str × Value)} : (A.under (.builtin "type.__call__" ⟨.ref C :: us, kw⟩)).depth = A.depth + 1 := by
 first | rfl | simp [Around.under, Code.weight, Code.isCreation, Code.isGuard, Code.isCaller, Code.frames, Code.isFrame, guardIds]
theorem make_units {A : Around} {C : Addr} {us : List Value} {kw : List (Str × Value)} : (A.under (.builtin "type.__call__" ⟨.ref C :: us, kw⟩)).units = A.units + 1 := by
 first | rfl | simp [Around.under, Code.cUnits, Code.frames, Code.isFrame]
theorem Room.make {k : Nat} {A : Around} (r : Room (k + 1) A) (C : Addr) (us : List Value) (kw : List (Str × Value)) : Room k (A.under (.builtin "type.__call__" ⟨.ref C :: us, kw⟩)) :=
 ⟨r.hd, by have := r.dp; rw [make_depth]; omega, by have := r.un; rw [make_units]; omega, by first | exact r.gd | (simp [Around.under, Code.isGuard, guardIds]; exact r.gd)⟩
theorem Room.depth {k : Nat} {A : Around} (r : Room k A) : A.depth < recursionLimit := by have := r.dp; omega
theorem Room.units {k : Nat} {A : Around} (r : Room k A) : A.units + 64 < cLine := by have := r.un; omega
def tNil : TA := fun _ H Q => Q [] H
def tCons (ta : TE) (tr : TA) : TA := fun σ H Q => ta σ H fun x H1 => tr σ H1 fun xs H2 => Q (x :: xs) H2
section
variable {X : Cx} {e : Expr} {es : List Expr} {te : TE} {t : TA} {pos : Pos}
theorem pa_nil : PA X [] tNil := fun _ _ _ _ H Q I h => Calls.spliced_nil ⟨[], H, I, .nil, h⟩
theorem pa_cons (ha : PE X e te) (hr : PA X es t) (hs : starEach (e :: es) X.env = (false, eval e X.env) :: starEach es X.env := by rfl) : PA X (e :: es) (tCons te t) := by
 intro pos pins s σ H Q I h
 rw [hs]
 show wpAny _ _ (spliced ((false, eval e X.env) :: backTo pos (starEach es X.env))) _ _ s
 refine Calls.spliced_cons (thn (ha pins s σ H _ I h) fun u s1 ⟨x, H1, I1, r1, q1⟩ => ?_)
 exact thn (hr pos pins s1 σ H1 _ I1 q1) fun us s2 ⟨xs, H2, I2, r2, q2⟩ => ⟨x :: xs, H2, I2, .cons r1 r2, q2⟩
def tTup (t : TA) : TE := fun σ H Q => t σ H fun xs H1 => xs.length ≤ sizeLine ∧ ∀ p, H1 p = none → Q (.ref p) (upd H1 p (.tup xs))
def tLst (t : TA) : TE := fun σ H Q => t σ H fun xs H1 => xs.length ≤ sizeLine ∧ ∀ p, H1 p = none → Q (.ref p) (upd H1 p (.lst xs))
theorem pe_tup {x1} (h : PA X es t) : PE X (.Tuple es x1 pos) (tTup t) := by
 intro pins s σ H Q I hq
 refine wpAny_Tuple_spliced (thn (h pos pins s σ H _ I hq) fun us s1 ⟨xs, H1, I1, r, z, q⟩ => ⟨by rw [← r.length]; exact z, ?_⟩)
 have hf : H1 s1.heap.objs.size = none := I1.hok.fresh (Nat.le_refl _)
 refine ⟨.ref s1.heap.objs.size, upd H1 s1.heap.objs.size (.tup xs), I1.laid (t' := s1.toks) (fun b u e => Heap.get?_push_of_some _ e) (Nat.le_refl _) ?_, rfl, q _ hf⟩
 exact ⟨z, us, r, ⟨_, Heap.get?_push_size _ rfl, rfl, _, rfl⟩⟩
theorem pe_lst (h : PA X es t) : PE X (.List es pos) (tLst t) := by
 intro pins s σ H Q I hq
 refine wpAny_List_spliced (thn (h pos pins s σ H _ I hq) fun us s1 ⟨xs, H1, I1, r, z, q⟩ => ⟨by rw [← r.length]; exact z, ?_⟩)
 have hf : H1 s1.heap.objs.size = none := I1.hok.fresh (Nat.le_refl _)
 refine ⟨.ref s1.heap.objs.size, upd H1 s1.heap.objs.size (.lst xs), I1.laid (t' := s1.toks) (fun b u e => Heap.get?_push_of_some _ e) (Nat.le_refl _) ?_, rfl, q _ hf⟩
 exact ⟨z, us, 0, r, Heap.get?_push_size _ rfl⟩
end
abbrev Sp := List V → Hp → VK → XK → Prop
abbrev CXT := List Env → Hp → Shared → XK → Value → Shared → Prop
structure Env0 (P : Program) (w : World) (K : PySem.W.Frag) (mg : Str → Option Value) (base : Heap) (A : Around) (outer : List Env) (s : Shared) (H : Hp) : Prop where
 frames : A.frames = some outer
 mod : Mod K mg base
 bs : ∀ b o, base.get? b = some o → s.heap.get? b = some o ∧ H b = none
 bsz : base.objs.size ≤ s.heap.objs.size
 funs : s.heap.FunFrames base outer
 frf : ∀ b ∈ frs outer, H b = none
 hok : HOk P w H s.heap
 bare : AllBare s.gens
def CE (outer : List Env) (P : Program) (w : World) (H : Hp) (s : Shared) (Q : VK) (u : Value) (s' : Shared) : Prop :=
 ∃ v H', s'.os = s.os ∧ AllBare s'.gens ∧ Un (frs outer) [] H H' s.heap s'.heap ∧ HOk P w H' s'.heap ∧ RelV v u ∧ Q v H'
def CR (CX : CXT) (outer : List Env) (P : Program) (w : World) (H : Hp) (s : Shared) (Q : VK) (E : XK) (r : Result) (s' : Shared) : Prop :=
 match r with
 | .ok (.ret u) => CE outer P w H s Q u s'
 | .ok _ => False
 | .error e => CX outer H s E e s'
structure FnOk (P : Program) (w : World) (K : PySem.W.Frag) (mg : Str → Option Value) (base : Heap) (CX : CXT) (k : Nat) (f : Addr) (fd : FuncData) (ps : List Str) (sp : Sp) : Prop where
 len : ∀ vs H Q E, sp vs H Q E → vs.length = ps.length
 run : ∀ (A : Around) (outer : List Env) (s : Shared) (H : Hp) (args : Args) (us : List Value) (vs : List V) (Q : VK) (E : XK), Room k A → Env0 P w K mg base A outer s H → BindsTo s fd args (ps.zip us) → Vals vs us → sp vs H Q E →
  codeAny (model P w) A (.call (.ref f) args) (CR CX outer P w H s Q E) s
theorem FnOk.mono {P : Program} {w : World} {K : PySem.W.Frag} {mg : Str → Option Value} {base : Heap} {CX : CXT} {j k : Nat} {f : Addr} {fd : FuncData} {ps : List Str} {sp : Sp} (F : FnOk P w K mg base CX j f fd ps sp) (h : j ≤ k) :
  FnOk P w K mg base CX k f fd ps sp := ⟨F.len, fun A outer s H args us vs Q E hr => F.run A outer s H args us vs Q E (hr.mono h)⟩
theorem Env0.make {P : Program} {w : World} {K : PySem.W.Frag} {mg : Str → Option Value} {base : Heap} {A : Around} {outer : List Env} {s : Shared} {H : Hp} (e : Env0 P w K mg base A outer s H) (C : Addr) (us : List Value) (kw : List (Str × Value)) :
  Env0 P w K mg base (A.under (.builtin "type.__call__" ⟨.ref C :: us, kw⟩)) outer s H := ⟨by first | exact e.frames | (simpa [Around.under, Code.envs, Code.isFrame, pushEnvs] using e.frames), e.mod, e.bs, e.bsz, e.funs, e.frf, e.hok, e.bare⟩
section
variable {X : Cx} {pins : List (Addr × Obj)} {σ : St} {H : Hp} {s s' : Shared}
theorem Inv.env0 (I : Inv X pins σ H s) : Env0 X.prog X.w X.K X.mg X.base X.A X.stack s H :=
 ⟨I.ok.frames, I.ok.mod, I.bs, Nat.le_trans I.ok.bsz I.sz, I.stack, I.stkFree, I.hok, I.bare⟩
theorem Inv.after {Q : VK} {u : Value} (I : Inv X pins σ H s) (h : CE X.stack X.prog X.w H s Q u s') : EP X pins σ Q u s' := by
 obtain ⟨v, H', os, bare, un, hok, r, q⟩ := h
 obtain ⟨hh, g, d, t, os'⟩ := s'
 obtain rfl : os' = s.os := os
 exact ⟨v, H', I.call (h' := hh) (g' := g) (d' := d) (t' := t) (ch := []) un hok bare (fun b z => absurd z (by simp)), r, q⟩
end
def tCall (sp : Sp) (dvs : List V) (E : XK) (t : TA) : TE := fun σ H Q => t σ H fun vs H1 => sp (vs ++ dvs) H1 Q E
def tMeth (C : Addr) (m : Str) (sp : Sp) (dvs : List V) (E : XK) (ta : TE) (t : TA) : TE := fun σ H Q => ta σ H fun x H1 => ∃ a dx fs, x = .ref a ∧ H1 a = some (.ins C dx fs) ∧ fs.lookup m = none ∧
 t σ H1 fun vs H2 => sp (x :: (vs ++ dvs)) H2 Q E
def tMake (C : Addr) (sp : Sp) (dvs : List V) (E : XK) (t : TA) : TE := fun σ H Q => t σ H fun vs H1 => ∀ x dx, H1 x = none → H1 dx = none → dx ≠ x →
 sp (.ref x :: (vs ++ dvs)) (upd (upd H1 dx (.own x)) x (.ins C dx [])) (fun v H2 => v = .non ∧ Q (.ref x) H2) E
def Binds (K : PySem.W.Frag) (fd : FuncData) (ps : List Str) (ds : List Value) : Prop :=
 ∀ (s : Shared) (us : List Value), K.In s.heap → (us ++ ds).length = ps.length → BindsTo s fd ⟨us, []⟩ (ps.zip (us ++ ds))
theorem Binds.all {K : PySem.W.Frag} {fd : FuncData} {ps : List Str} (h : ∀ us : List Value, us.length = ps.length → bindArgs fd ⟨us, []⟩ = pure (ps.zip us)) : Binds K fd ps [] := fun s us _ hl => by
 rw [List.append_nil] at hl ⊢
 exact .of_eq (h us hl)
def Passes (CX : CXT) (X : Cx) (E : XK) : Prop := ∀ (pins : List (Addr × Obj)) (σ : St) (H : Hp) (s : Shared) (e : Value) (s' : Shared), Inv X pins σ H s → CX X.stack H s E e s' → X.xe e s'
section
variable {X : Cx} {CX : CXT} {k : Nat} {f C : Addr} {fd : FuncData} {ps : List Str} {sp : Sp} {dvs : List V} {ds : List Value} {E : XK} {x m : Str} {p pos apos : Pos} {e o : Expr} {es : List Expr} {ta : TE} {t : TA}
theorem run_fn {pins : List (Addr × Obj)} {σ : St} {H : Hp} {s : Shared} {Q : VK} {us : List Value} {vs : List V} (F : FnOk X.prog X.w X.K X.mg X.base CX k f fd ps sp) (hr : Room k X.A) (hb : Binds X.K fd ps ds) (hd : Vals dvs ds) (hx : Passes CX X E)
  (I : Inv X pins σ H s) (r : Vals vs us) (h : sp (vs ++ dvs) H Q E) : wpAny (model X.prog X.w) X.A (call (.ref f) us) (EP X pins σ Q) X.xe s := by
 have r2 : Vals (vs ++ dvs) (us ++ ds) := r.append hd
 have hl : (us ++ ds).length = ps.length := by rw [← r2.length]; exact F.len _ _ _ _ h
 refine wpAny_call (codeAny_mono (F.run X.A X.stack s H ⟨us, []⟩ (us ++ ds) (vs ++ dvs) Q E hr I.env0 (hb s us I.kIn hl) r2 h) fun r s' hq => ?_)
 cases r with
 | error e => exact hx pins σ H s e s' I hq
 | ok fl =>
  cases fl with
  | ret u => exact I.after hq
  | next => exact False.elim hq
  | brk => exact False.elim hq
  | cont => exact False.elim hq
theorem pe_call (F : FnOk X.prog X.w X.K X.mg X.base CX k f fd ps sp) (hr : Room k X.A) (hg : Gl X x) (hm : X.mg x = some (.ref f)) (hk : PySem.W.keepIn X.K (.ref f) = true) (hb : Binds X.K fd ps ds) (hd : Vals dvs ds) (hx : Passes CX X E)
  (ha : PA X (e :: es) t) (hdb : (x == ("__debug__" : Str)) = false := by decide) (he : starEach (e :: es) X.env = (false, eval e X.env) :: starEach es X.env := by rfl) (hpl : (backTo pos (starEach es X.env)).any (·.1) = false := by rfl) :
  PE X (.Call (.Name x p) (e :: es) [] pos) (tCall sp dvs E t) := by
 intro pins s σ H Q I h
 refine wpAny_Call_Name_kw (ld_glob I hg hm ?_ hdb)
 refine PySem.W.callWith_K (h₀ := X.base) I.ok.mod.kin hk (thn (ha pos pins s σ H _ I h) fun us s1 ⟨vs, H1, I1, r, q⟩ => ⟨I1.kIn, ?_⟩) he hpl
 exact run_fn F hr hb hd hx I1 r q
theorem pe_meth {pl : Sem Bool} (he : PE X o ta) (c : Cls X.K C) (hm : Meth X.K C m f) (F : FnOk X.prog X.w X.K X.mg X.base CX k f fd ps sp) (hr : Room k X.A) (hb : Binds X.K fd ps ds) (hd : Vals dvs ds) (hx : Passes CX X E) (ha : PA X (e :: es) t)
  (hst : starEach (e :: es) X.env = (false, eval e X.env) :: starEach es X.env := by rfl) (hpl : (backTo pos (starEach es X.env)).any (·.1) = false := by rfl)
  (ht : eval (.Call (.Attribute o m apos) (e :: es) [] pos) X.env = (do
   let ov ← eval o X.env
   standAt apos.atName
   let (f, first) ← holding [ov] (getMethod ov m pl)
   callWith pos f first (backTo pos (starEach (e :: es) X.env)) (backToKw pos (keywordEach [] X.env))) := by rfl) :
  PE X (.Call (.Attribute o m apos) (e :: es) [] pos) (tMeth C m sp dvs E ta t) := by
 intro pins s σ H Q I h
 refine PySem.W.methodCall_KW (pl := pl) (thn (he pins s σ H _ I h) fun u s1 ⟨x, H1, I1, rx, a, dx, fs, ex, ea, l, q⟩ => ?_) ht
 subst ex
 obtain rfl : u = Value.ref a := rx
 refine getmeth_ok I1 ea c hm l ?_
 refine PySem.W.callWith_K (first := [.ref a]) (h₀ := X.base) I.ok.mod.kin hm.kp (thn (ha pos pins s1 σ H1 _ I1 q) fun us s2 ⟨vs, H2, I2, r, q2⟩ => ⟨I2.kIn, ?_⟩) hst hpl
 exact run_fn (us := .ref a :: us) (vs := .ref a :: vs) F hr hb hd hx I2 (.cons rfl r) q2
structure Mk (K : PySem.W.Frag) (C f : Addr) : Prop where
 makes : PySem.W.makesIn K C = true
 init : PySem.W.findIn K (.ref C) "__init__" = some (some (.ref f))
 fn : PySem.W.isFn K (.ref f) = true
 kp : PySem.W.keepIn K (.ref C) = true
theorem run_make {pins : List (Addr × Obj)} {σ : St} {H : Hp} {s : Shared} {Q : VK} {us : List Value} {vs : List V} (M : Mk X.K C f) (F : FnOk X.prog X.w X.K X.mg X.base CX k f fd ps sp) (hr : Room (k + 1) X.A) (hb : Binds X.K fd ps ds) (hd : Vals dvs ds)
  (hx : Passes CX X E) (I : Inv X pins σ H s) (r : Vals vs us)
  (h : ∀ x dx, H x = none → H dx = none → dx ≠ x → sp (.ref x :: (vs ++ dvs)) (upd (upd H dx (.own x)) x (.ins C dx [])) (fun v H2 => v = .non ∧ Q (.ref x) H2) E) :
  wpAny (model X.prog X.w) X.A (call (.ref C) us) (EP X pins σ Q) X.xe s := by
 have hq := h (s.heap.objs.size + 1) s.heap.objs.size (I.hok.fresh (Nat.le_succ _)) (I.hok.fresh (Nat.le_refl _)) (Nat.ne_of_lt (Nat.lt_succ_self _))
 have I2 := Inv.made (C := C) I
 have r2 : Vals (V.ref (s.heap.objs.size + 1) :: (vs ++ dvs)) (Value.ref (s.heap.objs.size + 1) :: (us ++ ds)) := .cons rfl (r.append hd)
 have hl : (Value.ref (s.heap.objs.size + 1) :: us ++ ds).length = ps.length := by
  have e := r2.length
  rw [F.len _ _ _ _ hq] at e
  exact e.symm
 refine wpAny_call (make_map (f := f) I.kIn M.makes M.init (beq_iff_eq.mp M.fn) (codeAny_mono (F.run _ X.stack _ _ ⟨Value.ref (s.heap.objs.size + 1) :: us, []⟩ (Value.ref (s.heap.objs.size + 1) :: (us ++ ds)) _ _ E (hr.make C us [])
  (I2.env0.make C us []) (hb _ (Value.ref (s.heap.objs.size + 1) :: us) I2.kIn hl) r2 hq) fun r s' hq' => ?_))
 cases r with
 | error e => exact hx pins σ _ _ e s' I2 hq'
 | ok fl =>
  cases fl with
  | ret u =>
   obtain ⟨v, H', I3, rv, ev, q3⟩ := I2.after hq'
   subst ev
   exact ⟨rv, ⟨V.ref (s.heap.objs.size + 1), H', I3, rfl, q3⟩⟩
  | next => exact False.elim hq'
  | brk => exact False.elim hq'
  | cont => exact False.elim hq'
theorem pe_make (M : Mk X.K C f) (F : FnOk X.prog X.w X.K X.mg X.base CX k f fd ps sp) (hr : Room (k + 1) X.A) (hg : Gl X x) (hm : X.mg x = some (.ref C)) (hb : Binds X.K fd ps ds) (hd : Vals dvs ds) (hx : Passes CX X E)
  (ha : PA X (e :: es) t) (hdb : (x == ("__debug__" : Str)) = false := by decide) (he : starEach (e :: es) X.env = (false, eval e X.env) :: starEach es X.env := by rfl) (hpl : (backTo pos (starEach es X.env)).any (·.1) = false := by rfl) :
  PE X (.Call (.Name x p) (e :: es) [] pos) (tMake C sp dvs E t) := by
 intro pins s σ H Q I h
 refine wpAny_Call_Name_kw (ld_glob I hg hm ?_ hdb)
 refine PySem.W.callWith_K (h₀ := X.base) I.ok.mod.kin M.kp (thn (ha pos pins s σ H _ I h) fun us s1 ⟨vs, H1, I1, r, q⟩ => ⟨I1.kIn, ?_⟩) he hpl
 exact run_make M F hr hb hd hx I1 r q
end
section
variable {X : Cx} {CX : CXT} {k : Nat} {f C : Addr} {fd : FuncData} {ps ks : List Str} {sp : Sp} {E : XK} {x m : Str} {p pos apos kpos : Pos} {e o : Expr} {es : List Expr} {kws : List Keyword} {te ta : TE} {t tk : TA} {nm : Option Str}
structure KBinds (K : PySem.W.Frag) (fd : FuncData) (ps ks : List Str) (g : List Value → List Value → List Value) (gV : List V → List V → List V) : Prop where
 to : ∀ (s : Shared) (us ws : List Value), K.In s.heap → (g us ws).length = ps.length → BindsTo s fd ⟨us, ks.zip ws⟩ (ps.zip (g us ws))
 rel : ∀ {vs : List V} {us : List Value} {zs : List V} {ws : List Value}, Vals vs us → Vals zs ws → Vals (gV vs zs) (g us ws)
variable {g : List Value → List Value → List Value} {gV : List V → List V → List V}
end
structure FnScope (N P : List Str) (sc : Scope) : Prop where
 kind : sc.kind = .function
 co : sc.isCoroutine = false
 gen : sc.isGenerator = false
 nd : N.Nodup
 pre : N.take P.length = P
 par : ∀ x ∈ P, sc.names.lookup x = some .local ∨ sc.names.lookup x = some .cell
 nofree : ∀ y ∈ sc.names, y.2 ≠ .free
theorem bindL_out {kindOf : Str → Option NameKind} {x : Str} : ∀ {binds : List (Str × Value)} {m : Str → Option Value}, (∀ v, (x, v) ∉ binds) → bindL kindOf binds m x = m x
 | [], _, _ => rfl
 | (n, v) :: r, m, h => by
  unfold bindL
  rw [bindL_out fun w hw => h w (List.mem_cons_of_mem _ hw)]
  split
  ·have : x ≠ n := by rintro rfl; exact h v List.mem_cons_self
   simp [this]
  ·rfl
theorem bindC_out {kindOf : Str → Option NameKind} {x : Str} : ∀ {binds : List (Str × Value)} {m : Str → Option Value}, (∀ v, (x, v) ∉ binds) → bindC kindOf binds m x = m x
 | [], _, _ => rfl
 | (n, v) :: r, m, h => by
  unfold bindC
  rw [bindC_out fun w hw => h w (List.mem_cons_of_mem _ hw)]
  split
  ·rfl
  ·have : x ≠ n := by rintro rfl; exact h v List.mem_cons_self
   simp [this]
theorem bindL_get {kindOf : Str → Option NameKind} {x : Str} {v : Value} : ∀ {P : List Str} {vs : List Value} {i : Nat} {m : Str → Option Value}, P.Nodup → P[i]? = some x → vs[i]? = some v → kindOf x = some .local →
  bindL kindOf (P.zip vs) m x = some v
 | [], _, _, _, _, h, _, _ => by simp at h
 | _ :: _, [], _, _, _, _, h, _ => by simp at h
 | p :: P, w :: vs, 0, m, nd, h1, h2, hk => by
  simp at h1 h2; subst h1; subst h2
  show bindL kindOf ((p, w) :: P.zip vs) m p = _
  unfold bindL
  rw [bindL_out fun v hv => (List.nodup_cons.mp nd).1 (List.of_mem_zip hv).1, if_pos hk]
  simp
 | p :: P, w :: vs, i + 1, m, nd, h1, h2, hk => by
  show bindL kindOf ((p, w) :: P.zip vs) m x = _
  unfold bindL
  exact bindL_get (i := i) (List.nodup_cons.mp nd).2 (by simpa using h1) (by simpa using h2) hk
theorem bindC_get {kindOf : Str → Option NameKind} {x : Str} {v : Value} : ∀ {P : List Str} {vs : List Value} {i : Nat} {m : Str → Option Value}, P.Nodup → P[i]? = some x → vs[i]? = some v → kindOf x ≠ some .local →
  bindC kindOf (P.zip vs) m x = some v
 | [], _, _, _, _, h, _, _ => by simp at h
 | _ :: _, [], _, _, _, _, h, _ => by simp at h
 | p :: P, w :: vs, 0, m, nd, h1, h2, hk => by
  simp at h1 h2; subst h1; subst h2
  show bindC kindOf ((p, w) :: P.zip vs) m p = _
  unfold bindC
  rw [bindC_out fun v hv => (List.nodup_cons.mp nd).1 (List.of_mem_zip hv).1, if_neg hk]
  simp
 | p :: P, w :: vs, i + 1, m, nd, h1, h2, hk => by
  show bindC kindOf ((p, w) :: P.zip vs) m x = _
  unfold bindC
  exact bindC_get (i := i) (List.nodup_cons.mp nd).2 (by simpa using h1) (by simpa using h2) hk
def start (N : List Str) (vs : List V) : St := vs.map some ++ List.replicate (N.length - vs.length) none
def cxOf (CX : CXT) (P : Program) (w : World) (K : PySem.W.Frag) (mg : Str → Option Value) (base : Heap) (N : List Str) (qual : Str) (scope : Scope) (f : Addr) (cd : Value) (A : Around) (outer : List Env) (s : Shared) (H : Hp) (E : XK) : Cx where
 prog := P
 w := w
 K := K
 mg := mg
 base := base
 A := A.deeper (envOfC qual scope s.heap.objs.size f cd)
 N := N
 s₀ := s
 H₀ := H
 env := envOfC qual scope s.heap.objs.size f cd
 outer := outer
 stack := envOfC qual scope s.heap.objs.size f cd :: outer
 ex := []
 calm := true
 fn := fun _ => true
 pn := []
 xe := fun e s' => wpAny (model P w) (A.deeper (envOfC qual scope s.heap.objs.size f cd)) (leaving (envOfC qual scope s.heap.objs.size f cd) e) (fun _ s'' => CX outer H s E e s'') (fun e' s'' => CX outer H s E e' s'') s'
theorem cell_has {sc : Scope} {n : Nat} {x : Str} (h : sc.names.lookup x = some .cell) : ∃ c, (cellsFrom n sc.names []).lookup x = some c := by
 have q := PySem.W.cellsFrom_some sc.names n [] (.inl h)
 exact Option.isSome_iff_exists.mp q
theorem inv_start {CX : CXT} {P : Program} {w : World} {K : PySem.W.Frag} {mg : Str → Option Value} {base : Heap} {N ps : List Str} {qual : Str} {scope : Scope} {f : Addr} {cd : Value} {A : Around} {outer : List Env} {s s1 : Shared} {H : Hp} {E : XK} {us : List Value} {vs : List V}
  (S : FnScope N ps scope) (hd : A.handled = none) (e0 : Env0 P w K mg base A outer s H) (hl : vs.length = ps.length) (r : Vals vs us)
  (x : InCallC s s.heap.objs.size (bindL (envOfC qual scope s.heap.objs.size f cd).kindOf (ps.zip us) fun _ => none) (cellsFrom (s.heap.objs.size + 1) scope.names []) (bindC (envOfC qual scope s.heap.objs.size f cd).kindOf (ps.zip us) fun _ => none) s1) :
  Inv (cxOf CX P w K mg base N qual scope f cd A outer s H E) [] (start N vs) H s1 := by
 have hpl : ps.length ≤ N.length := by have := congrArg List.length S.pre; rw [List.length_take] at this; omega
 obtain ⟨h1, tk, rfl, hk⟩ := x.done
 have noA : ∀ b : Addr, b ∉ (cxOf CX P w K mg base N qual scope f cd A outer s H E).ex := fun b z => absurd (show b ∈ ([] : List Addr) from z) (by simp)
 refine ⟨⟨e0.mod, S.kind, rfl, rfl, Nat.le_refl _, fun y z c h1 h2 => ?_, fun y hy => ?_, fun y c _ h => ?_, fun _ => hd, Around.frames_deeper e0.frames, .inr ⟨rfl, rfl⟩, fun b z => absurd z (noA b), e0.bs, e0.bsz, fun b _ _ => noA b, fun b z => absurd z (noA b), e0.funs, e0.frf⟩,
  rfl, e0.bare, Un.kept hk, ⟨_, x.toInCall.ns, fun i y v h1 h2 h3 => ?_⟩, fun y c h => ⟨_, x.cell y c h⟩, e0.hok.fresh (Nat.le_refl _), fun y c h => ?_, fun p hp => absurd (show p ∈ ([] : List (Addr × Obj)) from hp) (by simp), e0.hok.kept hk, ?_⟩
 ·exact name_of_addr x.apart (PySem.mem_of_lookup h1) (PySem.mem_of_lookup h2)
 ·have hy : scope.names.lookup y = some .cell ∨ scope.names.lookup y = some .free := hy
  rcases hy with hy | hy
  ·exact cell_has hy
  ·exact absurd rfl (S.nofree _ (PySem.mem_of_lookup hy))
 ·exact Nat.le_of_lt (x.above y c (PySem.mem_of_lookup h))
 ·have hi : i < vs.length := by
   unfold start at h2
   by_cases hi : i < vs.length
   ·exact hi
   ·rw [List.getElem?_append_right (by simpa using hi)] at h2
    rw [List.getElem?_replicate] at h2
    split at h2 <;> cases h2
  have ha : vs[i]? = some v := by
   unfold start at h2
   rw [List.getElem?_append_left (by simpa using hi), List.getElem?_map] at h2
   cases e : vs[i]? with
   | none => rw [e] at h2; cases h2
   | some a => rw [e] at h2; cases h2; rfl
  obtain ⟨u, hu, rv⟩ := r.get ha
  have hp : ps[i]? = some y := by
   rw [← S.pre, List.getElem?_take_of_lt (by omega)]; exact h1
  have ndP : ps.Nodup := by rw [← S.pre]; exact S.nd.sublist (List.take_sublist _ _)
  refine ⟨u, rv, ?_⟩
  rcases S.par y (List.mem_of_getElem? hp) with k | k
  ·exact .inl ⟨k, bindL_get ndP hp hu k⟩
  ·obtain ⟨c, e⟩ := cell_has (n := s.heap.objs.size + 1) k
   refine .inr ⟨.inl k, c, e, ?_⟩
   have q := x.cell y c e
   rw [bindC_get ndP hp hu (by show scope.names.lookup y ≠ _; rw [k]; decide)] at q
   exact q
 ·exact e0.hok.fresh (Nat.le_of_lt (x.above y c (PySem.mem_of_lookup h)))
 ·unfold start
  show _ = N.length
  rw [List.length_append, List.length_map, List.length_replicate]
  omega
theorem fn_of {CX : CXT} {P : Program} {w : World} {K : PySem.W.Frag} {mg : Str → Option Value} {base : Heap} {k : Nat} {f : Addr} {name qual : Str} {params : Arguments} {body : List Stmt} {scope : Scope} {dV kV doc pm cdv ct oc : Value} {an od : Option Addr}
  {osl : Array (Option Value)} {N ps : List Str} {sp : Sp} (lk : K.lookup f = some ⟨oc, od, .func (PySem.W.fnOf name qual params body scope dV kV doc pm an cdv ct), osl⟩) (hcd : PySem.W.codeIn K cdv qual = true) (S : FnScope N ps scope)
  (len : ∀ vs H Q E, sp vs H Q E → vs.length = ps.length)
  (hbody : ∀ (A : Around) (outer : List Env) (s : Shared) (H : Hp) (vs : List V) (Q : VK) (E : XK), Room k (A.deeper (envOfC qual scope s.heap.objs.size f cdv)) → sp vs H Q E →
   ∃ t, PSs (cxOf CX P w K mg base N qual scope f cdv A outer s H E) body t ∧ t { nx := fun _ H' => Q .non H', rt := Q } (start N vs) H) :
  FnOk P w K mg base CX (k + 1) f (PySem.W.fnOf name qual params body scope dV kV doc pm an cdv ct) ps sp := by
 refine ⟨len, fun A outer s H args us vs Q E hr e0 hb r hsp => ?_⟩
 have hl := len _ _ _ _ hsp
 have KX : K.In s.heap := e0.mod.kin.keeps fun b o e => (e0.bs b o e).1
 have lim : s.heap.NoLimit := e0.mod.nolimit.keeps fun b o e => (e0.bs b o e).1
 have hkind : ∀ y ∈ ps.zip us, scope.names.lookup y.1 = some .local ∨ (scope.names.lookup y.1 = some .cell ∧ ((cellsFrom (s.heap.objs.size + 1) scope.names []).lookup y.1).isSome = true) := fun ⟨n, v⟩ hy => by
  rcases S.par n (List.of_mem_zip hy).1 with q | q
  ·exact .inl q
  ·exact .inr ⟨q, PySem.W.cellsFrom_some _ _ _ (.inl q)⟩
 refine codeAny_call_function hr.depth (KX _ _ lk) rfl S.co S.gen rfl (PySem.W.codeRec_of KX hcd) (hb _ _ _ _ ?_)
 refine wpAny_newFunctionEnv_cells S.kind hkind fun env he s1 x => ?_
 subst he
 refine ⟨lim.keeps x.toInCall.keep, codeAny_func ?_⟩
 obtain ⟨t, ht, hq⟩ := hbody A outer s H vs Q E (hr.deeper _) hsp
 have I : Inv (cxOf CX P w K mg base N qual scope f cdv A outer s H E) [] (start N vs) H s1 := inv_start S hr.hd e0 hl r x
 refine wpAny_mono (ht [] s1 (start N vs) H _ I hq) (fun fl s' hs => ?_) fun e s' hs => hs
 have fin : ∀ {σ' : St} {H' : Hp} {v : V} {u : Value}, Inv (cxOf CX P w K mg base N qual scope f cdv A outer s H E) [] σ' H' s' → RelV v u → Q v H' → CE outer P w H s Q u s' :=
  fun {σ' H' v u} J rv q => ⟨v, H', J.os, J.bare, J.base, J.hok, rv, q⟩
 cases fl with
 | ret u =>
  obtain ⟨v, σ', H', J, rv, q⟩ := hs
  exact fin J rv q
 | next =>
  obtain ⟨σ', H', J, q⟩ := hs
  exact fin (v := V.non) (u := Value.none) J rfl q
 | brk =>
  obtain ⟨_, _, _, q⟩ := hs
  exact False.elim q
 | cont =>
  obtain ⟨_, _, _, q⟩ := hs
  exact False.elim q
end L2
namespace L2
open PySem PySem.Spec PyProof.Rows
section
variable {X : Cx} {x : Str} {p pos : Pos} {e : Expr} {es : List Expr} {t : TA} {id T : String} {r : List V → Hp → VK → Prop}
def tCB (r : List V → Hp → VK → Prop) (t : TA) : TE := fun σ H Q => t σ H fun vs H1 => r vs H1 Q
theorem pe_callB (hc : CallR X (.builtin id) r) (hg : Gl X x) (hm : X.mg x = none) (hv : bootBuiltins x = some (.builtin id)) (ha : PA X (e :: es) t) (hn : x ≠ "__name__" := by decide) (hdb : (x == ("__debug__" : Str)) = false := by decide)
  (he : starEach (e :: es) X.env = (false, eval e X.env) :: starEach es X.env := by rfl) (hpl : (backTo pos (starEach es X.env)).any (·.1) = false := by rfl) : PE X (.Call (.Name x p) (e :: es) [] pos) (tCB r t) := by
 intro pins s σ H Q I h
 refine wpAny_Call_Name_kw (ld_blt I hg hm hv ?_ hn hdb)
 exact PyProof.Rows.callWith_builtin1 (thn (ha pos pins s σ H _ I h) fun us s1 ⟨vs, H1, I1, r1, q1⟩ => hc pins s1 σ H1 vs us Q I1 r1 q1) he hpl
theorem pe_callTy (hc : CallR X (.type T) r) (hg : Gl X x) (hm : X.mg x = none) (hv : bootBuiltins x = some (.type T)) (ha : PA X (e :: es) t) (hn : x ≠ "__name__" := by decide) (hdb : (x == ("__debug__" : Str)) = false := by decide)
  (he : starEach (e :: es) X.env = (false, eval e X.env) :: starEach es X.env := by rfl) (hpl : (backTo pos (starEach es X.env)).any (·.1) = false := by rfl) : PE X (.Call (.Name x p) (e :: es) [] pos) (tCB r t) := by
 intro pins s σ H Q I h
 refine wpAny_Call_Name_kw (ld_blt I hg hm hv ?_ hn hdb)
 exact PyProof.Rows.callWith_type1 (thn (ha pos pins s σ H _ I h) fun us s1 ⟨vs, H1, I1, r1, q1⟩ => hc pins s1 σ H1 vs us Q I1 r1 q1) he hpl
end
end L2
namespace HT
open PySem PyProof.Rows
section
open PySem.SeqAt
open PySem.AutoSeq1 (wpAny_loadPart')
open PySem.MeetsSeq PySem.MeetsSeq2 PySem.MeetsSeq3
end
section
variable {prog : Program} {w : World} {A : Around} {E : Value → Shared → Prop} {s : Shared}
theorem cat_tup {t b : Addr} {vs ws : List Value} {Q : Value → Shared → Prop} (ht : IsTup s.heap t vs.toArray) (hb : IsTup s.heap b ws.toArray) (hv : vs ≠ [])
  (h1 : ws = [] → Q (.ref t) s) (h2 : ws ≠ [] → Q (.ref s.heap.objs.size) { s with heap := s.heap.push { cls := .type "tuple", data := .seq (vs ++ ws).toArray } })
  (hsz : vs.length + ws.length ≤ sizeLine) : wpAny (model prog w) A (binaryOp .Add (.ref t) (.ref b)) Q E s := by
 obtain ⟨⟨cls, dd, data, sl⟩, ho, hc, n, hd⟩ := id ht
 obtain ⟨⟨cls2, dd2, data2, sl2⟩, ho2, hc2, n2, hd2⟩ := id hb
 simp only at hc hd hc2 hd2
 subst hc hd hc2 hd2
 have e : vs.toArray ++ ws.toArray = (vs ++ ws).toArray := by simp
 by_cases hw : ws = []
 ·exact concat_meets ⟨_, ho, rfl⟩ ⟨_, ho2, rfl⟩ noFill_tuple_add seq_tuple_add PySem.F.slot_tuple_add PySem.F.entry_tuple_add (PySem.F.args_tuple_add_2 _ _)
   (tuple_addW1 t b vs.toArray ws.toArray n n2 dd dd2 sl sl2 (by simpa using hv) (by simp [hw])) ⟨ho, ho2, h1 hw⟩
 ·refine concat_meets ⟨_, ho, rfl⟩ ⟨_, ho2, rfl⟩ noFill_tuple_add seq_tuple_add PySem.F.slot_tuple_add PySem.F.entry_tuple_add (PySem.F.args_tuple_add_2 _ _)
   (tuple_addW2 t b vs.toArray ws.toArray n n2 dd dd2 sl sl2 (by simpa using hv) (by simpa using hw) (by rw [List.size_toArray, List.size_toArray]; exact hsz)) ⟨ho, ho2, ?_⟩
  rw [e]
  exact h2 hw
def sIx (n d : Nat) : Option Int → Nat
 | none => d
 | some v => if v < 0 then (v + (n : Int)).toNat else min v.toNat n
theorem sIx_nat (n d k : Nat) : sIx n d (some (k : Int)) = min k n := by
 show (if (k : Int) < 0 then ((k : Int) + (n : Int)).toNat else min (k : Int).toNat n) = min k n
 rw [if_neg (by omega), Int.toNat_natCast]
theorem sIx_le (n d : Nat) (hd : d ≤ n) (o : Option Int) : sIx n d o ≤ n := by
 cases o with
 | none => exact hd
 | some v =>
  show (if v < 0 then (v + (n : Int)).toNat else min v.toNat n) ≤ n
  by_cases hv : v < 0
  ·rw [if_pos hv]; omega
  ·rw [if_neg hv]; exact Nat.min_le_right _ _
theorem clip_eq (v : Int) (n d : Nat) : (if v < 0 then max (v + (n : Int)) 0 else min v (n : Int)) = ((sIx n d (some v) : Nat) : Int) := by
 show (if v < 0 then max (v + (n : Int)) 0 else min v (n : Int)) = (((if v < 0 then (v + (n : Int)).toNat else min v.toNat n) : Nat) : Int)
 by_cases hv : v < 0
 ·simp only [if_pos hv]; omega
 ·simp only [if_neg hv]; omega
theorem adjust_gen (lo hi : Option Int) (n : Nat) : Builtin.Slice.sliceAdjust lo hi 1 (n : Int) = (((sIx n 0 lo : Nat) : Int), ((sIx n n hi : Nat) : Int)) := by
 have h1 : ¬ ((1 : Int) < 0) := by omega
 unfold Builtin.Slice.sliceAdjust
 simp only [h1, if_false]
 refine Prod.ext ?_ ?_
 ·cases lo with
  | none => rfl
  | some v => exact clip_eq v n 0
 ·cases hi with
  | none => rfl
  | some v => exact clip_eq v n n
theorem places_gen (i j : Nat) : Builtin.Slice.slicePlaces (i : Int) (j : Int) 1 = j - i := by
 unfold Builtin.Slice.slicePlaces
 have h1 : (1 : Int) > 0 := by omega
 simp only [h1, if_true, Int.ediv_one]
 split <;> omega
theorem slicePart_ {v : Value} {o : Option Int} {Q : Option Int → Shared → Prop} (p : IsPart v o) (h : Q o s) : wpAny (model prog w) A (Builtin.Slice.slicePartIndex v) Q E s := by
 cases p with
 | none => exact slicePart_none h
 | int i t => exact slicePart_int h
theorem sliceApplied_gen {sl : Addr} {vl vu : Value} {lo hi : Option Int} {n : Nat} {Q : Int × Int × Nat → Shared → Prop} (hs : s.heap.IsSliceOf sl vl vu .none) (pl : IsPart vl lo) (pu : IsPart vu hi)
  (h : Q (((sIx n 0 lo : Nat) : Int), 1, sIx n n hi - sIx n 0 lo) s) : wpAny (model prog w) A (Builtin.Slice.sliceApplied (.ref sl) (pure (n : Int))) Q E s := by
 obtain ⟨os, hos, hcs, hds⟩ := id hs
 unfold Builtin.Slice.sliceApplied Builtin.Slice.sliceFields
 refine wpAny_bind (wpAny_bind (wpAny_field hos hds (x := vl) rfl (wpAny_bind (wpAny_field hos hds (x := vu) rfl (wpAny_bind (wpAny_field hos hds (x := .none) rfl (wpAny_pure ?_)))))))
 refine wpAny_bind (slicePart_none ?_)
 show wpAny _ _ (if ((1 : Int) == 0) = true then _ else _) _ _ s
 rw [if_neg (by decide)]
 refine wpAny_bind (slicePart_ pl (wpAny_bind (slicePart_ pu (wpAny_bind (wpAny_pure ?_)))))
 show wpAny _ _ (match Builtin.Slice.sliceAdjust lo hi 1 (n : Int) with | (lo, hi) => pure (lo, (1 : Int), Builtin.Slice.slicePlaces lo hi 1)) _ _ s
 rw [adjust_gen lo hi n]
 show wpAny _ _ (pure (((sIx n 0 lo : Nat) : Int), (1 : Int), Builtin.Slice.slicePlaces ((sIx n 0 lo : Nat) : Int) ((sIx n n hi : Nat) : Int) 1)) _ _ s
 rw [places_gen]
 exact wpAny_pure h
theorem pick_gen (xs : Array Value) (i k : Nat) : ((List.range k).filterMap fun (m : Nat) => xs[((i : Int) + (m : Int) * 1).toNat]?).toArray = ((xs.toList.drop i).take k).toArray := by
 have e : (fun (m : Nat) => xs[((i : Int) + (m : Int) * 1).toNat]?) = fun m => xs[i + m]? := by
  funext m
  have : ((i : Int) + (m : Int) * 1).toNat = i + m := by omega
  rw [this]
 rw [e]
 have := pick_run xs i k
 rw [List.filterMap_map] at this
 have e2 : ((fun x => xs[x]?) ∘ fun x => i + x) = fun m => xs[i + m]? := rfl
 rw [e2] at this
 rw [this]
theorem getItem_tuple_cut {t sl : Addr} {items : Array Value} {vl vu : Value} {lo hi : Option Int} {Q : Value → Shared → Prop} (ht : IsTup s.heap t items) (hs : s.heap.IsSliceOf sl vl vu .none) (pl : IsPart vl lo) (pu : IsPart vu hi)
  (hw : ¬ (sIx items.size 0 lo = 0 ∧ sIx items.size items.size hi = items.size))
  (h : Q (.ref s.heap.objs.size) { s with heap := s.heap.push { cls := .type "tuple", data := .seq ((items.toList.drop (sIx items.size 0 lo)).take (sIx items.size items.size hi - sIx items.size 0 lo)).toArray } })
  (hsz : items.size ≤ sizeLine) : wpAny (model prog w) A (getItem (.ref t) (.ref sl)) Q E s := by
 have htake : sizeOk (.seq ((items.toList.drop (sIx items.size 0 lo)).take (sIx items.size items.size hi - sIx items.size 0 lo)).toArray) := by
  show ((items.toList.drop (sIx items.size 0 lo)).take (sIx items.size items.size hi - sIx items.size 0 lo)).toArray.size ≤ sizeLine
  rw [List.size_toArray, List.length_take, List.length_drop, Array.length_toList]
  omega
 have hj : sIx items.size items.size hi ≤ items.size := sIx_le _ _ (Nat.le_refl _) hi
 obtain ⟨os, hos, hcs, hds⟩ := id hs
 have hTs : s.TypeIs (.ref sl) "slice" := ⟨os, hos, hcs⟩
 unfold getItem
 try with_reducible refine wpAny_holding ?_
 first | refine wpAny_bind (wpAny_pure ?_) | skip
 refine wpAny_bind (wpAny_sequenceKey ht.typeIs (by decide) ?_)
 refine wpAny_bind (wpAny_callSpecial?_slot (name := Str.ofString "__getitem__") ht.typeIs PyProof.Rows.slot_tuple_getitem
  (wpAny_call_entry PyProof.Rows.slot_tuple_getitem ht.typeIs entry_tuple_getitem ?_ (args_tuple_getitem _ _)))
 show wpAny _ _ (Builtin.Tuple.tupleItemsOf (.ref t) >>= _) _ _ s
 refine wpAny_bind (tupleItemsOf_ ht ?_)
 refine wpAny_bind (wpAny_typeOf hTs ?_)
 rw [if_pos (by decide)]
 refine wpAny_bind (sliceApplied_gen hs pl pu ?_)
 have hno : ¬ ((((sIx items.size 0 lo : Nat) : Int) == 0 && (1 : Int) == 1 && (sIx items.size items.size hi - sIx items.size 0 lo) == items.size) = true) := by
  intro q
  rw [Bool.and_eq_true, Bool.and_eq_true] at q
  have q1 : ((sIx items.size 0 lo : Nat) : Int) = 0 := eq_of_beq q.1.1
  have q2 : sIx items.size items.size hi - sIx items.size 0 lo = items.size := eq_of_beq q.2
  exact hw ⟨by omega, by omega⟩
 show wpAny _ _ (if (((sIx items.size 0 lo : Nat) : Int) == 0 && (1 : Int) == 1 && (sIx items.size items.size hi - sIx items.size 0 lo) == items.size) = true then _ else _) _ _ s
 rw [if_neg hno, pick_gen]
 first
  | exact wpAny_bind (m := Builtin.Tuple.tupleExact _) (wpAny_newObj_type (wpAny_pure ⟨_, rfl, wpAny_pure h⟩) htake)
  | exact wpAny_bind (m := Builtin.Tuple.tupleExact _) (wpAny_newObj_type (wpAny_bind (wpAny_pure (wpAny_pure ⟨_, rfl, wpAny_pure h⟩))) htake)
  | exact wpAny_bind (wpAny_bind (m := Builtin.Tuple.tupleExact _) (wpAny_newObj_type (wpAny_pure (wpAny_pure ⟨_, rfl, wpAny_pure h⟩)) htake))
  | exact wpAny_bind (wpAny_bind (m := Builtin.Tuple.tupleExact _) (wpAny_newObj_type (wpAny_pure ⟨_, rfl, wpAny_pure h⟩) htake))
end
end HT
namespace L2
open PySem PySem.Spec PyProof.Rows
abbrev TO := St → Hp → (Option Int → Hp → Prop) → Prop
def PO (X : Cx) (e : Option Expr) (t : TO) : Prop :=
 ∀ (pins : List (Addr × Obj)) (s : Shared) (σ : St) (H : Hp) (Q : Option Int → Hp → Prop), Inv X pins σ H s → t σ H Q →
  wpAny (model X.prog X.w) X.A (evalPart e X.env) (fun u s' => ∃ o H', Inv X pins σ H' s' ∧ IsPart u o ∧ Q o H') X.xe s
def tNoPart : TO := fun _ H Q => Q none H
def tPart (t : TE) : TO := fun σ H Q => t σ H fun x H1 => ∃ i, x = .int i ∧ Q (some i) H1
section
variable {X : Cx} {e : Expr} {te : TE} {lo hi : Option Expr} {tl th : TO} {pos p2 : Pos}
theorem po_none : PO X none tNoPart := by
 intro pins s σ H Q I h
 rw [evalPart_none]
 exact wpAny_pure ⟨none, H, I, .none, h⟩
theorem po_some (h : PE X e te) : PO X (some e) (tPart te) := by
 intro pins s σ H Q I hw
 rw [evalPart_some]
 refine thn (h pins s σ H _ I hw) fun u s1 ⟨x, H1, I1, r1, q1⟩ => ?_
 obtain ⟨i, rfl, q⟩ := q1
 obtain ⟨t, rfl⟩ := r1
 exact ⟨some i, H1, I1, .int i t, q⟩
def SlR (X : Cx) (r : V → Option Int → Option Int → Hp → VK → Prop) : Prop :=
 ∀ (pins : List (Addr × Obj)) (s : Shared) (σ : St) (H : Hp) (x : V) (v vl vu : Value) (lo hi : Option Int) (sl : Addr) (Q : VK), Inv X pins σ H s → RelV x v → s.heap.IsSliceOf sl vl vu .none → IsPart vl lo → IsPart vu hi → r x lo hi H Q →
  ∃ T id, typeLookup (.type T) "__getitem__" = pure (some (.builtin id)) ∧ s.TypeIs v T ∧ wpAny (model X.prog X.w) X.A (getItem v (.ref sl)) (EP X pins σ Q) X.xe s
def tSl (r : V → Option Int → Option Int → Hp → VK → Prop) (te : TE) (tl th : TO) : TE := fun σ H Q => te σ H fun x H1 => tl σ H1 fun l H2 => th σ H2 fun u H3 => r x l u H3 Q
theorem pe_slice {r : V → Option Int → Option Int → Hp → VK → Prop} (hr : SlR X r) (he : PE X e te) (hl : PO X lo tl) (hu : PO X hi th) : PE X (.Subscript e (.Slice lo hi none p2) pos) (tSl r te tl th) := by
 intro pins s σ H Q I h
 refine Subscript_ (thn (he pins s σ H _ I h) fun v s1 ⟨x, H1, I1, r1, q1⟩ => ?_)
 refine wpAny_Slice (thn (hl pins s1 σ H1 _ I1 q1) fun vl s2 ⟨l, H2, I2, pl, q2⟩ => thn (hu pins s2 σ H2 _ I2 q2) fun vu s3 ⟨u, H3, I3, pu, q3⟩ => ?_)
 rw [evalPart_none]
 refine wpAny_pure ?_
 have I4 : Inv X pins σ H3 { s3 with heap := s3.heap.push { cls := .type "slice", data := .fields #[vl, vu, .none] } } := I3.kept (t' := s3.toks) fun b ob q => Heap.get?_push_of_some _ q
 obtain ⟨T, id, hT, ht, hg⟩ := hr pins { s3 with heap := s3.heap.push { cls := .type "slice", data := .fields #[vl, vu, .none] } } σ H3 x v vl vu l u s3.heap.objs.size Q I4 r1 (Heap.IsSliceOf.new ..) pl pu q3
 show wpAny (model X.prog X.w) X.A (subscriptTail e (.Slice lo hi none p2) v (.ref s3.heap.objs.size)) (EP X pins σ Q) X.xe { s3 with heap := s3.heap.push { cls := .type "slice", data := .fields #[vl, vu, .none] } }
 exact tail_any (ops := [.ref s3.heap.objs.size, v]) ht hT hg (by with_unfolding_all rfl)
def cutV (xs : List V) (lo hi : Option Int) : List V := (xs.drop (HT.sIx xs.length 0 lo)).take (HT.sIx xs.length xs.length hi - HT.sIx xs.length 0 lo)
theorem cutV_length (xs : List V) (lo hi : Option Int) : (cutV xs lo hi).length ≤ xs.length := by
 unfold cutV
 rw [List.length_take, List.length_drop]
 omega
def rSlT (K : PySem.W.Frag) : V → Option Int → Option Int → Hp → VK → Prop := fun x lo hi H Q => ∃ a xs, x = .ref a ∧ SqT K H a xs ∧
 ¬ (HT.sIx xs.length 0 lo = 0 ∧ HT.sIx xs.length xs.length hi = xs.length) ∧ ∀ p, H p = none → Q (.ref p) (upd H p (.tup (cutV xs lo hi)))
theorem sl_tup : SlR X (rSlT X.K) := by
 intro pins s σ H x v vl vu lo hi sl Q I rx hs pl pu h
 obtain ⟨a, xs, rfl, hx, hw, q⟩ := h
 cases rx
 obtain ⟨its, r, ht, hz⟩ := I.tuple hx
 have hlen : its.toArray.size = xs.length := by rw [List.size_toArray]; exact r.length.symm
 refine ⟨"tuple", _, PyProof.Rows.slot_tuple_getitem.lookup, ht.typeIs, ?_⟩
 refine HT.getItem_tuple_cut ht hs pl pu (by rw [hlen]; exact hw) ?_ (by rw [hlen]; exact hz)
 rw [hlen]
 refine ⟨.ref s.heap.objs.size, _, I.laid (t' := s.toks) (o := .tup (cutV xs lo hi)) (fun b ob q => Heap.get?_push_of_some _ q) (Nat.le_refl _) ?_, rfl, q _ (I.hok.fresh (Nat.le_refl _))⟩
 exact ⟨Nat.le_trans (cutV_length xs lo hi) hz, _, (r.drop (HT.sIx xs.length 0 lo)).take (HT.sIx xs.length xs.length hi - HT.sIx xs.length 0 lo), IsTup.new _ _⟩
theorem Vals.nil_iff {xs : List V} {us : List Value} (r : Vals xs us) : us = [] ↔ xs = [] := by
 cases r with
 | nil => simp
 | cons _ _ => simp
end
end L2
namespace L2
open PySem PySem.Spec PyProof.Rows
def ixN (n : Nat) (i : Int) : Option Nat := if 0 ≤ i then (if i < n then some i.toNat else none) else if -(n : Int) ≤ i then some (i + n).toNat else none
def atI {α : Type} (xs : List α) (i : Int) : Option α := (ixN xs.length i).bind fun j => xs[j]?
theorem ixN_seq {n : Nat} {i : Int} {j : Nat} (h : ixN n i = some j) : seqIndex? i n = some j ∧ j < n ∧ -(n : Int) ≤ i ∧ i < n := by
 unfold ixN at h
 by_cases h0 : 0 ≤ i
 ·rw [if_pos h0] at h
  by_cases h1 : i < n
  ·rw [if_pos h1] at h
   have e : i.toNat = j := Option.some.inj h
   exact ⟨by rw [seqIndex_of h0 h1, e], by omega, by omega, h1⟩
  ·rw [if_neg h1] at h; cases h
 ·rw [if_neg h0] at h
  by_cases h1 : -(n : Int) ≤ i
  ·rw [if_pos h1] at h
   have e : (i + n).toNat = j := Option.some.inj h
   exact ⟨by rw [seqIndex_neg (by omega) h1, e], by omega, h1, by omega⟩
  ·rw [if_neg h1] at h; cases h
theorem atI_get {α : Type} {xs : List α} {i : Int} {v : α} (h : atI xs i = some v) : ∃ j, seqIndex? i xs.length = some j ∧ xs[j]? = some v ∧ j < xs.length ∧ -(xs.length : Int) ≤ i ∧ i < xs.length := by
 unfold atI at h
 cases e : ixN xs.length i with
 | none => rw [e] at h; cases h
 | some j =>
  rw [e] at h
  obtain ⟨h1, h2, h3, h4⟩ := ixN_seq e
  exact ⟨j, h1, h, h2, h3, h4⟩
theorem atI_nat {α : Type} {xs : List α} {j : Nat} {v : α} (h : xs[j]? = some v) : atI xs (j : Int) = some v := by
 have hj : j < xs.length := (List.getElem?_eq_some_iff.mp h).1
 have e : ixN xs.length (j : Int) = some j := by
  unfold ixN
  rw [if_pos (by omega), if_pos (by omega)]; simp
 unfold atI; rw [e]; exact h
theorem atI_last {α : Type} (xs : List α) (v : α) : atI (xs ++ [v]) (-1) = some v := by
 have hl : (xs ++ [v]).length = xs.length + 1 := by simp
 have e : ixN (xs ++ [v]).length (-1) = some xs.length := by
  unfold ixN
  rw [hl, if_neg (by decide), if_pos (by omega)]
  congr 1
  omega
 unfold atI
 rw [e]
 show (xs ++ [v])[xs.length]? = some v
 simp
def PlainIx (b : Expr) : Prop := ∀ o i, subscripted b false o i = operate [o, i] (getItem o i)
def IxR (X : Cx) (r : R2) : Prop :=
 ∀ (value slice : Expr) (pins : List (Addr × Obj)) (s : Shared) (σ : St) (H : Hp) (x y : V) (v u : Value) (Q : VK), Inv X pins σ H s → RelV x v → RelV y u → r x y H Q →
  subscripted slice false v u = operate [v, u] (getItem v u) → wpAny (model X.prog X.w) X.A (subscriptTail value slice v u) (EP X pins σ Q) X.xe s
def MtR (X : Cx) (id : String) (r : V → List V → Hp → VK → Prop) : Prop :=
 ∀ (pins : List (Addr × Obj)) (s : Shared) (σ : St) (H : Hp) (x : V) (xs : List V) (v : Value) (us : List Value) (Q : VK), Inv X pins σ H s → RelV x v → Vals xs us → r x xs H Q →
  wpAny (model X.prog X.w) X.A (call (.builtin id) (v :: us)) (EP X pins σ Q) X.xe s
section
variable {X : Cx} {a b : Expr} {ta tb : TE} {pos : Pos}
theorem pe_ix {r : R2} (hr : IxR X r) (ha : PE X a ta) (hb : PE X b tb) (hs : PlainIx b) : PE X (.Subscript a b pos) (tOp r ta tb) := by
 intro pins s σ H Q I h
 exact Subscript_ (binT ha hb I h fun v u s2 x y H2 I2 rx ry q => hr a b pins s2 σ H2 x y v u Q I2 rx ry q (hs _ _))
def rIxL (K : PySem.W.Frag) : R2 := fun x y H Q => ∃ p xs i v, x = .ref p ∧ y = .int i ∧ SqL K H p xs ∧ atI xs i = some v ∧ Q v H
def rIxT (K : PySem.W.Frag) : R2 := fun x y H Q => ∃ p xs i v, x = .ref p ∧ y = .int i ∧ SqT K H p xs ∧ atI xs i = some v ∧ Q v H
theorem ix_list : IxR X (rIxL X.K) := by
 intro value slice pins s σ H x y v u Q I rx ry h hs
 obtain ⟨p, xs, i, z, rfl, rfl, hq, he, q⟩ := h
 cases rx
 obtain ⟨t, rfl⟩ := ry
 obtain ⟨its, r, pl, hz⟩ := I.list hq
 obtain ⟨j, h1, h2, h3, h4, h5⟩ := atI_get he
 obtain ⟨w, ew, rw'⟩ := r.get h2
 have hl := r.length
 have hn := line63
 have fin : EP X pins σ Q w s := ⟨z, H, I, rw', q⟩
 by_cases h0 : 0 ≤ i
 ·have hj : i.toNat = j := by
   rw [seqIndex_of h0 h5] at h1
   exact Option.some.inj h1
  exact item_listR pl.isList h0 (by omega) (by rw [hj]; simpa using ew) fin hs
 ·have hj : (i + (its.toArray.size : Int)).toNat = j := by
   rw [seqIndex_neg (by omega) h4] at h1
   rw [List.size_toArray, ← hl]
   exact Option.some.inj h1
  exact subscriptTail_builtinR (x := w) pl.isList.typeIs slot_list_getitem.lookup
   (wpAny_getItem_list_neg (Q := fun r s' => r = w ∧ EP X pins σ Q r s') pl.isList (by omega) (by rw [List.size_toArray] <;> omega) (by omega) (by rw [hj]; simpa using ew) ⟨rfl, fin⟩) hs
theorem ix_tup : IxR X (rIxT X.K) := by
 intro value slice pins s σ H x y v u Q I rx ry h hs
 obtain ⟨p, xs, i, z, rfl, rfl, hq, he, q⟩ := h
 cases rx
 obtain ⟨t, rfl⟩ := ry
 obtain ⟨its, r, pl, hz⟩ := I.tuple hq
 obtain ⟨j, h1, h2, h3, h4, h5⟩ := atI_get he
 obtain ⟨w, ew, rw'⟩ := r.get h2
 have hl := r.length
 have hn := line63
 have fin : EP X pins σ Q w s := ⟨z, H, I, rw', q⟩
 exact subscriptTail_builtinR (x := w) pl.typeIs slot_tuple_getitem.lookup
  (getItem_tuple (j := j) (Q := fun r s' => r = w ∧ EP X pins σ Q r s') pl (by omega) (by omega) (by rw [List.size_toArray, ← hl]; exact h1) (by simpa using ew) ⟨rfl, fin⟩) hs
theorem mapSeq_set (its : List Value) (n j : Nat) (u : Value) : Obj.mapSeq (·.setIfInBounds j u) { cls := .type "list", data := .seq its.toArray n } = { cls := .type "list", data := .seq (its.set j u).toArray n } := by
 simp [Obj.mapSeq]
theorem Inv.lst {pins : List (Addr × Obj)} {σ : St} {H : Hp} {s : Shared} {p : Addr} {xs : List V} (I : Inv X pins σ H s) (h : H p = some (.lst xs)) :
  ∃ (its : List Value) (n : Nat), Vals xs its ∧ s.heap.get? p = some { cls := .type "list", data := .seq its.toArray n } ∧ xs.length ≤ sizeLine := by
 obtain ⟨z, its, n, r, e⟩ := I.hok p _ h
 exact ⟨its, n, r, e, z⟩
theorem Inv.lstUpd {pins : List (Addr × Obj)} {σ : St} {H : Hp} {s : Shared} {p : Addr} {xs ys : List V} {its its' : List Value} {n n' : Nat} {f : Obj → Obj} (I : Inv X pins σ H s) (h : H p = some (.lst xs))
  (ho : s.heap.get? p = some { cls := .type "list", data := .seq its.toArray n }) (hf : f { cls := .type "list", data := .seq its.toArray n } = { cls := .type "list", data := .seq its'.toArray n' }) (r : Vals ys its') (hz : ys.length ≤ sizeLine) (t : Nat) :
  Inv X pins σ (upd H p (.lst ys)) { s with heap := s.heap.update p f, toks := t } := by
 have e : (s.heap.update p f).get? p = some { cls := .type "list", data := .seq its'.toArray n' } := by
  rw [Heap.get?_update_self f ho (by rw [hf] <;> rfl), hf]
 refine I.write (x := p) (e := p) (by rw [h]; trivial) (.inl rfl) (fun b u hb q => (Heap.get?_update_other _ _ (Ne.symm hb)).trans q) ⟨_, e⟩ ?_
 exact ⟨hz, its', n', r, e⟩
def rSetL : V → V → V → Hp → (Hp → Prop) → Prop := fun o i v H Q => ∃ p xs k j, o = .ref p ∧ i = .int k ∧ H p = some (.lst xs) ∧ ixN xs.length k = some j ∧ Q (upd H p (.lst (xs.set j v)))
theorem set_list : PSet X rSetL := by
 intro pins s σ H o i v ov iv u Q I ro ri rv h
 obtain ⟨p, xs, k, j, rfl, rfl, hp, hj, q⟩ := h
 cases ro
 obtain ⟨t, rfl⟩ := ri
 obtain ⟨its, n, r, ho, hz⟩ := I.lst hp
 obtain ⟨h1, h2, h3, h4⟩ := ixN_seq hj
 have hl := r.length
 have hn := line63
 have I' : Inv X pins σ (upd H p (.lst (xs.set j v))) { s with heap := s.heap.update p (Obj.mapSeq (·.setIfInBounds j u)) } :=
  I.lstUpd hp ho (mapSeq_set its n j u) (r.set rv j) (by rw [List.length_set]; exact hz) s.toks
 by_cases h0 : 0 ≤ k
 ·have hk : k.toNat = j := by
   rw [seqIndex_of h0 h4] at h1
   exact Option.some.inj h1
  exact PySem.W.ki_setAt ho h0 (by omega) (by rw [List.size_toArray, ← hl]; exact h4) (by rw [hk]; exact ⟨_, I', q⟩)
 ·have hk : (k + (its.toArray.size : Int)).toNat = j := by
   rw [seqIndex_neg (by omega) h3] at h1
   rw [List.size_toArray, ← hl]
   exact Option.some.inj h1
  exact PySem.W.ki_setBack ho (by omega) (by rw [List.size_toArray, ← hl]; exact h3) (by omega) (by rw [hk]; exact ⟨_, I', q⟩)
theorem slice_bounds (lo hi : Option Int) (n : Nat) : (sliceBounds lo hi none n).1 = ((HT.sIx n 0 lo : Nat) : Int) ∧ (sliceBounds lo hi none n).2.1 = ((HT.sIx n n hi : Nat) : Int) ∧ (sliceBounds lo hi none n).2.2 = 1 := by
 refine ⟨?_, ?_, rfl⟩
 ·cases lo with
  | none => simp [sliceBounds, HT.sIx]
  | some i =>
   simp only [sliceBounds, HT.sIx, Option.getD_none, show (1 : Int) > 0 by decide, if_true]
   by_cases h : i < 0
   ·simp only [h, if_true] <;> omega
   ·simp only [h, if_false] <;> omega
 ·cases hi with
  | none => simp [sliceBounds, HT.sIx]
  | some i =>
   simp only [sliceBounds, HT.sIx, Option.getD_none, show (1 : Int) > 0 by decide, if_true]
   by_cases h : i < 0
   ·simp only [h, if_true] <;> omega
   ·simp only [h, if_false] <;> omega
theorem slicePick_cut (its : List Value) (lo hi : Option Int) : slicePick its.toArray lo hi none = ((its.drop (HT.sIx its.length 0 lo)).take (HT.sIx its.length its.length hi - HT.sIx its.length 0 lo)).toArray := by
 obtain ⟨h1, h2, h3⟩ := slice_bounds lo hi its.toArray.size
 unfold slicePick
 rw [h1, h2, h3]
 simp only [sliceRange_one, pick_run, List.size_toArray] <;> rfl
def rSlL (K : PySem.W.Frag) : V → Option Int → Option Int → Hp → VK → Prop := fun x lo hi H Q => ∃ a xs, x = .ref a ∧ SqL K H a xs ∧ ∀ p, H p = none → Q (.ref p) (upd H p (.lst (cutV xs lo hi)))
theorem sl_list : SlR X (rSlL X.K) := by
 intro pins s σ H x v vl vu lo hi sl Q I rx hs pl pu h
 obtain ⟨a, xs, rfl, hx, q⟩ := h
 cases rx
 obtain ⟨its, r, ht, hz⟩ := I.list hx
 have hlen := r.length
 refine ⟨"list", _, slot_list_getitem.lookup, ht.isList.typeIs, ?_⟩
 refine wpAny_getItem_list_slice ht.isList hs pl pu .none (by simp) ?_ (by rw [List.size_toArray] <;> omega)
 rw [slicePick_cut, ← hlen]
 refine ⟨.ref s.heap.objs.size, _, I.laid (t' := s.toks) (o := .lst (cutV xs lo hi)) (fun b ob q => Heap.get?_push_of_some _ q) (Nat.le_refl _) ?_, rfl, q _ (I.hok.fresh (Nat.le_refl _))⟩
 exact ⟨Nat.le_trans (cutV_length xs lo hi) hz, _, 0, (r.drop (HT.sIx xs.length 0 lo)).take (HT.sIx xs.length xs.length hi - HT.sIx xs.length 0 lo), Heap.get?_push_size _ rfl⟩
def flatV : V → Bool
 | .non => true
 | .bl _ => true
 | .int _ => true
 | .str _ => true
 | _ => false
def eqV : V → V → Bool
 | .non, .non => true
 | .bl a, .bl b => a == b
 | .bl a, .int b => (if a then 1 else 0) == b
 | .int a, .bl b => a == (if b then 1 else 0)
 | .int a, .int b => a == b
 | .str a, .str b => a == b
 | _, _ => false
theorem eqAt_V {A : Around} {s : Shared} {y x : V} {u v : Value} (ry : RelV y u) (rx : RelV x v) (fy : flatV y = true) (fx : flatV x = true) : SeqAt.EqAt A s u v (eqV y x) := by
 cases y with
 | non =>
  cases ry
  cases x with
  | non => cases rx; exact SeqAt.EqAt.same _
  | bl b => cases rx; exact SeqAt.EqAt.none_bool b
  | int b => obtain ⟨t, rfl⟩ := rx; exact SeqAt.EqAt.none_int b t
  | str b => obtain ⟨t, rfl⟩ := rx; exact SeqAt.EqAt.none_str b t
  | _ => exact absurd (show false = true from fx) Bool.false_ne_true
 | bl a =>
  cases ry
  cases x with
  | non => cases rx; exact SeqAt.EqAt.bool_none a
  | bl b => cases rx; exact SeqAt.EqAt.bool_bool a b
  | int b => obtain ⟨t, rfl⟩ := rx; exact SeqAt.EqAt.bool_int a b t
  | str b => obtain ⟨t, rfl⟩ := rx; exact SeqAt.EqAt.bool_str a b t
  | _ => exact absurd (show false = true from fx) Bool.false_ne_true
 | int a =>
  obtain ⟨t', rfl⟩ := ry
  cases x with
  | non => cases rx; exact SeqAt.EqAt.int_none a t'
  | bl b => cases rx; exact SeqAt.EqAt.int_bool a t' b
  | int b => obtain ⟨t, rfl⟩ := rx; exact SeqAt.EqAt.int_int a t' b t
  | str b => obtain ⟨t, rfl⟩ := rx; exact SeqAt.EqAt.int_str a t' b t
  | _ => exact absurd (show false = true from fx) Bool.false_ne_true
 | str a =>
  obtain ⟨t', rfl⟩ := ry
  cases x with
  | non => cases rx; exact SeqAt.EqAt.str_none a t'
  | bl b => cases rx; exact SeqAt.EqAt.str_bool a t' b
  | int b => obtain ⟨t, rfl⟩ := rx; exact SeqAt.EqAt.str_int a t' b t
  | str b => obtain ⟨t, rfl⟩ := rx; exact SeqAt.EqAt.str_str a t' b t
  | _ => exact absurd (show false = true from fx) Bool.false_ne_true
 | _ => exact absurd (show false = true from fy) Bool.false_ne_true
def eqU (x : V) (u : Value) : Bool := match u with
 | .none => eqV .non x
 | .bool b => eqV (.bl b) x
 | .int i _ => eqV (.int i) x
 | .str z _ => eqV (.str z) x
 | _ => false
theorem eqU_of {x y : V} {u : Value} (r : RelV y u) (f : flatV y = true) : eqU x u = eqV y x := by
 cases y with
 | non => cases r; rfl
 | bl b => cases r; rfl
 | int i => obtain ⟨t, rfl⟩ := r; rfl
 | str z => obtain ⟨t, rfl⟩ := r; rfl
 | _ => exact absurd (show false = true from f) Bool.false_ne_true
theorem any_eqU {x : V} : ∀ {xs : List V} {us : List Value}, Vals xs us → xs.all flatV = true → us.any (eqU x) = xs.any fun y => eqV y x
 | _, _, .nil, _ => rfl
 | y :: xs, u :: us, .cons r t, f => by
  rw [List.all_cons, Bool.and_eq_true] at f
  rw [List.any_cons, List.any_cons, eqU_of r f.1, any_eqU t f.2]
theorem mem_eqAt {A : Around} {s : Shared} {x : V} {v : Value} (rx : RelV x v) (fx : flatV x = true) : ∀ {xs : List V} {us : List Value}, Vals xs us → xs.all flatV = true → ∀ u ∈ us, SeqAt.EqAt A s u v (eqU x u)
 | _, _, .nil, _ => fun u hu => by cases hu
 | y :: xs, u :: us, .cons r t, f => fun u' hu => by
  rw [List.all_cons, Bool.and_eq_true] at f
  rcases List.mem_cons.mp hu with rfl | hu
  ·rw [eqU_of r f.1]; exact eqAt_V r rx f.1 fx
  ·exact mem_eqAt rx fx t f.2 u' hu
def inV (x : V) (xs : List V) : Bool := xs.any fun y => eqV y x
def rIn (K : PySem.W.Frag) (neg : Bool) : R2 := fun x y H Q => ∃ p xs, y = .ref p ∧ (SqL K H p xs ∨ SqT K H p xs) ∧ flatV x = true ∧ xs.all flatV = true ∧ Q (.bl (if neg then !inV x xs else inV x xs)) H
theorem op_in_seq : OpR X (compareOp .In) (rIn X.K false) := by
 intro pins s σ H x y v u Q I rx ry h
 obtain ⟨p, xs, rfl, hq, fx, fs, q⟩ := h
 cases ry
 rcases hq with hq | hq
 ·obtain ⟨its, r, pl, hz⟩ := I.list hq
  refine SeqAt.in_listAt (eqU x) pl.isList (fun w hw => mem_eqAt rx fx r fs w (by simpa using hw)) ⟨.bl _, H, I, rfl, ?_⟩
  rw [show its.toArray.any (eqU x) = its.any (eqU x) by simp, any_eqU r fs]
  exact q
 ·obtain ⟨its, r, pl, hz⟩ := I.tuple hq
  refine SeqAt.in_tupleAt (eqU x) pl (fun w hw => mem_eqAt rx fx r fs w (by simpa using hw)) ⟨.bl _, H, I, rfl, ?_⟩
  rw [show its.toArray.any (eqU x) = its.any (eqU x) by simp, any_eqU r fs]
  exact q
theorem call_len_seq : CallR X (.builtin "len") (fun xs H Q => ∃ p ys, xs = [.ref p] ∧ (SqL X.K H p ys ∨ SqT X.K H p ys) ∧ Q (.int ys.length) H) := by
 intro pins s σ H xs us Q I r h
 obtain ⟨p, ys, rfl, hq, q⟩ := h
 obtain ⟨u, rfl, rx⟩ := vals1 r
 cases rx
 have hn := line63
 rcases hq with hq | hq
 ·obtain ⟨its, r', pl, hz⟩ := I.list hq
  have hlen := r'.length
  exact Calls.call_len_list pl.isList (by simp only [List.size_toArray] <;> omega) ⟨.int ys.length, H, I.tok _, ⟨s.toks + 1, by rw [List.size_toArray, hlen]⟩, q⟩
 ·obtain ⟨its, r', pl, hz⟩ := I.tuple hq
  have hlen := r'.length
  exact len_tuple pl (by simp only [List.size_toArray] <;> omega) ⟨.int ys.length, H, I.tok _, ⟨s.toks + 1, by rw [List.size_toArray, hlen]⟩, q⟩
theorem call_list_of : CallR X (.type "list") (fun xs H Q => ∃ p ys, xs = [.ref p] ∧ (SqL X.K H p ys ∨ SqT X.K H p ys) ∧ ∀ l, H l = none → Q (.ref l) (upd H l (.lst ys))) := by
 intro pins s σ H xs us Q I r h
 obtain ⟨p, ys, rfl, hq, q⟩ := h
 obtain ⟨u, rfl, rx⟩ := vals1 r
 cases rx
 have fin : ∀ (its : List Value), Vals ys its → ys.length ≤ sizeLine → ∀ (h' : Heap) (c' : Nat), (∀ b o', s.heap.get? b = some o' → h'.get? b = some o') →
   h'.get? s.heap.objs.size = some { cls := .type "list", dict := none, data := .seq its.toArray c', slots := #[] } → EP X pins σ Q (.ref s.heap.objs.size) { s with heap := h' } := fun its r' hz h' c' kp e =>
  ⟨.ref s.heap.objs.size, _, I.laid (t' := s.toks) kp (Nat.le_refl _) (show ObjOk X.prog X.w _ h' _ (.lst ys) from ⟨hz, its, c', r', e⟩), rfl, q _ (I.hok.fresh (Nat.le_refl _))⟩
 rcases hq with hq | hq
 ·obtain ⟨its, r', pl, hz⟩ := I.list hq
  have hlen := r'.length
  obtain ⟨o, ho, hc, n, hd⟩ := pl.isList
  exact call_list_seq p (.inl rfl) ho hc hd (fun h' c' kp e => fin its r' hz h' c' kp e) (by simp only [List.size_toArray] <;> omega)
 ·obtain ⟨its, r', pl, hz⟩ := I.tuple hq
  have hlen := r'.length
  obtain ⟨o, ho, hc, n, hd⟩ := pl
  exact call_list_seq p (.inr rfl) ho hc hd (fun h' c' kp e => fin its r' hz h' c' kp e) (by simp only [List.size_toArray] <;> omega)
theorem call_tuple_of : CallR X (.type "tuple") (fun xs H Q => ∃ p ys, xs = [.ref p] ∧ ((SqL X.K H p ys ∧ ∀ l, H l = none → Q (.ref l) (upd H l (.tup ys))) ∨ (SqT X.K H p ys ∧ Q (.ref p) H))) := by
 intro pins s σ H xs us Q I r h
 obtain ⟨p, ys, rfl, h⟩ := h
 obtain ⟨u, rfl, rx⟩ := vals1 r
 cases rx
 rcases h with ⟨hq, q⟩ | ⟨hq, q⟩
 ·obtain ⟨its, r', pl, hz⟩ := I.list hq
  have hlen := r'.length
  refine call_tuple_list pl.isList (fun h' kp => ?_) (by simp only [List.size_toArray] <;> omega)
  have I1 : Inv X pins σ H { s with heap := h' } := I.kept (t' := s.toks) kp
  have I2 : Inv X pins σ (upd H h'.objs.size (.tup ys)) { s with heap := h'.push { cls := .type "tuple", data := .seq its.toArray } } :=
   I1.laid (t' := s.toks) (fun b o e => Heap.get?_push_of_some _ e) (Nat.le_refl _) (show ObjOk X.prog X.w _ _ _ (.tup ys) from ⟨hz, its, r', IsTup.new _ _⟩)
  exact ⟨.ref h'.objs.size, _, I2, rfl, q _ (I1.hok.fresh (Nat.le_refl _))⟩
 ·obtain ⟨its, r', pl, hz⟩ := I.tuple hq
  exact call_tuple_same pl ⟨.ref p, H, I, rfl, q⟩
def tyV (K : PySem.W.Frag) (T : String) (x : V) (H : Hp) : Prop := match x with
 | .str _ => T = "str"
 | .int _ => T = "int"
 | .ref p => (T = "list" ∧ ∃ xs, SqL K H p xs) ∨ (T = "tuple" ∧ ∃ o, K.lookup p = some o ∧ o.cls = .type "tuple" ∧ o.dict = none) ∨
   (T = "dict" ∧ ((∃ kvs, H p = some (.dK kvs)) ∨ ∃ kvs, H p = some (.dT kvs))) ∨ (T = "set" ∧ ∃ S n, H p = some (.set S n))
 | _ => False
theorem tyV_is {pins : List (Addr × Obj)} {σ : St} {H : Hp} {s : Shared} {T : String} {x : V} {v : Value} (I : Inv X pins σ H s) (r : RelV x v) (ty : tyV X.K T x H) :
  s.TypeIs v T ∧ ∀ a, v = .ref a → ∃ ob, s.heap.get? a = some ob ∧ ob.dict = none := by
 cases x with
 | str z =>
  obtain ⟨t, rfl⟩ := r
  cases (show T = "str" from ty)
  exact ⟨typeIs_str s z t, fun _ e => nomatch e⟩
 | int i =>
  obtain ⟨t, rfl⟩ := r
  cases (show T = "int" from ty)
  exact ⟨typeIs_int s i t, fun _ e => nomatch e⟩
 | ref p =>
  cases r
  rcases ty with ⟨rfl, xs, hq⟩ | ⟨rfl, o, hk, hc, hd⟩ | ⟨rfl, hk⟩ | ⟨rfl, S, n, hk⟩
  ·obtain ⟨its, _, pl, _⟩ := I.list hq
   refine ⟨pl.isList.typeIs, fun a e => ?_⟩
   cases e
   obtain ⟨o, n, e, c, hd, _⟩ := pl
   exact ⟨o, e, hd⟩
  ·refine ⟨⟨o, I.kIn p o hk, hc⟩, fun a e => ?_⟩
   cases e
   exact ⟨o, I.kIn _ o hk, hd⟩
  ·have z : ∃ o, s.heap.get? p = some o ∧ o.ExactDict := by
    rcases hk with ⟨kvs, hk⟩ | ⟨kvs, hk⟩
    ·obtain ⟨_, _, _, _, o, _, _, e, ex, _⟩ := I.hok p _ hk
     exact ⟨o, e, ex⟩
    ·obtain ⟨_, _, _, _, o, _, _, e, ex, _⟩ := I.hok p _ hk
     exact ⟨o, e, ex⟩
   obtain ⟨o, e, ex⟩ := z
   refine ⟨⟨o, e, ex.1⟩, fun a e2 => ?_⟩
   cases e2
   exact ⟨o, e, ex.2.1⟩
  ·obtain ⟨o, _, _, _, e, ex, _⟩ := I.hok p _ hk
   refine ⟨⟨o, e, ex.1⟩, fun a e2 => ?_⟩
   cases e2
   exact ⟨o, e, ex.2.1⟩
 | _ => exact False.elim ty
def tBM (K : PySem.W.Frag) (T : String) (r : V → List V → Hp → VK → Prop) (to : TE) (t : TA) : TE := fun σ H Q => to σ H fun x H1 => tyV K T x H1 ∧ t σ H1 fun xs H2 => r x xs H2 Q
variable {o e : Expr} {es : List Expr} {to : TE} {t : TA} {name : Str} {apos cpos : Pos} {T id : String} {r : V → List V → Hp → VK → Prop}
theorem pe_bm (pa : PlainAttrs T) (slot : Slot T name id) (hty : typeOf (.builtin id) = pure (.type "method_descriptor")) (hm : MtR X id r) (ho : PE X o to) (ha : PA X (e :: es) t)
  (hbase : attributeBase o name X.env (eval o X.env) = eval o X.env := by rfl)
  (hfew : ((backTo cpos (starEach (e :: es) X.env)).all (fun x => !x.1) && (backToKw cpos (keywordEach [] X.env)).all (fun x => x.1.isSome)
   && decide ((e :: es).length + ([] : List Keyword).length + (if ([] : List Keyword).isEmpty then 0 else 1) < 30)) = true := by rfl)
  (hline : (apos.endLine == cpos.line) = true := by rfl) (hs : starEach (e :: es) X.env = (false, eval e X.env) :: starEach es X.env := by rfl) (hplain : (backTo cpos (starEach es X.env)).any (·.1) = false := by rfl) :
  PE X (.Call (.Attribute o name apos) (e :: es) [] cpos) (tBM X.K T r to t) := by
 intro pins s σ H Q I h
 refine wpAny_Call_method_late hbase hfew hline rfl (thn (ho pins s σ H _ I h) fun v s1 ⟨x, H1, I1, r1, ty, q1⟩ => ?_)
 obtain ⟨h1, h2⟩ := tyV_is I1 r1 ty
 refine ⟨T, id, pa, slot, hty, h1, h2, ?_⟩
 have hA := ha cpos pins s1 σ H1 _ I1 q1
 rw [hs] at hA ⊢
 refine Calls.callWith_builtin (by show (false || (backTo cpos (starEach es X.env)).any (·.1)) = false; rw [hplain] <;> rfl) (Calls.evalArgs_plain ?_)
 exact thn hA fun us s2 ⟨vs, H2, I2, r2, q2⟩ => hm pins s2 σ H2 x vs v us Q I2 r1 r2 q2
end
end L2
namespace L2
open PySem PySem.Spec PyProof.Rows
def MtM (X : Cx) (id : String) (r : V → List V → Hp → VK → Prop) : Prop :=
 ∀ (pins : List (Addr × Obj)) (s : Shared) (σ : St) (H : Hp) (x : V) (xs : List V) (v : Value) (us : List Value) (Q : VK), Inv X pins σ H s → RelV x v → Vals xs us → r x xs H Q →
  wpAny (model X.prog X.w) X.A (call (.builtin id) (v :: us)) (EP X pins σ Q) X.xe s
theorem Vals.one : ∀ {x : V} {us : List Value}, Vals [x] us → ∃ u, us = [u] ∧ RelV x u
 | _, _, .cons r .nil => ⟨_, rfl, r⟩
theorem Vals.two : ∀ {x y : V} {us : List Value}, Vals [x, y] us → ∃ u v, us = [u, v] ∧ RelV x u ∧ RelV y v
 | _, _, _, .cons r (.cons q .nil) => ⟨_, _, rfl, r, q⟩
theorem Vals.eraseIdx : ∀ {xs : List V} {us : List Value} (i : Nat), Vals xs us → Vals (xs.eraseIdx i) (us.eraseIdx i)
 | _, _, _, .nil => .nil
 | _, _, 0, .cons _ t => t
 | _, _, i + 1, .cons r t => .cons r (Vals.eraseIdx i t)
theorem Vals.reverse {xs : List V} {us : List Value} (h : Vals xs us) : Vals xs.reverse us.reverse := by
 induction h with
 | nil => exact .nil
 | cons r t ih => rw [List.reverse_cons, List.reverse_cons]; exact Vals.append ih (.cons r .nil)
theorem len_erase {α : Type} : ∀ (l : List α) (i : Nat), (l.eraseIdx i).length ≤ l.length
 | [], _ => Nat.le_refl _
 | _ :: _, 0 => Nat.le_succ _
 | _ :: r, i + 1 => Nat.succ_le_succ (len_erase r i)
section
variable {X : Cx} {pins : List (Addr × Obj)} {σ : St} {H : Hp} {s : Shared} {l b : Addr} {xs ys zs : List V}
theorem Inv.lset {its its' : List Value} {n : Nat} {f : Array Value → Array Value} {t' : Nat} (I : Inv X pins σ H s) (hH : H l = some (.lst xs))
  (e : s.heap.get? l = some { cls := .type "list", data := .seq its.toArray n }) (hf : f its.toArray = its'.toArray) (hv : Vals ys its') (hz : ys.length ≤ sizeLine) :
  Inv X pins σ (upd H l (.lst ys)) { s with heap := s.heap.update l (Obj.mapSeq f), toks := t' } := by
 have q := PySem.IsL.update e f
 rw [hf] at q
 refine I.write (x := l) (e := l) (by rw [hH]; exact trivial) (.inl rfl) (fun b' u hb hu => (Heap.get?_update_other s.heap (Obj.mapSeq f) (Ne.symm hb)).trans hu) ⟨_, q⟩ ?_
 exact ⟨hz, its', _, hv, q⟩
theorem Inv.lnew {its : List Value} {t' : Nat} (I : Inv X pins σ H s) (hv : Vals ys its) (hz : ys.length ≤ sizeLine) :
  Inv X pins σ (upd H s.heap.objs.size (.lst ys)) { s with heap := s.heap.push { cls := .type "list", data := .seq its.toArray }, toks := t' } :=
 I.laid (fun _ _ q => Heap.get?_push_of_some _ q) (Nat.le_refl _) ⟨hz, its, 0, hv, Heap.get?_push_size _ rfl⟩
theorem Inv.fresh (I : Inv X pins σ H s) : H s.heap.objs.size = none := I.hok.fresh (Nat.le_refl _)
theorem Inv.lstM (I : Inv X pins σ H s) (hH : H l = some (.lst xs)) : xs.length ≤ sizeLine ∧ ∃ (its : List Value) (n : Nat), Vals xs its ∧ xs.length = its.length ∧ s.heap.get? l = some { cls := .type "list", data := .seq its.toArray n } := by
 obtain ⟨z, its, n, r, e⟩ := I.hok l _ hH
 exact ⟨z, its, n, r, r.length, e⟩
end
section
variable {X : Cx}
def rAppend : V → List V → Hp → VK → Prop := fun x vs H Q => ∃ l xs y, x = .ref l ∧ vs = [y] ∧ H l = some (.lst xs) ∧ xs.length < sizeLine ∧ Q .non (upd H l (.lst (xs ++ [y])))
theorem mt_append : MtM X "list.append" rAppend := by
 intro pins s σ H x vs v us Q I rx rv h
 obtain ⟨l, xs, y, rfl, rfl, hH, hz, q⟩ := h
 cases rx
 obtain ⟨u, rfl, ru⟩ := rv.one
 obtain ⟨z, its, n, r, hl, e⟩ := I.lstM hH
 refine call_meets F.slot_list_append ⟨_, e, rfl⟩ F.entry_list_append (F.args_list_append_2 _ _) (PySem.list_append l its.toArray n u (by rw [List.size_toArray]; omega)) ⟨e, ?_⟩
 refine ⟨.non, _, I.lset (its' := its ++ [u]) hH e (by simp) (r.append (.cons ru .nil)) ?_, rfl, q⟩
 rw [List.length_append, List.length_singleton]
 omega
def rPopAt : V → List V → Hp → VK → Prop := fun x vs H Q => ∃ l xs i k y, x = .ref l ∧ vs = [.int i] ∧ H l = some (.lst xs) ∧ -(2 ^ 63) ≤ i ∧ i < 2 ^ 63 ∧ seqIndex? i xs.length = some k ∧ xs[k]? = some y ∧ Q y (upd H l (.lst (xs.eraseIdx k)))
theorem mt_popAt : MtM X "list.pop" rPopAt := by
 intro pins s σ H x vs v us Q I rx rv h
 obtain ⟨l, xs, i, k, y, rfl, rfl, hH, h1, h2, hk, hy, q⟩ := h
 cases rx
 obtain ⟨u, rfl, ru⟩ := rv.one
 obtain ⟨t, rfl⟩ := ru
 obtain ⟨z, its, n, r, hl, e⟩ := I.lstM hH
 obtain ⟨w, hw, rw'⟩ := r.get hy
 refine call_meets F.slot_list_pop ⟨_, e, rfl⟩ F.entry_list_pop (F.args_list_pop_2 _ _)
  (MeetsSeq.list_pop_at l its.toArray n i t k w (fitsIndex_both h1 h2) (by rw [List.size_toArray, ← hl]; exact hk) (by rw [← Array.getElem?_toList]; exact hw) (by rw [List.size_toArray]; omega)) ⟨e, ?_⟩
 refine ⟨y, _, I.lset (its' := its.eraseIdx k) hH e ?_ (r.eraseIdx k) ?_, rw', q⟩
 ·show its.toArray.eraseIdxIfInBounds k = (its.eraseIdx k).toArray
  rw [List.eraseIdxIfInBounds_toArray]
 ·have := len_erase xs k
  omega
def rCat : R2 := fun x y H Q => ∃ l b xs zs, x = .ref l ∧ y = .ref b ∧ H l = some (.lst xs) ∧ H b = some (.lst zs) ∧ xs.length + zs.length ≤ sizeLine ∧ ∀ p, H p = none → Q (.ref p) (upd H p (.lst (xs ++ zs)))
theorem op_cat : OpR X (binaryOp .Add) rCat := by
 intro pins s σ H x y v u Q I rx ry h
 obtain ⟨l, b, xs, zs, rfl, rfl, hH, hB, hz, q⟩ := h
 cases rx
 cases ry
 obtain ⟨z, its, n, r, hl, e⟩ := I.lstM hH
 obtain ⟨z2, its2, n2, r2, hl2, e2⟩ := I.lstM hB
 refine PySem.P.add_list e e2 ?_ (by rw [List.size_toArray, List.size_toArray]; omega)
 have ea : its.toArray ++ its2.toArray = (its ++ its2).toArray := by simp
 rw [ea]
 exact ⟨.ref _, _, I.lnew (t' := s.toks) (r.append r2) (by rw [List.length_append]; omega), rfl, q _ I.fresh⟩
end
section
variable {prog : Program} {w : World} {A : Around} {E : Value → Shared → Prop} {s : Shared}
set_option maxRecDepth 100000 in
end
section
variable {X : Cx}
end
end L2
namespace L2
open PySem PySem.Spec PyProof.Rows
section
variable {κ : Type} [DecidableEq κ]
def valV (kvs : List (κ × V)) (k : κ) : Option V := (kvs.find? fun kv => decide (kv.1 = k)).map (·.2)
def putK (kvs : List (κ × V)) (k : κ) (v : V) : List (κ × V) :=
 if (kvs.any fun kv => decide (kv.1 = k)) = true then kvs.map (fun kv => if kv.1 = k then (kv.1, v) else kv) else kvs ++ [(k, v)]
theorem valV_pos {p : κ × V} {r : List (κ × V)} {k : κ} (e : p.1 = k) : valV (p :: r) k = some p.2 := by simp [valV, List.find?_cons, e]
theorem valV_neg {p : κ × V} {r : List (κ × V)} {k : κ} (e : ¬ p.1 = k) : valV (p :: r) k = valV r k := by simp [valV, List.find?_cons, e]
theorem valV_any (k : κ) : ∀ kvs : List (κ × V), (kvs.any fun kv => decide (kv.1 = k)) = (valV kvs k).isSome
 | [] => rfl
 | p :: r => by
  rw [List.any_cons]
  by_cases e : p.1 = k
  ·simp only [valV_pos e, decide_eq_true e, Bool.true_or, Option.isSome_some]
  ·rw [valV_neg e, decide_eq_false e, Bool.false_or]; exact valV_any k r
theorem valV_map (k j : κ) (y : V) : ∀ kvs : List (κ × V), valV (kvs.map fun kv => if kv.1 = k then (kv.1, y) else kv) j = (valV kvs j).map fun x => if j = k then y else x
 | [] => rfl
 | p :: r => by
  have ih := valV_map k j y r
  rw [List.map_cons]
  by_cases h : p.1 = k
  ·rw [if_pos h]
   by_cases e : p.1 = j
   ·rw [valV_pos (p := (p.1, y)) e, valV_pos e, Option.map_some, if_pos (e.symm.trans h)]
   ·rw [valV_neg (p := (p.1, y)) e, valV_neg e, ih]
  ·rw [if_neg h]
   by_cases e : p.1 = j
   ·rw [valV_pos (p := p) e, valV_pos e, Option.map_some, if_neg (fun z => h (e.trans z))]
   ·rw [valV_neg (p := p) e, valV_neg e, ih]
theorem valV_snoc (k j : κ) (y : V) : ∀ kvs : List (κ × V), valV kvs k = none → valV (kvs ++ [(k, y)]) j = if j = k then some y else valV kvs j
 | [], _ => by
  by_cases e : k = j
  ·rw [if_pos e.symm]; exact valV_pos (p := (k, y)) e
  ·rw [if_neg (fun z => e z.symm)]; exact valV_neg (p := (k, y)) e
 | p :: r, hn => by
  rw [List.cons_append]
  have hk : ¬ p.1 = k := fun z => by rw [valV_pos z] at hn; cases hn
  rw [valV_neg hk] at hn
  have ih := valV_snoc k j y r hn
  by_cases e : p.1 = j
  ·rw [valV_pos e, valV_pos e, if_neg (fun z => hk (e.trans z))]
  ·rw [valV_neg e, valV_neg e, ih]
theorem valV_put (kvs : List (κ × V)) (k j : κ) (y : V) : valV (putK kvs k y) j = if j = k then some y else valV kvs j := by
 unfold putK
 by_cases a : (kvs.any fun kv => decide (kv.1 = k)) = true
 ·rw [if_pos a, valV_map]
  rw [valV_any] at a
  by_cases e : j = k
  ·obtain ⟨x, hx⟩ := Option.isSome_iff_exists.mp a
   rw [if_pos e, e, hx, Option.map_some, if_pos rfl]
  ·rw [if_neg e]
   cases valV kvs j with
   | none => rfl
   | some x => rw [Option.map_some, if_neg e]
 ·rw [if_neg a]
  refine valV_snoc k j y kvs ?_
  rw [valV_any] at a
  cases q : valV kvs k with
  | none => rfl
  | some x => rw [q] at a; exact (a rfl).elim
theorem length_putK (kvs : List (κ × V)) (k : κ) (v : V) : (putK kvs k v).length ≤ kvs.length + 1 := by
 unfold putK
 split
 ·rw [List.length_map]; omega
 ·rw [List.length_append, List.length_cons, List.length_nil]; omega
theorem putK_new {kvs : List (κ × V)} {k : κ} (v : V) (h : valV kvs k = none) : putK kvs k v = kvs ++ [(k, v)] := by
 unfold putK
 rw [valV_any, h]
 exact if_neg (by decide)
theorem RelO.isSome_eq {o : Option V} {u : Option Value} (r : RelO o u) : o.isSome = u.isSome := by
 cases o with
 | none => cases u with
  | none => rfl
  | some _ => exact (show False from r).elim
 | some _ => cases u with
  | none => exact (show False from r).elim
  | some _ => rfl
theorem KV.val {kvs : List (κ × V)} {vs : List (κ × Value)} (r : KV kvs vs) (k : κ) : RelO (valV kvs k) (valueAt vs k) := by
 unfold KV at r
 induction r with
 | nil => exact True.intro
 | @cons p q ps qs h t ih =>
  obtain ⟨h1, h2⟩ := h
  by_cases e : p.1 = k
  ·have e' : q.1 = k := h1.symm.trans e
   have b : valueAt (q :: qs) k = some q.2 := by simp [valueAt, List.find?_cons, e']
   rw [valV_pos e, b]; exact h2
  ·have e' : ¬ q.1 = k := fun z => e (h1.trans z)
   have b : valueAt (q :: qs) k = valueAt qs k := by simp [valueAt, List.find?_cons, e']
   rw [valV_neg e, b]; exact ih
theorem KV.any {kvs : List (κ × V)} {vs : List (κ × Value)} (r : KV kvs vs) (k : κ) : (kvs.any fun kv => decide (kv.1 = k)) = vs.any fun kv => decide (kv.1 = k) := by
 unfold KV at r
 induction r with
 | nil => rfl
 | cons h t ih => rw [List.any_cons, List.any_cons, ih, h.1]
theorem KV.repl {kvs : List (κ × V)} {vs : List (κ × Value)} (r : KV kvs vs) (k : κ) {y : V} {u : Value} (ry : RelV y u) :
  KV (kvs.map fun kv => if kv.1 = k then (kv.1, y) else kv) (vs.map fun kv => if kv.1 = k then (kv.1, u) else kv) := by
 unfold KV at r ⊢
 induction r with
 | nil => exact .nil
 | @cons p q ps qs h t ih =>
  rw [List.map_cons, List.map_cons]
  refine .cons ?_ ih
  obtain ⟨h1, h2⟩ := h
  by_cases e : p.1 = k
  ·rw [if_pos e, if_pos (h1.symm.trans e)]; exact ⟨h1, ry⟩
  ·rw [if_neg e, if_neg (fun z => e (h1.trans z))]; exact ⟨h1, h2⟩
theorem KV.put {kvs : List (κ × V)} {vs : List (κ × Value)} (r : KV kvs vs) (k : κ) {y : V} {u : Value} (ry : RelV y u) : KV (putK kvs k y) (stored vs k u) := by
 unfold putK stored
 rw [r.any k]
 by_cases e : (vs.any fun kv => decide (kv.1 = k)) = true
 ·rw [if_pos e, if_pos e]; exact r.repl k ry
 ·rw [if_neg e, if_neg e]; exact Paired.snoc r ⟨rfl, ry⟩
theorem KV.length {kvs : List (κ × V)} {vs : List (κ × Value)} (r : KV kvs vs) : kvs.length = vs.length := Paired.length r
end
theorem kV_is {P : Program} {w : World} {k : Key} {u : Value} (r : RelV (kV k) u) : (mixKind P w).is k u = true := by
 cases k with
 | inl i => obtain ⟨t, e⟩ := (show ∃ t, u = Value.int i t from r); subst e; exact mixKind_int P w i t
 | inr x => obtain ⟨t, e⟩ := (show ∃ t, u = Value.str x t from r); subst e; exact mixKind_str P w x t
theorem items_are {P : Program} {w : World} : ∀ {ks : List Key} {us : List Value}, Vals (ks.map kV) us → ItemsAre (mixKind P w) ks us
 | [], _, r => by rw [List.map_nil] at r; cases r; exact .nil
 | k :: ks, _, r => by
  rw [List.map_cons] at r
  cases r with
  | cons h t => exact .cons (kV_is h) (items_are t)
abbrev KT (H : Hp) : List (List Key × V) → List (List Key × Addr × Value) → Prop := Paired fun p q => p.1 = q.1 ∧ H q.2.1 = some (.tup (p.1.map kV)) ∧ RelV p.2 q.2.2
theorem KT.val {H : Hp} {kvs : List (List Key × V)} {xs : List (List Key × Addr × Value)} (r : KT H kvs xs) (k : List Key) : RelO (valV kvs k) ((atKey xs k).map (·.2)) := by
 induction r with
 | nil => exact True.intro
 | @cons p q ps qs h t ih =>
  obtain ⟨h1, _, h2⟩ := h
  by_cases e : p.1 = k
  ·have e' : q.1 = k := h1.symm.trans e
   have b : atKey (q :: qs) k = some q.2 := by simp [atKey, List.find?_cons, e']
   rw [valV_pos e, b]; exact h2
  ·have e' : ¬ q.1 = k := fun z => e (h1.trans z)
   have b : atKey (q :: qs) k = atKey qs k := by simp [atKey, List.find?_cons, e']
   rw [valV_neg e, b]; exact ih
theorem KT.repl {H : Hp} {kvs : List (List Key × V)} {xs : List (List Key × Addr × Value)} (r : KT H kvs xs) (k : List Key) {y : V} {u : Value} (ry : RelV y u) :
  KT H (kvs.map fun kv => if kv.1 = k then (kv.1, y) else kv) (xs.map (putAt k u)) := by
 induction r with
 | nil => exact .nil
 | @cons p q ps qs h t ih =>
  rw [List.map_cons, List.map_cons]
  refine .cons ?_ ih
  obtain ⟨h1, h2, h3⟩ := h
  unfold putAt
  by_cases e : p.1 = k
  ·rw [if_pos e, if_pos (h1.symm.trans e)]; exact ⟨h1, h2, ry⟩
  ·rw [if_neg e, if_neg (fun z => e (h1.trans z))]; exact ⟨h1, h2, h3⟩
theorem KT.put {H : Hp} {kvs : List (List Key × V)} {xs : List (List Key × Addr × Value)} (r : KT H kvs xs) (k : List Key) {b : Addr} {y : V} {u : Value} (hb : H b = some (.tup (k.map kV))) (ry : RelV y u) :
  KT H (putK kvs k y) (storedH xs k b u) := by
 have e : (kvs.any fun kv => decide (kv.1 = k)) = (atKey xs k).isSome := by
  rw [valV_any, (r.val k).isSome_eq, Option.isSome_map]
 unfold putK storedH
 rw [e]
 by_cases q : (atKey xs k).isSome = true
 ·rw [if_pos q, if_pos q]; exact r.repl k ry
 ·rw [if_neg q, if_neg q]; exact Paired.snoc r ⟨rfl, hb, ry⟩
theorem KT.keeps {H H' : Hp} {kvs : List (List Key × V)} {xs : List (List Key × Addr × Value)} (r : KT H kvs xs) (ht : ∀ b ys, H b = some (.tup ys) → H' b = some (.tup ys)) : KT H' kvs xs :=
 Paired.mapP r fun _ _ z => ⟨z.1, ht _ _ z.2.1, z.2.2⟩
section
variable {P : Program} {w : World} {H : Hp} {h : Heap} {a : Addr}
theorem rd_of {u : HO} (ok : HOk P w H h) (e : Rd H a u) : ObjOk P w H h a u := e.ok ok
theorem dk_rd {kvs : List (Key × V)} (ok : HOk P w H h) (e : Rd H a (.dK kvs)) : kvs.length ≤ sizeLine ∧ (a == sysModules) = false ∧ ∃ vs, KV kvs vs ∧ h.DictOf (mixKind P w) a vs :=
 show ObjOk P w H h a (.dK kvs) from rd_of ok e
theorem dk_of {kvs : List (Key × V)} (ok : HOk P w H h) (e : H a = some (.dK kvs)) : kvs.length ≤ sizeLine ∧ (a == sysModules) = false ∧ ∃ vs, KV kvs vs ∧ h.DictOf (mixKind P w) a vs := dk_rd ok (.inl e)
theorem key_of {ks : List Key} (ok : HOk P w H h) (e : H a = some (.tup (ks.map kV))) : (tupleKind (mixKind P w)).is h ks a := by
 obtain ⟨_, its, r, o, h1, h2, n, h3⟩ := (show ObjOk P w H h a (.tup (ks.map kV)) from ok a _ e)
 exact ⟨o, its.toArray, n, h1, h2, h3, by simpa using items_are r⟩
theorem dt_rd {kvs : List (List Key × V)} (ok : HOk P w H h) (e : Rd H a (.dT kvs)) : kvs.length ≤ sizeLine ∧ (a == sysModules) = false ∧
  ∃ xs, KT H kvs xs ∧ h.DictOfH (tupleKind (mixKind P w)) a xs := by
 obtain ⟨z, y, xs, r, o, es, ep, h1, h2, h3, h4, h5⟩ := (show ObjOk P w H h a (.dT kvs) from rd_of ok e)
 refine ⟨z, y, xs, r, o, es, ep, h1, h2, h3, h4, fun x hx => ?_, h5⟩
 have all : ∀ {l : List (List Key × V)} {m : List (List Key × Addr × Value)}, KT H l m → ∀ x ∈ m, (tupleKind (mixKind P w)).is h x.1 x.2.1 := by
  intro l m q
  induction q with
  | nil => intro x hx; exact nomatch hx
  | @cons p q ps qs hq t ih =>
   intro x hx
   rcases List.mem_cons.mp hx with e | hx
   ·subst e
    exact key_of ok (by rw [← hq.1]; exact hq.2.1)
   ·exact ih x hx
 exact all r x hx
theorem dt_of {kvs : List (List Key × V)} (ok : HOk P w H h) (e : H a = some (.dT kvs)) : kvs.length ≤ sizeLine ∧ (a == sysModules) = false ∧
  ∃ xs, KT H kvs xs ∧ h.DictOfH (tupleKind (mixKind P w)) a xs := dt_rd ok (.inl e)
end
def DGet (H : Hp) (a : Addr) (y : V) (r : Option V) : Prop :=
 (∃ kvs k, Rd H a (.dK kvs) ∧ y = kV k ∧ r = valV kvs k) ∨ ∃ kvs k b, Rd H a (.dT kvs) ∧ y = .ref b ∧ H b = some (.tup (k.map kV)) ∧ r = valV kvs k
def DPut (H : Hp) (a : Addr) (y v : V) (H' : Hp) : Prop :=
 (∃ kvs k, H a = some (.dK kvs) ∧ y = kV k ∧ kvs.length < sizeLine ∧ H' = upd H a (.dK (putK kvs k v))) ∨
 ∃ kvs k b, H a = some (.dT kvs) ∧ y = .ref b ∧ H b = some (.tup (k.map kV)) ∧ kvs.length < sizeLine ∧ H' = upd H a (.dT (putK kvs k v))
theorem DGet.k {H : Hp} {a : Addr} {kvs : List (Key × V)} {k : Key} (e : H a = some (.dK kvs)) : DGet H a (kV k) (valV kvs k) := .inl ⟨kvs, k, .inl e, rfl, rfl⟩
theorem DGet.t {H : Hp} {a b : Addr} {kvs : List (List Key × V)} {k : List Key} (e : H a = some (.dT kvs)) (eb : H b = some (.tup (k.map kV))) : DGet H a (.ref b) (valV kvs k) := .inr ⟨kvs, k, b, .inl e, rfl, eb, rfl⟩
theorem DPut.k {H : Hp} {a : Addr} {kvs : List (Key × V)} {k : Key} {v : V} (e : H a = some (.dK kvs)) (hl : kvs.length < sizeLine) : DPut H a (kV k) v (upd H a (.dK (putK kvs k v))) := .inl ⟨kvs, k, e, rfl, hl, rfl⟩
theorem DPut.t {H : Hp} {a b : Addr} {kvs : List (List Key × V)} {k : List Key} {v : V} (e : H a = some (.dT kvs)) (eb : H b = some (.tup (k.map kV))) (hl : kvs.length < sizeLine) :
  DPut H a (.ref b) v (upd H a (.dT (putK kvs k v))) := .inr ⟨kvs, k, b, e, rfl, eb, hl, rfl⟩
section
variable {X : Cx} {pins : List (Addr × Obj)} {σ : St} {H : Hp} {s : Shared} {a : Addr} {y v : V} {u r : Value} {o : Option V} {A : Around} {E : Value → Shared → Prop}
theorem Inv.big (I : Inv X pins σ H s) : sysModules < s.heap.objs.size := by
 have h : mainGlobals < s.heap.objs.size := (I.mod.glob.keeps I.bk).lt
 exact Nat.lt_trans (by decide) h
theorem d_getItem {Q : Value → Shared → Prop} (hu : A.units + 1 < cLine) (I : Inv X pins σ H s) (g : DGet H a y (some v)) (ry : RelV y u) (h : ∀ w' s', Inv X pins σ H s' → RelV v w' → Q w' s') :
  wpAny (model X.prog X.w) A (getItem (.ref a) u) Q E s := by
 rcases g with ⟨kvs, k, e, ey, l⟩ | ⟨kvs, k, b, e, ey, eb, l⟩
 ·subst ey
  obtain ⟨z, hd, vs, rel, dd⟩ := dk_rd I.hok e
  obtain ⟨w', hw, rw'⟩ := RelO.some_of (v := v) (o := valueAt vs k) (by rw [l]; exact rel.val k)
  exact wpAny_getItem_of (kV_is ry) dd.mapOf hw (h w' _ (I.tok _) rw')
 ·subst ey
  cases (show u = Value.ref b from ry)
  obtain ⟨z, hd, xs, rel, dd⟩ := dt_rd I.hok e
  obtain ⟨w', hw, rw'⟩ := RelO.some_of (v := v) (o := (atKey xs k).map (·.2)) (by rw [l]; exact rel.val k)
  obtain ⟨p, hp, hp2⟩ := Option.map_eq_some_iff.mp hw
  refine wpAny_getItem_heap (tupleKind_room_in1 hu) (key_of I.hok eb) dd hp ?_
  rw [hp2]
  exact h w' _ (I.tok _) rw'
theorem d_in {Q : Value → Shared → Prop} (hu : A.units + 1 < cLine) (I : Inv X pins σ H s) (g : DGet H a y o) (ry : RelV y u) (h : ∀ s', Inv X pins σ H s' → Q (.bool o.isSome) s') :
  wpAny (model X.prog X.w) A (compareOp .In u (.ref a)) Q E s := by
 rcases g with ⟨kvs, k, e, ey, l⟩ | ⟨kvs, k, b, e, ey, eb, l⟩
 ·subst ey
  obtain ⟨z, hd, vs, rel, dd⟩ := dk_rd I.hok e
  refine wpAny_in_of (kV_is ry) hd dd.mapOf ?_
  rw [← (rel.val k).isSome_eq, ← l]
  exact h _ (I.tok _)
 ·subst ey
  cases (show u = Value.ref b from ry)
  obtain ⟨z, hd, xs, rel, dd⟩ := dt_rd I.hok e
  refine wpAny_in_heap (tupleKind_room_in1 hu) (key_of I.hok eb) hd dd ?_
  have q := (rel.val k).isSome_eq
  rw [Option.isSome_map] at q
  rw [← q, ← l]
  exact h _ (I.tok _)
theorem d_notIn {Q : Value → Shared → Prop} (hu : A.units + 1 < cLine) (I : Inv X pins σ H s) (g : DGet H a y o) (ry : RelV y u) (h : ∀ s', Inv X pins σ H s' → Q (.bool (!o.isSome)) s') :
  wpAny (model X.prog X.w) A (compareOp .NotIn u (.ref a)) Q E s := by
 rcases g with ⟨kvs, k, e, ey, l⟩ | ⟨kvs, k, b, e, ey, eb, l⟩
 ·subst ey
  obtain ⟨z, hd, vs, rel, dd⟩ := dk_rd I.hok e
  refine wpAny_notIn_of (kV_is ry) hd dd.mapOf ?_
  rw [← (rel.val k).isSome_eq, ← l]
  exact h _ (I.tok _)
 ·subst ey
  cases (show u = Value.ref b from ry)
  obtain ⟨z, hd, xs, rel, dd⟩ := dt_rd I.hok e
  refine wpAny_notIn_heap (tupleKind_room_in1 hu) (key_of I.hok eb) hd dd ?_
  have q := (rel.val k).isSome_eq
  rw [Option.isSome_map] at q
  rw [← q, ← l]
  exact h _ (I.tok _)
theorem d_write {h' : Heap} {t' : Nat} {ob : HO} (I : Inv X pins σ H s) (mu : Mut (H a)) (hs : Heap.SameBut a s.heap h') (he : ∃ q, h'.get? a = some q) (new : ObjOk X.prog X.w (upd H a ob) h' a ob) :
  Inv X pins σ (upd H a ob) { s with heap := h', toks := t' } :=
 I.write (x := a) (e := a) mu (.inl rfl) (fun b q hb z => (hs.2 b hb).trans z) he new
theorem dk_new {P : Program} {w : World} {H' : Hp} {h' : Heap} {kvs : List (Key × V)} {vs : List (Key × Value)} (z : kvs.length ≤ sizeLine) (hd : (a == sysModules) = false) (rel : KV kvs vs) (dd : h'.DictOf (mixKind P w) a vs) :
  ObjOk P w H' h' a (.dK kvs) := ⟨z, hd, vs, rel, dd⟩
theorem d_setItem {H' : Hp} {Q : Unit → Shared → Prop} (hu : A.units + 1 < cLine) (I : Inv X pins σ H s) (g : DPut H a y v H') (ry : RelV y u) (rv : RelV v r) (h : ∀ s', Inv X pins σ H' s' → Q () s') :
  wpAny (model X.prog X.w) A (setItem (.ref a) u r) Q E s := by
 rcases g with ⟨kvs, k, e, ey, l, eH⟩ | ⟨kvs, k, b, e, ey, eb, l, eH⟩
 ·subst ey eH
  obtain ⟨z, hd, vs, rel, dd⟩ := dk_of I.hok e
  have hz : vs.length ≤ sizeLine := by rw [← rel.length]; exact z
  have hl : (putK kvs k v).length ≤ sizeLine := by have := length_putK kvs k v; omega
  refine wpAny_setItem_pairs (hsz := hz) (kV_is ry) dd fun h' dd' hs => h _ ?_
  have he : ∃ q, h'.get? a = some q := let ⟨q, _, _, hq, _⟩ := dd'; ⟨q, hq⟩
  exact d_write I (by rw [e]; exact True.intro) hs he (dk_new hl hd (rel.put k rv) dd')
 ·subst ey eH
  cases (show u = Value.ref b from ry)
  obtain ⟨z, hd, xs, rel, dd⟩ := dt_of I.hok e
  have hz : xs.length ≤ sizeLine := by rw [← Paired.length rel]; exact z
  have hl : (putK kvs k v).length ≤ sizeLine := by have := length_putK kvs k v; omega
  refine wpAny_setItem_heap (hsz := hz) (tupleKind_room_in1 hu) (key_of I.hok eb) dd fun h' dd' hs => h _ ?_
  obtain ⟨q, es, ep, hq, h2, h3, h4, _, h5⟩ := dd'
  refine d_write I (by rw [e]; exact True.intro) hs ⟨q, hq⟩ ⟨hl, hd, _, (rel.put k eb rv).keeps fun c ys ec => ?_, q, es, ep, hq, h2, h3, h4, h5⟩
  rw [upd_ne (ne_of ec e (fun z => nomatch z))]
  exact ec
end
section
variable {X : Cx} {pins : List (Addr × Obj)} {σ : St} {H : Hp} {s : Shared} {a : Addr} {kvs : List (Key × V)} {k : Key} {u : Value} {A : Around} {E : Value → Shared → Prop}
theorem d_len {Q : Value → Shared → Prop} (I : Inv X pins σ H s) (e : Rd H a (.dK kvs)) (h : ∀ t s', Inv X pins σ H s' → Q (.int kvs.length t) s') : wpAny (model X.prog X.w) A (call (.builtin "len") [.ref a]) Q E s := by
 obtain ⟨z, hd, vs, rel, dd⟩ := dk_rd I.hok e
 refine call_len_dict hd dd (by rw [← rel.length]; rw [sizeLine_eq] at z; omega) ?_
 rw [← rel.length]
 exact h _ _ (I.tok _)
end
def NoSl (i : Expr) : Prop := ∀ ov iv, subscripted i false ov iv = operate [ov, iv] (getItem ov iv)
theorem subD_of {prog : Program} {w : World} {A : Around} {E : Value → Shared → Prop} {s : Shared} {env : Env} {value slice : Expr} {pos : Pos} {T id : String} {Q : Value → Shared → Prop}
  (hl : typeLookup (.type T) "__getitem__" = pure (some (.builtin id))) (hs : NoSl slice)
  (h : wpAny (model prog w) A (eval value env) (fun o s₁ => wpAny (model prog w) A (eval slice env) (fun i s₂ => s₂.TypeIs o T ∧ wpAny (model prog w) A (getItem o i) Q E s₂) E s₁) E s) :
  wpAny (model prog w) A (eval (.Subscript value slice pos) env) Q E s := by
 refine Subscript_ (wpAny_mono h (fun o s₁ h₁ => wpAny_mono h₁ (fun i s₂ h₂ => ?_) fun _ _ x => x) fun _ _ x => x)
 obtain ⟨hT, h₂⟩ := h₂
 unfold subscriptTail
 refine wpAny_bind ?_
 rw [getitemInPython_of_ne hT.not_modules]
 refine wpAny_bind (wpAny_specialOf hT hl ?_)
 have fin : wpAny (model prog w) A (subscripted slice false o i) (fun r s₃ => wpAny (model prog w) A (letTemporaryGo value o r >>= fun _ => pure r) Q E s₃) E s₂ := by
  rw [hs o i]
  exact wpAny_operating (wpAny_mono h₂ (fun r s₃ h₃ => wpAny_bind (wpAny_letTemporaryGo (wpAny_pure h₃))) fun _ _ x => x)
 first
  | exact wpAny_pure (wpAny_bind fin)
  | exact wpAny_bind (wpAny_pure (wpAny_bind fin))
  | exact wpAny_bind fin
theorem dict_typeIs {X : Cx} {pins : List (Addr × Obj)} {σ : St} {H : Hp} {s : Shared} {a : Addr} {y : V} {o : Option V} (I : Inv X pins σ H s) (g : DGet H a y o) : s.TypeIs (.ref a) "dict" := by
 rcases g with ⟨kvs, k, e, _, _⟩ | ⟨kvs, k, b, e, _, _, _⟩
 ·obtain ⟨_, _, vs, _, dd⟩ := dk_rd I.hok e
  exact dd.typeIs
 ·obtain ⟨_, _, xs, _, dd⟩ := dt_rd I.hok e
  exact dd.typeIs
def tDGet (td ty : TE) : TE := fun σ H Q => td σ H fun x H1 => ty σ H1 fun y H2 => ∃ a v, x = .ref a ∧ DGet H2 a y (some v) ∧ Q v H2
def tDIn (ty td : TE) : TE := fun σ H Q => ty σ H fun y H1 => td σ H1 fun x H2 => ∃ a o, x = .ref a ∧ DGet H2 a y o ∧ Q (.bl o.isSome) H2
def tDNotIn (ty td : TE) : TE := fun σ H Q => ty σ H fun y H1 => td σ H1 fun x H2 => ∃ a o, x = .ref a ∧ DGet H2 a y o ∧ Q (.bl (!o.isSome)) H2
def sDPut (td ty tv : TE) : TS := fun D σ H => tv σ H fun v H1 => td σ H1 fun x H2 => ty σ H2 fun y H3 => ∃ a H4, x = .ref a ∧ DPut H3 a y v H4 ∧ D.nx σ H4
section
variable {X : Cx} {o i e value : Expr} {pos pos' tpos : Pos} {td ty tv : TE}
theorem pe_dget (hu : X.A.units + 1 < cLine) (ho : PE X o td) (hi : PE X i ty) (hs : NoSl i) : PE X (.Subscript o i pos) (tDGet td ty) := by
 intro pins s σ H Q I h
 refine subD_of PySem.F.slot_dict_getitem.lookup hs (thn (ho pins s σ H _ I h) fun u s1 ⟨x, H1, I1, rx, q1⟩ => thn (hi pins s1 σ H1 _ I1 q1) fun iv s2 ⟨y, H2, I2, ry, a, v, ex, g, q2⟩ => ?_)
 subst ex
 obtain rfl : u = Value.ref a := rx
 exact ⟨dict_typeIs I2 g, d_getItem hu I2 g ry fun w' s3 I3 rw' => ⟨v, H2, I3, rw', q2⟩⟩
theorem pc_din (hu : X.A.units + 1 < cLine) (hi : PE X i ty) (ho : PE X o td) : PC X .In i o (tDIn ty td) := by
 intro pins s σ H Q I h
 refine thn (hi pins s σ H _ I h) fun iv s1 ⟨y, H1, I1, ry, q1⟩ => thn (ho pins s1 σ H1 _ I1 q1) fun u s2 ⟨x, H2, I2, rx, a, ov, ex, g, q2⟩ => ?_
 subst ex
 obtain rfl : u = Value.ref a := rx
 exact d_in hu I2 g ry fun s3 I3 => ⟨.bl ov.isSome, H2, I3, rfl, q2⟩
theorem pc_dnotin (hu : X.A.units + 1 < cLine) (hi : PE X i ty) (ho : PE X o td) : PC X .NotIn i o (tDNotIn ty td) := by
 intro pins s σ H Q I h
 refine thn (hi pins s σ H _ I h) fun iv s1 ⟨y, H1, I1, ry, q1⟩ => thn (ho pins s1 σ H1 _ I1 q1) fun u s2 ⟨x, H2, I2, rx, a, ov, ex, g, q2⟩ => ?_
 subst ex
 obtain rfl : u = Value.ref a := rx
 exact d_notIn hu I2 g ry fun s3 I3 => ⟨.bl (!ov.isSome), H2, I3, rfl, q2⟩
theorem ps_dput (hu : X.A.units + 1 < cLine) (ho : PE X o td) (hi : PE X i ty) (hv : PE X value tv) (hs : swapsWith value (some (.Subscript o i pos')) pos.line X.env = pure false) :
  PS X (.Assign [.Subscript o i pos'] value pos) (sDPut td ty tv) := by
 intro pins s σ H D I h
 refine wpAny_Assign_Subscript (thn (hv pins s σ H _ I h) fun r s1 ⟨v, H1, I1, rv, q1⟩ => thn (ho pins s1 σ H1 _ I1 q1) fun u s2 ⟨x, H2, I2, rx, q2⟩ => thn (hi pins s2 σ H2 _ I2 q2) fun iv s3 ⟨y, H3, I3, ry, a, H4, ex, g, q3⟩ => ?_) hs
 subst ex
 obtain rfl : u = Value.ref a := rx
 exact d_setItem hu I3 g ry rv fun s4 I4 => ⟨σ, H4, I4, q3⟩
end
theorem dk_empty {P : Program} {w : World} {H : Hp} (h : Heap) (hb : sysModules < h.objs.size) : ObjOk P w H (h.push { cls := .type "dict", data := .dict #[] }) h.objs.size (.dK []) :=
 ⟨Nat.zero_le _, beq_eq_false_iff_ne.mpr (Ne.symm (Nat.ne_of_lt hb)), [], .nil, Heap.DictOf.new h⟩
theorem dt_empty {P : Program} {w : World} {H : Hp} (h : Heap) (hb : sysModules < h.objs.size) : ObjOk P w H (h.push { cls := .type "dict", data := .dict #[] }) h.objs.size (.dT []) :=
 ⟨Nat.zero_le _, beq_eq_false_iff_ne.mpr (Ne.symm (Nat.ne_of_lt hb)), [], .nil, _, #[], 0, Heap.get?_push_size _ rfl, ⟨rfl, rfl, rfl⟩, rfl, rfl, List.nodup_nil⟩
def tDNewK : TE := fun _ H Q => ∀ p, H p = none → Q (.ref p) (upd H p (.dK []))
def tDNewT : TE := fun _ H Q => ∀ p, H p = none → Q (.ref p) (upd H p (.dT []))
section
variable {X : Cx} {pos : Pos}
theorem pe_dnewK : PE X (.Dict [] [] pos) tDNewK := fun pins s σ H Q I h =>
 wpAny_Dict_empty ⟨.ref s.heap.objs.size, _, I.laid (a := s.heap.objs.size) (o := .dK []) (t' := s.toks) (fun _ _ q => Heap.get?_push_of_some _ q) (Nat.le_refl _) (dk_empty s.heap I.big), rfl, h _ (I.hok.fresh (Nat.le_refl _))⟩
theorem pe_dnewT : PE X (.Dict [] [] pos) tDNewT := fun pins s σ H Q I h =>
 wpAny_Dict_empty ⟨.ref s.heap.objs.size, _, I.laid (a := s.heap.objs.size) (o := .dT []) (t' := s.toks) (fun _ _ q => Heap.get?_push_of_some _ q) (Nat.le_refl _) (dt_empty s.heap I.big), rfl, h _ (I.hok.fresh (Nat.le_refl _))⟩
end
structure M1 (X : Cx) (o : Expr) (m : Str) (apos : Pos) (e : Expr) (cpos : Pos) : Prop where
 base : attributeBase o m X.env (eval o X.env) = eval o X.env
 few : ((backTo cpos (starEach [e] X.env)).all (fun x => !x.1) && (backToKw cpos (keywordEach [] X.env)).all (fun x => x.1.isSome)
  && decide (([e] : List Expr).length + ([] : List Keyword).length + (if ([] : List Keyword).isEmpty then 0 else 1) < 30)) = true
 line : (apos.endLine == cpos.line) = true
 trees : backTo cpos (starEach [e] X.env) = [(false, eval e X.env)]
structure M2 (X : Cx) (o : Expr) (m : Str) (apos : Pos) (e f : Expr) (cpos : Pos) : Prop where
 base : attributeBase o m X.env (eval o X.env) = eval o X.env
 few : ((backTo cpos (starEach [e, f] X.env)).all (fun x => !x.1) && (backToKw cpos (keywordEach [] X.env)).all (fun x => x.1.isSome)
  && decide (([e, f] : List Expr).length + ([] : List Keyword).length + (if ([] : List Keyword).isEmpty then 0 else 1) < 30)) = true
 line : (apos.endLine == cpos.line) = true
 trees : backTo cpos (starEach [e, f] X.env) = [(false, eval e X.env), (false, eval f X.env)]
section
variable {X : Cx} {pins : List (Addr × Obj)} {σ : St} {H : Hp} {s : Shared} {a : Addr} {y d : V} {u r : Value} {o : Option V} {A : Around} {E : Value → Shared → Prop}
end
section
variable {X : Cx} {o e f : Expr} {apos cpos : Pos} {td ty tx : TE}
end
section
variable {X : Cx} {pins : List (Addr × Obj)} {σ : St} {H : Hp} {s : Shared} {a : Addr} {kvs : List (Key × V)} {A : Around} {E : Value → Shared → Prop}
end
section
variable {X : Cx} {pins : List (Addr × Obj)} {σ : St} {H : Hp} {s : Shared} {a : Addr} {y : V} {u : Value} {A : Around} {E : Value → Shared → Prop}
end
end L2
namespace Att
open PySem PySem.W PySem.Calls PyProof.Rows
theorem ints_of_wellAll {P : Params} {h : Heap} : ∀ (ns : List Int) (vs : List Value), WellAll P h vs (ns.map WData.int) → IntsAre vs ns := by
 intro ns
 induction ns with
 | nil =>
  intro vs w
  rw [List.map_nil] at w
  cases w
  exact .nil
 | cons n ns ih =>
  intro vs w
  rw [List.map_cons] at w
  cases w with
  | cons a b =>
   cases a
   exact .cons _ _ (ih _ b)
theorem script_of {l : OpenLaw} {n : Nat} (hn : l.most = some n) {P : Params} {h : Heap} {args : List WData} {vals : List Value}
  (hpre : l.row.toRowW.claim.pre args = true) (hwl : WellAll P h vals args) :
  ∃ a vs ns, vals = [Value.ref a] ∧ args = [WData.list (ns.map WData.int)] ∧ h.get? a = some { cls := .type "list", data := .seq vs.toArray } ∧ IntsAre vs ns ∧ ns.length ≤ n := by
 have hsh : WShape.hasAll [] args [.list .int] = true := (pre_splitW hpre).1
 have hc : l.pre.holds [] { args := args } = true := (pre_splitW hpre).2
 obtain ⟨d, r, rfl, h1, h2⟩ := hasAllW_cons hsh
 obtain rfl := hasAllW_nil h2
 obtain ⟨xs, rfl, h3⟩ := hasW_list h1
 obtain ⟨ns, rfl⟩ := items_int h3
 have hlen : ns.length ≤ n := by
  unfold OpenLaw.pre at hc
  have h4 : (WTm.not (.lt (.lit (.int (n : Int))) (.len (.arg 0)))).holds [] { args := [.list (ns.map .int)] } = true := by
   have h4 := (holds_andW hc).1
   rw [hn] at h4
   exact h4
  have h5 := condW_of h4 (w_not (w_lt w_lit (w_len_list (w_arg rfl))))
  rw [List.length_map] at h5
  refine Nat.le_of_not_lt fun q => ?_
  have q' : (n : Int) < ((ns.length : Nat) : Int) := by omega
  first
   | (rw [decide_eq_true q'] at h5; exact absurd h5 (by decide))
   | (simp at h5; omega)
 cases hwl with
 | cons w1 w2 =>
  cases w2
  cases w1 with
  | list ho hall => exact ⟨_, _, ns, rfl, rfl, ho, ints_of_wellAll ns _ hall, hlen⟩
theorem post_true (l : OpenLaw) (args : List WData) : l.row.toRowW.claim.post args (.bool true) args = true :=
 postW_of (r := l.row.toRowW) (X := (true == true))
  (show WShape.has [] (.bool true) .bool = true by first | rfl | decide | simp [WShape.has, WShape.arms, WShape.armsAll])
  (show (WTm.eq .res (.lit (.bool true))).value [] { args := args, res := some (.bool true), after := args } = some (.bool (true == true)) from w_eq_bool (w_res rfl) w_lit) rfl
theorem attach_call {l : OpenLaw} {n : Nat} {q : Program} {loose : List Str} {XP : (Str → Option Value) → Heap → Prop} {YP : World → Heap → Prop} {d : DefRec}
  (hn : l.most = some n) (hdf : d.params.defaults = [])
  (call : ∀ (w : World) (s₀ s₁ : Shared) (mg mb : Str → Option Value) (fa : Addr) (o : Obj) (pm cd doc : Value) (a : Addr) (vs : List Value) (ns : List Int),
   Ground q loose [] XP w s₀ mg mb s₁.heap → YP w s₁.heap →
   s₁.heap.get? fa = some o → o.data = .func (docDef d.name d.params d.body d.scope pm cd doc) → s₁.heap.CodeRec cd d.name → mg d.name = some (.ref fa) →
   s₁.heap.get? a = some { cls := .type "list", data := .seq vs.toArray } → IntsAre vs ns → ns.length ≤ n → s₁.gens = #[] →
   codeAny (model l.prog w) callerA (.call (.ref fa) ⟨[.ref a], []⟩) (fun r s' => r = .ok (.ret (.bool true)) ∧ OldK s₁.heap s'.heap ∧ s'.os = s₁.os ∧ AllBare s'.gens) s₁) :
  WalkO q loose XP YP l.row.toRowW d [] (fun f vs => PySem.call f vs) := by
 intro w s₀ s₁ mg mb G Y fa o pm cd doc dV kV ho hd hcd hD hmg hg args vals as hpre hlay hrd hwl hlo
 obtain rfl : dV = .none := Dflts.none hD hdf
 obtain rfl : kV = .none := Dflts.noKw hD
 obtain ⟨a, vs, ns, rfl, rfl, hobj, hints, hlen⟩ := script_of hn hpre hwl
 refine enter_call (codeAny_mono (call w s₀ s₁ mg mb fa o pm cd doc a vs ns G Y ho (fd_plain hd) hcd hmg hobj hints hlen hg) fun r s' hq => ?_)
 obtain ⟨rfl, h2, h3, h4⟩ := hq
 exact ⟨.inl ⟨.bool true, .bool true, [], rfl, fun _ => rfl, .bool true, post_true l _, fun _ => ⟨List.Pairwise.nil, fun _ hm => (nomatch hm)⟩⟩, h2, h3, h4⟩
section
variable {prog : Program} {w : World} {A : Around} {E : Value → Shared → Prop} {s : Shared} {K : Frag}
end
end Att
namespace L2
open PySem PySem.Spec PyProof.Rows
theorem vals_ints : ∀ {vs : List Value} {ns : List Int}, IntsAre vs ns → Vals (ns.map V.int) vs
 | _, _, .nil => .nil
 | _, _, .cons n t h => .cons ⟨t, rfl⟩ (vals_ints h)
def Only (H : Hp) : Prop := ∀ b, H b = none ∨ ∃ o xs, H b = some (.frz o (.lst xs))
theorem law_call {P : Program} {w : World} {K : PySem.W.Frag} {mg mb : Str → Option Value} {CX : CXT} {k : Nat} {fa a : Addr} {fd : FuncData} {x : Str} {sp : Sp} {s₁ : Shared} {vs : List Value} {ns : List Int}
  (KX : K.In s₁.heap) (hns : s₁.heap.Ns mainGlobals mg) (hb : s₁.heap.Ns builtinsNs mb) (hbb : ∀ x : Str, x ≠ "__name__" → mb x = bootBuiltins x) (hlim : s₁.heap.NoLimit) (hg : s₁.gens = #[])
  (ha : s₁.heap.get? a = some { cls := .type "list", data := .seq vs.toArray }) (hi : IntsAre vs ns) (hl : ns.length ≤ sizeLine) (hr : Room k callerA)
  (F : ∀ base : Heap, K.In base → base.Ns mainGlobals mg → FnOk P w K mg base CX k fa fd [x] sp) (hbind : ∀ (s : Shared) (u : Value), BindsTo s fd ⟨[u], []⟩ [(x, u)])
  (hsp : ∀ H : Hp, Only H → SqL K H a (ns.map V.int) → sp [.ref a] H (fun v _ => v = .bl true) fun _ _ _ => False)
  (hCX : ∀ H e s', CX [] H s₁ (fun _ _ _ => False) e s' → False) :
  codeAny (model P w) callerA (.call (.ref fa) ⟨[.ref a], []⟩) (fun r s' => r = .ok (.ret (.bool true)) ∧ OldK s₁.heap s'.heap ∧ s'.os = s₁.os ∧ AllBare s'.gens) s₁ := by
 have rv := vals_ints hi
 have lenV := hi.length
 have core : ∀ H : Hp, Only H → SqL K H a (ns.map V.int) → HOk P w H s₁.heap → (∀ b, H b ≠ none → b = a) → (H a ≠ none → K.lookup a = none) →
   codeAny (model P w) callerA (.call (.ref fa) ⟨[.ref a], []⟩) (fun r s' => r = .ok (.ret (.bool true)) ∧ OldK s₁.heap s'.heap ∧ s'.os = s₁.os ∧ AllBare s'.gens) s₁ := by
  intro H hO hS hok hA hK
  have base_of : ∀ {b : Addr} {o : Obj}, s₁.heap.get? b = some o → H b = none → (hidT s₁.heap H).get? b = some o := fun e n => hidT_get e n
  have noA : ∀ {b : Addr} {o : Obj} {es : Array DictEntry} {ep : Nat}, s₁.heap.get? b = some o → o.data = .dict es ep → H b = none := fun {b o es ep} e d => by
   cases q : H b with
   | none => rfl
   | some u =>
    have e' : b = a := hA b (by rw [q]; simp)
    subst e'
    rw [ha] at e; cases e
    have d' : Data.seq vs.toArray _ = Data.dict es ep := d
    cases d'
  have nsK : ∀ {b : Addr} {m : Str → Option Value}, s₁.heap.Ns b m → (hidT s₁.heap H).Ns b m := fun {b m} ⟨o, es, ep, e, d, r⟩ => ⟨o, es, ep, base_of e (noA e d), d, r⟩
  have hKb : K.In (hidT s₁.heap H) := fun b o e => base_of (KX b o e) (by
   cases q : H b with
   | none => rfl
   | some u =>
    have e' : b = a := hA b (by rw [q]; simp)
    subst e'
    rw [hK (by rw [q]; simp)] at e; cases e)
  have hM : Mod K mg (hidT s₁.heap H) := ⟨hKb, nsK hns, ⟨mb, nsK hb, hbb⟩, let ⟨mc, h1, h2⟩ := hlim; ⟨mc, nsK h1, h2⟩⟩
  have e0 : Env0 P w K mg (hidT s₁.heap H) callerA [] s₁ H := ⟨rfl, hM, fun b o e => of_hidT e, Nat.le_of_eq (hidT_size _ _), trivial, fun b hb => absurd (show b ∈ ([] : List Addr) from hb) (by simp), hok, .of_eq hg⟩
  refine codeAny_mono ((F _ hKb (nsK hns)).run callerA [] s₁ H ⟨[.ref a], []⟩ [.ref a] [.ref a] _ _ hr e0 (hbind s₁ (.ref a)) (.cons rfl .nil) (hsp H hO hS)) fun r s' h => ?_
  cases r with
  | error e => exact (hCX H e s' h).elim
  | ok fl =>
   cases fl with
   | next => exact False.elim h
   | brk => exact False.elim h
   | cont => exact False.elim h
   | ret u =>
    obtain ⟨v, H', os, bare, un, hok', r', q⟩ := h
    have q' : v = .bl true := q
    subst q'
    obtain rfl : u = Value.bool true := r'
    refine ⟨rfl, OldK.of_keep fun b o e => ?_, os, bare⟩
    cases q : H b with
    | none => exact un.keep b o e q (by intro z; exact absurd (show b ∈ ([] : List Addr) from z) (by simp)) (by simp)
    | some u =>
     rcases hO b with z | ⟨ob, xs, z⟩
     ·rw [q] at z; cases z
     ·have z2 := un.frzs b ob _ z
      obtain ⟨e1, _⟩ := hok b _ z
      obtain ⟨e2, _⟩ := hok' b _ z2
      rw [e] at e1; cases e1
      exact e2
 cases hk : K.lookup a with
 | some o =>
  have e := KX a o hk
  rw [ha] at e
  cases e
  refine core (fun _ => none) (fun _ => .inl rfl) (.inr ⟨_, vs.toArray, _, hk, rfl, rfl, rfl, by rw [List.size_toArray, lenV]; exact hl, by simpa using rv⟩) (fun b u z => by have z' : (none : Option HO) = some u := z; cases z') (fun b z => absurd rfl z) fun z => absurd rfl z
 | none =>
  refine core (fun b => if b = a then some (.frz { cls := .type "list", data := .seq vs.toArray } (.lst (ns.map V.int))) else none) (fun b => ?_) (.inl (.inr ⟨{ cls := .type "list", data := .seq vs.toArray }, if_pos rfl⟩)) (fun b u z => ?_) (fun b z => ?_) fun _ => hk
  ·by_cases hb : b = a
   ·exact .inr ⟨_, _, if_pos hb⟩
   ·exact .inl (if_neg hb)
  ·by_cases hb : b = a
   ·have z' := (if_pos hb).symm.trans z
    cases z'
    subst hb
    exact ⟨ha, by rw [List.length_map]; exact hl, vs, _, rv, ha⟩
   ·have z' := (if_neg hb).symm.trans z
    cases z'
  ·by_cases hb : b = a
   ·exact hb
   ·exact absurd (if_neg hb) z
end L2
namespace L2
open PySem PySem.Spec PyProof.Rows
theorem walk_of {l : PySem.W.OpenLaw} {n k : Nat} {q : Program} {loose : List Str} {XP : (Str → Option Value) → Heap → Prop} {YP : World → Heap → Prop} {d : DefRec} {K : Params → PySem.W.Frag} {CX : World → CXT} {sp : World → Sp} {x : Str}
  (hn : l.most = some n) (hn2 : n ≤ sizeLine) (hdf : d.params.defaults = []) (hr : Room k callerA)
  (hY : ∀ (w : World) (h : Heap), YP w h → (K w.params).In h)
  (F : ∀ (w : World) (mg : Str → Option Value) (fa : Addr) (h : Heap), (K w.params).In h → h.Ns mainGlobals mg → mg d.name = some (.ref fa) →
   ∃ fd : FuncData, (∀ (s : Shared) (u : Value), BindsTo s fd ⟨[u], []⟩ [(x, u)]) ∧
    ∀ base : Heap, (K w.params).In base → base.Ns mainGlobals mg → FnOk l.prog w (K w.params) mg base (CX w) k fa fd [x] (sp w))
  (hsp : ∀ (w : World) (H : Hp) (a : Addr) (ns : List Int), ns.length ≤ n → Only H → SqL (K w.params) H a (ns.map V.int) → sp w [.ref a] H (fun v _ => v = .bl true) fun _ _ _ => False)
  (hCX : ∀ (w : World) (H : Hp) (s : Shared) (e : Value) (s' : Shared), CX w [] H s (fun _ _ _ => False) e s' → False) :
  PySem.W.WalkO q loose XP YP l.row.toRowW d [] (fun f vs => PySem.call f vs) := by
 refine Att.attach_call hn hdf fun w s₀ s₁ mg mb fa o pm cd doc a vs ns G Y ho hd hcd hmg hobj hints hlen hg => ?_
 have KX := hY w _ Y
 obtain ⟨fd, hb, hF⟩ := F w mg fa _ KX G.T.g hmg
 exact law_call KX G.T.g G.T.b G.T.builtins G.T.nolimit hg hobj hints (Nat.le_trans hlen hn2) hr hF hb (fun H hO hS => hsp w H a ns hlen hO hS) fun H e s' => hCX w H s₁ e s'
end L2
namespace L2
open PySem PySem.Spec PyProof.Rows
def inClass (s : Stmt) (j : Nat) : Stmt := match s with
 | .ClassDef _ _ _ body _ _ _ _ _ _ _ => body.getD j (.Pass ⟨0, 0, 0, 0⟩)
 | _ => .Pass ⟨0, 0, 0, 0⟩
def defArgs (s : Stmt) : Arguments := match s with
 | .FunctionDef _ a _ _ _ _ _ _ _ _ => a
 | _ => { posonlyargs := [], args := [], vararg := none, kwonlyargs := [], kw_defaults := [], kwarg := none, defaults := [] }
def defBody (s : Stmt) : List Stmt := match s with
 | .FunctionDef _ _ b _ _ _ _ _ _ _ => b
 | _ => []
def defScope (s : Stmt) : Scope := match s with
 | .FunctionDef _ _ _ _ _ _ sc _ _ _ => sc
 | _ => { kind := .function, names := [], isGenerator := false, isCoroutine := false }
abbrev CX0 : CXT := fun _ _ _ _ _ _ => False
abbrev E0 : XK := fun _ _ _ => False
theorem pass0 {X : Cx} : Passes CX0 X E0 := fun _ _ _ _ _ _ _ h => h.elim
structure Fun (K : PySem.W.Frag) (x qual : Str) (st : Stmt) (f : Addr) (fd : FuncData) : Prop where
 ex : ∃ (oc : Value) (od : Option Addr) (kV doc pm : Value) (an : Option Addr) (cdv ct : Value) (osl : Array (Option Value)),
  fd = PySem.W.fnOf x qual (defArgs st) (defBody st) (defScope st) .none kV doc pm an cdv ct ∧ K.lookup f = some ⟨oc, od, .func fd, osl⟩ ∧ PySem.W.codeIn K cdv qual = true
 kp : PySem.W.keepIn K (.ref f) = true
section
variable {P : Program} {w : World} {K : PySem.W.Frag} {mg : Str → Option Value} {base : Heap}
theorem Fun.ok {x qual : Str} {st : Stmt} {f : Addr} {fd : FuncData} {N ps : List Str} {k : Nat} {sp : Sp} (F : Fun K x qual st f fd) (S : FnScope N ps (defScope st)) (len : ∀ vs H Q E, sp vs H Q E → vs.length = ps.length)
  (hbody : ∀ (cdv : Value) (A : Around) (outer : List Env) (s : Shared) (H : Hp) (vs : List V) (Q : VK) (E : XK), Room k (A.deeper (envOfC qual (defScope st) s.heap.objs.size f cdv)) → sp vs H Q E →
   ∃ t, PSs (cxOf CX0 P w K mg base N qual (defScope st) f cdv A outer s H E).nox (defBody st) t ∧ t { nx := fun _ H' => Q .non H', rt := Q } (start N vs) H) : FnOk P w K mg base CX0 (k + 1) f fd ps sp := by
 obtain ⟨oc, od, kV, doc, pm, an, cdv, ct, osl, rfl, lk, hcd⟩ := F.ex
 refine fn_of lk hcd S len fun A outer s H vs Q E hr hsp => ?_
 obtain ⟨t, h, q⟩ := hbody cdv A outer s H vs Q E hr hsp
 exact ⟨t, h.nox, q⟩
theorem Fun.binds {x qual : Str} {st : Stmt} {f : Addr} {fd : FuncData} {ps : List Str} (F : Fun K x qual st f fd)
  (h : ∀ (kV doc pm : Value) (an : Option Addr) (cdv ct : Value) (us : List Value), us.length = ps.length → bindArgs (PySem.W.fnOf x qual (defArgs st) (defBody st) (defScope st) .none kV doc pm an cdv ct) ⟨us, []⟩ = pure (ps.zip us)) : Binds K fd ps [] := by
 obtain ⟨oc, od, kV, doc, pm, an, cdv, ct, osl, rfl, lk, hcd⟩ := F.ex
 exact .all (h kV doc pm an cdv ct)
theorem fun_mk {x qual : Str} {st : Stmt} {f : Addr} {oc : Value} {od an : Option Addr} {osl : Array (Option Value)} {kV doc pm cdv ct : Value} (l : K.lookup f = some ⟨oc, od, .func (PySem.W.fnOf x qual (defArgs st) (defBody st) (defScope st) .none kV doc pm an cdv ct), osl⟩)
  (c : PySem.W.codeIn K cdv qual = true) (k : PySem.W.keepIn K (.ref f) = true) : Fun K x qual st f (PySem.W.fnOf x qual (defArgs st) (defBody st) (defScope st) .none kV doc pm an cdv ct) := ⟨⟨oc, od, kV, doc, pm, an, cdv, ct, osl, rfl, l, c⟩, k⟩
end
theorem hu_of {A : Around} {k : Nat} (hr : Room k A) : A.units + 1 < cLine := Nat.lt_of_le_of_lt (Nat.add_le_add_left (by decide : 1 ≤ 64) _) hr.units
theorem small1000 {n : Nat} (h : n ≤ 1000) : n < sizeLine := Nat.lt_of_le_of_lt h (by decide)
section
variable {X : Cx}
theorem pv (i : Nat) {x : Str} {pos : Pos} (hN : X.N[i]? = some x := by rfl) (hv : Vis X.env.scope x := by first | exact Or.inl rfl | exact Or.inr (Or.inl rfl) | exact Or.inr (Or.inr rfl)) (hd : (x == ("__debug__" : Str)) = false := by decide)
  (hcd : (x == ("__classdict__" : Str)) = false := by decide) : PE X (.Name x pos) (tVar i) := pe_var hN hv hd hcd
theorem call_lenD : CallR X (.builtin "len") (fun xs H Q => ∃ a kvs, xs = [V.ref a] ∧ H a = some (.dK kvs) ∧ Q (.int kvs.length) H) := by
 intro pins s σ H xs us Q I r h
 obtain ⟨a, kvs, rfl, ha, q⟩ := h
 obtain ⟨u, rfl, ru⟩ := vals1 r
 cases ru
 exact d_len I (.inl ha) fun t s' I' => ⟨.int kvs.length, H, I', ⟨t, rfl⟩, q⟩
end
theorem iteF {A B : Prop} (h : B) : if false = true then A else B := by
 rw [if_neg Bool.false_ne_true]
 exact h
theorem iteT {A B : Prop} (h : A) : if true = true then A else B := by
 rw [if_pos rfl]
 exact h
theorem ite2 {c A B : Prop} [Decidable c] (h1 : c → A) (h2 : ¬ c → B) : if c then A else B := by
 by_cases h : c
 ·rw [if_pos h]
  exact h1 h
 ·rw [if_neg h]
  exact h2 h
def Same (H H' : Hp) : Prop := ∀ b o, H b = some o → H' b = some o
theorem Same.trans {H H1 H2 : Hp} (a : Same H H1) (b : Same H1 H2) : Same H H2 := fun c o h => b c o (a c o h)
theorem Same.seq {K : PySem.W.Frag} {H H' : Hp} {a : Addr} {xs : List V} (e : Same H H') (h : SqL K H a xs) : SqL K H' a xs := by
 rcases h with (h | ⟨o, h⟩) | h
 ·exact .inl (.inl (e _ _ h))
 ·exact .inl (.inr ⟨o, e _ _ h⟩)
 ·exact .inr h
section
variable {κ : Type} [DecidableEq κ]
end
end L2
set_option maxHeartbeats 4000000
namespace L2
open PySem PySem.Spec PyProof.Rows
def closL (cells : List (Str × Addr)) : List (Str × NameKind) → List (Str × Addr) → List (Str × Addr)
 | [], cs => cs
 | (n, k) :: r, cs => if (k == NameKind.free) = true then closL cells r ((n, (cells.lookup n).getD 0) :: cs) else closL cells r cs
theorem closL_mem {cells : List (Str × Addr)} : ∀ {names : List (Str × NameKind)} {cs : List (Str × Addr)}, (∀ x ∈ names, x.2 = .free → ∃ c, cells.lookup x.1 = some c) → (∀ p ∈ cs, cells.lookup p.1 = some p.2) →
  ∀ p ∈ closL cells names cs, cells.lookup p.1 = some p.2
 | [], _, _, h, p, hp => h p hp
 | (n, k) :: r, cs, hn, h, p, hp => by
  unfold closL at hp
  have hr : ∀ x ∈ r, x.2 = .free → ∃ c, cells.lookup x.1 = some c := fun x hx => hn x (List.mem_cons_of_mem _ hx)
  by_cases hk : (k == NameKind.free) = true
  ·rw [if_pos hk] at hp
   refine closL_mem hr (fun q hq => ?_) p hp
   rcases List.mem_cons.mp hq with e | hq
   ·obtain ⟨c, hc⟩ := hn (n, k) List.mem_cons_self (by simpa using hk)
    have hc' : cells.lookup n = some c := hc
    subst e
    show cells.lookup n = some ((cells.lookup n).getD 0)
    rw [hc']; rfl
   ·exact h q hq
  ·rw [if_neg hk] at hp
   exact closL_mem hr h p hp
theorem closL_keeps {cells : List (Str × Addr)} {p : Str × Addr} : ∀ {names : List (Str × NameKind)} {cs : List (Str × Addr)}, p ∈ cs → p ∈ closL cells names cs
 | [], _, h => h
 | (n, k) :: r, cs, h => by
  unfold closL
  split
  ·exact closL_keeps (List.mem_cons_of_mem _ h)
  ·exact closL_keeps h
theorem closL_has {cells : List (Str × Addr)} {x : Str} : ∀ {names : List (Str × NameKind)} {cs : List (Str × Addr)}, (x, NameKind.free) ∈ names → ∃ c, (x, c) ∈ closL cells names cs
 | [], _, h => nomatch h
 | (n, k) :: r, cs, h => by
  unfold closL
  rcases List.mem_cons.mp h with e | h
  ·cases e
   rw [if_pos (show (NameKind.free == NameKind.free) = true from rfl)]
   exact ⟨_, closL_keeps List.mem_cons_self⟩
  ·split
   ·exact closL_has h
   ·exact closL_has h
theorem lookup_of_mem {α β : Type} [BEq α] [LawfulBEq α] {x : α} {c : β} : ∀ {l : List (α × β)}, (x, c) ∈ l → ∃ d, l.lookup x = some d
 | [], h => nomatch h
 | (y, d) :: r, h => by
  rw [List.lookup_cons]
  cases e : x == y with
  | true => exact ⟨d, rfl⟩
  | false =>
   rcases List.mem_cons.mp h with z | h
   ·cases z; rw [beq_self_eq_true] at e; cases e
   ·exact lookup_of_mem h
theorem closureFor_closL {scope : Scope} {env : Env} (h : ∀ x ∈ scope.names, x.2 = .free → ∃ c, env.cells.lookup x.1 = some c) : closureFor scope env = pure (closL env.cells scope.names []) := by
 have key : ∀ (names : List (Str × NameKind)) (cs : List (Str × Addr)), (∀ x ∈ names, x.2 = .free → ∃ c, env.cells.lookup x.1 = some c) →
   (forIn names cs fun x r => if (x.2 == NameKind.free) = true then (do let c ← cellOf env x.1; pure (ForInStep.yield ((x.1, c) :: r))) else pure (ForInStep.yield r) : Sem (List (Str × Addr))) = pure (closL env.cells names cs) := by
  intro names
  induction names with
  | nil => intro cs _; rfl
  | cons x r ih =>
   intro cs hn
   obtain ⟨n, k⟩ := x
   rw [List.forIn_cons]
   unfold closL
   have hr : ∀ x ∈ r, x.2 = .free → ∃ c, env.cells.lookup x.1 = some c := fun x hx => hn x (List.mem_cons_of_mem _ hx)
   by_cases hk : (k == NameKind.free) = true
   ·obtain ⟨c, hc⟩ := hn (n, k) List.mem_cons_self (by simpa using hk)
    have hc' : env.cells.lookup n = some c := hc
    have e : cellOf env n = pure c := by unfold cellOf; rw [hc']
    dsimp only
    rw [if_pos hk, if_pos hk, e, pure_bind, pure_bind, hc']
    exact ih _ hr
   ·dsimp only
    rw [if_neg hk, if_neg hk, pure_bind]
    exact ih _ hr
 have e := key scope.names [] h
 simp only [closureFor, bind_pure]
 exact e
theorem lookup_relabel {env : Env} {x : Str} : ∀ (names : List (Str × NameKind)),
  (names.map fun (n, k) => if (k == NameKind.free && env.scope.kind == .function && env.kindOf n == some .cell) then (n, NameKind.cell) else (n, k)).lookup x =
   (names.lookup x).map fun k => if (k == NameKind.free && env.scope.kind == .function && env.kindOf x == some .cell) then NameKind.cell else k
 | [] => rfl
 | (n, k) :: r => by
  have ih := lookup_relabel (env := env) (x := x) r
  show List.lookup x ((if (k == NameKind.free && env.scope.kind == .function && env.kindOf n == some .cell) = true then (n, NameKind.cell) else (n, k)) :: _) = _
  cases hx : x == n with
  | true =>
   have e : x = n := eq_of_beq hx
   subst e
   by_cases hc : (k == NameKind.free && env.scope.kind == .function && env.kindOf x == some .cell) = true
   ·rw [if_pos hc]; simp only [List.lookup_cons, hx, Option.map_some, hc, if_true]
   ·rw [if_neg hc]; simp only [List.lookup_cons, hx, Option.map_some, hc]; rfl
  | false =>
   by_cases hc : (k == NameKind.free && env.scope.kind == .function && env.kindOf n == some .cell) = true
   ·rw [if_pos hc]; simp only [List.lookup_cons, hx]; exact ih
   ·rw [if_neg hc]; simp only [List.lookup_cons, hx]; exact ih
def hid (xs : List Str) (y : Str) : Str := if xs.contains y then y ++ ("#" : Str) else y
def blkN (xs N : List Str) : List Str := xs ++ N.map (hid xs)
structure BlkScope (X : Cx) (xs : List Str) (sc : Scope) : Prop where
 kind : sc.kind = .function
 nocell : ∀ y ∈ sc.names, y.2 ≠ .cell
 locs : ∀ y ∈ sc.names, y.2 = .local → sc.names.lookup y.1 = some .local
 own : ∀ y ∈ sc.names, y.2 = .local → y.1 ∈ xs ∨ y.1 = (".0" : Str)
 free : ∀ y ∈ sc.names, y.2 = .free → X.env.kindOf y.1 = some .cell ∨ X.env.kindOf y.1 = some .free
 nohid : ∀ y ∈ X.N, sc.names.lookup (y ++ ("#" : Str)) = none
 nodot : (".0" : Str) ∉ X.N
def blk (X : Cx) (pins : List (Addr × Obj)) (xs : List Str) (sc : Scope) (C : Addr) (fp : List Addr) (s3 : Shared) (H3 : Hp) : Cx where
 prog := X.prog
 w := X.w
 K := X.K
 mg := X.mg
 base := X.base
 A := X.A
 N := blkN xs X.N
 s₀ := s3
 H₀ := H3
 env := compEnvC sc (closL X.env.cells sc.names []) C X.env
 outer := X.stack
 stack := X.stack
 ex := fp
 fn := fun _ => false
 calm := true
 pn := X.pn ++ pins
 xe := fun _ _ => False
def blkσ (xs : List Str) (σ : St) : St := List.replicate xs.length none ++ σ
theorem mem_of_lookup' {α β : Type} [BEq α] [LawfulBEq α] {x : α} {c : β} : ∀ {l : List (α × β)}, l.lookup x = some c → (x, c) ∈ l
 | [], h => nomatch h
 | (y, d) :: r, h => by
  rw [List.lookup_cons] at h
  cases e : x == y with
  | true => rw [e] at h; cases h; rw [eq_of_beq e]; exact List.mem_cons_self
  | false => rw [e] at h; exact List.mem_cons_of_mem _ (mem_of_lookup' h)
section
variable {X : Cx} {pins : List (Addr × Obj)} {xs : List Str} {sc : Scope} {σ : St} {H : Hp} {s : Shared}
theorem BlkScope.cells (B : BlkScope X xs sc) (ok : X.Ok) : ∀ y ∈ sc.names, y.2 = .free → ∃ c, X.env.cells.lookup y.1 = some c := fun y hy e => ok.has y.1 (B.free y hy e)
theorem BlkScope.sub (B : BlkScope X xs sc) (ok : X.Ok) {y : Str} {c : Addr} (h : (closL X.env.cells sc.names []).lookup y = some c) : X.env.cells.lookup y = some c :=
 closL_mem (cells := X.env.cells) (names := sc.names) (cs := []) (B.cells ok) (fun p hp => nomatch hp) (y, c) (mem_of_lookup' h)
theorem BlkScope.kindF (B : BlkScope X xs sc) {y : Str} (h : Vis (relabel sc X.env) y) : sc.names.lookup y = some .local ∨ sc.names.lookup y = some .free := by
 have e : (relabel sc X.env).names.lookup y = (sc.names.lookup y).map _ := lookup_relabel (env := X.env) (x := y) sc.names
 cases q : sc.names.lookup y with
 | none =>
  rw [q] at e
  rcases h with h | h | h <;> rw [e] at h <;> cases h
 | some k =>
  cases k with
  | «local» => exact .inl rfl
  | free => exact .inr rfl
  | cell => exact absurd rfl (B.nocell _ (mem_of_lookup' q))
  | globalImplicit => rw [q] at e; rcases h with h | h | h <;> rw [e] at h <;> cases h
  | globalExplicit => rw [q] at e; rcases h with h | h | h <;> rw [e] at h <;> cases h
theorem BlkScope.kindC (B : BlkScope X xs sc) {y : Str} (h : sc.names.lookup y = some .free) : (relabel sc X.env).names.lookup y = some .cell ∨ (relabel sc X.env).names.lookup y = some .free := by
 have e : (relabel sc X.env).names.lookup y = (sc.names.lookup y).map _ := lookup_relabel (env := X.env) (x := y) sc.names
 rw [h] at e
 by_cases hc : ((NameKind.free == NameKind.free) && X.env.scope.kind == .function && X.env.kindOf y == some .cell) = true
 ·left; rw [e]; show some (if _ then _ else _) = _; rw [if_pos hc]
 ·right; rw [e]; show some (if _ then _ else _) = _; rw [if_neg hc]
theorem BlkScope.ofC (B : BlkScope X xs sc) {y : Str} (h : (relabel sc X.env).names.lookup y = some .cell ∨ (relabel sc X.env).names.lookup y = some .free) : sc.names.lookup y = some .free := by
 have v : Vis (relabel sc X.env) y := .inr h
 rcases B.kindF v with q | q
 ·have e : (relabel sc X.env).names.lookup y = (sc.names.lookup y).map _ := lookup_relabel (env := X.env) (x := y) sc.names
  rw [q] at e
  rcases h with h | h <;> rw [e] at h <;> cases h
 ·exact q
theorem blk_start {fp : List Addr} {h1 : Heap} {tk : Nat} {m : Str → Option Value} (hcalm : X.calm = true) (B : BlkScope X xs sc) (I : Inv X pins σ H s) (hf : ∀ b ∈ fp, FpOk X pins H b) (hfl : ∀ b ∈ fp, b < s.heap.objs.size)
  (hn : h1.Ns (s.heap.objs.size + 1) m) (hk : ∀ b o, (s.heap.push { cls := .type "list", data := .seq ([] : List Value).toArray }).get? b = some o → h1.get? b = some o) :
  Inv (blk X pins xs sc (s.heap.objs.size + 1) fp { s with heap := s.heap.push { cls := .type "list", data := .seq ([] : List Value).toArray } } (upd H s.heap.objs.size (.lst []))) [] (blkσ xs σ)
   (upd H s.heap.objs.size (.lst [])) { s with heap := h1, toks := tk } := by
 have hsz : (s.heap.push { cls := .type "list", data := .seq ([] : List Value).toArray }).objs.size = s.heap.objs.size + 1 := Heap.size_push ..
 have lt : ∀ b o, s.heap.get? b = some o → b < s.heap.objs.size := fun b o e => Heap.lt_size e
 have updF : ∀ b, b < s.heap.objs.size → upd H s.heap.objs.size (.lst []) b = H b := fun b hb => upd_ne (Nat.ne_of_lt hb)
 have cl : ∀ x c, X.env.cells.lookup x = some c → c < s.heap.objs.size := fun x c e => by obtain ⟨v, q⟩ := I.cell x c e; exact q.lt
 have frlt : ∀ b ∈ frs X.stack, b < s.heap.objs.size := fun b hb => by
  rcases List.mem_cons.mp (I.stkSub b hb) with e | z
  ·rw [e]; exact I.lt
  ·exact Nat.lt_of_not_le fun z' => I.nofs z' z
 have pushK : ∀ b o, s.heap.get? b = some o → (s.heap.push { cls := .type "list", data := .seq ([] : List Value).toArray }).get? b = some o := fun b o e => Heap.get?_push_of_some _ e
 have hk0 : ∀ b o, s.heap.get? b = some o → h1.get? b = some o := fun b o e => hk b o (pushK b o e)
 have fresh : ∀ b, s.heap.objs.size ≤ b → H b = none := fun b hb => I.hok.fresh hb
 refine ⟨⟨I.ok.mod, B.kind, I.ok.glob, I.ok.blt, ?_, fun x y c h1 h2 => ?_, fun x hx => ?_, fun x c hx => ?_, fun _ => I.ok.hd hcalm, I.ok.frames, .inl rfl, fun b hb => ⟨?_, fun x c e => ?_⟩, fun b o e => ⟨?_, ?_⟩, ?_, fun b o e hb => ?_, fun b hb hfr => ?_, ?_, fun b hb => ?_⟩,
  rfl, I.bare, Un.kept hk, ⟨m, hn, fun i x v e1 e2 e3 => ?_⟩, fun x c e => ?_, ?_, fun x c e => ?_, fun p hp => ?_, ?_, ?_⟩
 ·show (s.heap.push { cls := .type "list", data := .seq ([] : List Value).toArray }).objs.size ≤ s.heap.objs.size + 1
  rw [hsz]; exact Nat.le_refl _
 ·exact I.ok.inj x y c (B.sub I.ok h1) (B.sub I.ok h2)
 ·have q := B.ofC (y := x) hx
  obtain ⟨c, hc⟩ := closL_has (cells := X.env.cells) (cs := []) (mem_of_lookup' q)
  exact lookup_of_mem hc
 ·exact absurd hx (by show ¬ (false = true); decide)
 ·exact Nat.ne_of_lt (Nat.lt_succ_of_lt (hfl b hb))
 ·exact (hf b hb).2.2.2.2.1 x c (B.sub I.ok e)
 ·exact pushK b o (I.bk b o e)
 ·show upd H s.heap.objs.size (.lst []) b = none
  rw [updF b (lt b o (I.bk b o e))]; exact (I.bs b o e).2
 ·show X.base.objs.size ≤ (s.heap.push { cls := .type "list", data := .seq ([] : List Value).toArray }).objs.size
  rw [hsz]; exact Nat.le_succ_of_le (Nat.le_trans I.ok.bsz I.sz)
 ·rcases (hf b hb).2.2.2.1 with z | z
  ·exact I.ok.noex b o e z
  ·have := Heap.lt_size e
   exact absurd (Nat.lt_of_lt_of_le this (Nat.le_trans I.ok.bsz z)) (Nat.lt_irrefl _)
 ·rcases List.mem_cons.mp (I.stkSub b hfr) with e | z
  ·exact (hf b hb).2.1 e
  ·exact (hf b hb).2.2.1 z
 ·exact Heap.FunFrames.of_keeps (fun b o e _ => ⟨o, pushK b o e, rfl⟩) I.stack
 ·show upd H s.heap.objs.size (.lst []) b = none
  rw [updF b (frlt b hb)]; exact I.stkFree b hb
 ·have hi : xs.length ≤ i := by
   rcases Nat.lt_or_ge i xs.length with z | z
   ·unfold blkσ at e2
    rw [List.getElem?_append_left (by simpa using z), List.getElem?_replicate, if_pos z] at e2
    cases e2
   ·exact z
  have e2' : σ[i - xs.length]? = some (some v) := by
   unfold blkσ at e2
   rw [List.getElem?_append_right (by simpa using hi), List.length_replicate] at e2
   exact e2
  have e1' : (X.N.map (hid xs))[i - xs.length]? = some x := by
   have q : (blkN xs X.N)[i]? = some x := e1
   unfold blkN at q
   rw [List.getElem?_append_right hi] at q
   exact q
  rw [List.getElem?_map] at e1'
  cases eN : X.N[i - xs.length]? with
  | none => rw [eN] at e1'; cases e1'
  | some y =>
   rw [eN] at e1'
   have ey : hid xs y = x := Option.some.inj e1'
   have hy : y ∈ X.N := List.mem_of_getElem? eN
   have kf := B.kindF (y := x) e3
   unfold hid at ey
   by_cases hc : xs.contains y = true
   ·rw [if_pos hc] at ey
    rw [← ey, B.nohid y hy] at kf
    rcases kf with z | z <;> cases z
   ·rw [if_neg hc] at ey
    subst ey
    rcases kf with z | z
    ·rcases B.own (y, .local) (mem_of_lookup' z) rfl with q | q
     ·exact absurd (List.contains_iff_mem.mpr q) hc
     ·exact absurd (show (".0" : Str) ∈ X.N from q ▸ hy) B.nodot
    ·have kk := B.free (y, .free) (mem_of_lookup' z) rfl
     obtain ⟨m0, hn0, hl0⟩ := I.loc
     obtain ⟨u, ru, lk⟩ := hl0 _ y v eN e2' (.inr kk)
     refine ⟨u, ru, ?_⟩
     rcases lk with ⟨kl, _⟩ | ⟨_, c, ec, zc⟩
     ·rcases kk with kk | kk
      ·rw [show X.env.kindOf y = some .local from kl] at kk; cases kk
      ·rw [show X.env.kindOf y = some .local from kl] at kk; cases kk
     ·obtain ⟨c1, hc1⟩ := closL_has (cells := X.env.cells) (cs := []) (mem_of_lookup' z)
      obtain ⟨c2, hc2⟩ := lookup_of_mem hc1
      have hc3 := B.sub I.ok hc2
      rw [ec] at hc3
      cases hc3
      obtain ⟨oc, hoc, hdc⟩ := zc
      exact .inr ⟨B.kindC z, c, hc2, oc, hk0 c oc hoc, hdc⟩
 ·obtain ⟨v, oc, hoc, hdc⟩ := I.cell x c (B.sub I.ok e)
  exact ⟨v, oc, hk0 c oc hoc, hdc⟩
 ·show upd H s.heap.objs.size (.lst []) (s.heap.objs.size + 1) = none
  rw [upd_ne (Nat.succ_ne_self _)]; exact fresh _ (Nat.le_succ _)
 ·have e' := B.sub I.ok e
  rw [updF c (cl x c e')]; exact I.freeC x c e'
 ·have hp' : p ∈ X.pn ++ pins := by
   rcases List.mem_append.mp hp with z | z
   ·exact z
   ·exact nomatch z
  obtain ⟨q1, q2, q3, q4, q5⟩ := I.pin p hp'
  refine ⟨hk0 _ _ q1, by rw [updF _ (lt _ _ q1)]; exact q2, ?_, fun z => ?_, q5⟩
  ·exact Nat.ne_of_lt (Nat.lt_succ_of_lt (lt _ _ q1))
  ·rcases List.mem_cons.mp (I.stkSub _ z) with e | z
   ·exact q3 e
   ·exact q4 z
 ·refine I.hok.laid hk0 (Nat.le_refl _) ?_
  exact ⟨Nat.zero_le _, [], 0, .nil, hk _ _ (Heap.get?_push_size _ rfl)⟩
 ·show (blkσ xs σ).length = (blkN xs X.N).length
  unfold blkσ blkN
  rw [List.length_append, List.length_append, List.length_replicate, List.length_map, I.len]
theorem blk_end {fp : List Addr} {s' : Shared} {σ' : St} {H' : Hp} (I : Inv X pins σ H s) (hf : ∀ b ∈ fp, FpOk X pins H b)
  (J : Inv (blk X pins xs sc (s.heap.objs.size + 1) fp { s with heap := s.heap.push { cls := .type "list", data := .seq ([] : List Value).toArray } } (upd H s.heap.objs.size (.lst []))) [] σ' H' s') :
  Inv X pins σ H' s' := by
 have u1 : Un (frs X.stack) fp H (upd H s.heap.objs.size (.lst [])) s.heap (s.heap.push { cls := .type "list", data := .seq ([] : List Value).toArray }) :=
  Un.laid (fun b o e => Heap.get?_push_of_some _ e) (Nat.le_refl _) (I.hok.fresh (Nat.le_refl _))
 have u2 : Un (frs X.stack) fp (upd H s.heap.objs.size (.lst [])) H' (s.heap.push { cls := .type "list", data := .seq ([] : List Value).toArray }) s'.heap := J.base
 exact I.call' (s' := s') (ch := fp) J.os (u1.trans u2) J.hok J.bare fun b hb => ⟨(hf b hb).2.2.2.1, (hf b hb).2.1, (hf b hb).2.2.2.2.1, (hf b hb).2.2.2.2.2⟩
theorem blk_gone {fp : List Addr} {s' s'' : Shared} {σ' σ2 : St} {H' H2 : Hp} {h' : Heap} (I : Inv X pins σ H s)
  (hC : H2 (s.heap.objs.size + 1) = none) (I2 : Inv X pins σ2 H2 s'') (hs : Heap.SameBut (s.heap.objs.size + 1) s''.heap h') : Inv X pins σ2 H2 { s'' with heap := h' } := by
 have hL : s.heap.objs.size + 1 ≠ X.env.locals := Nat.ne_of_gt (Nat.lt_succ_of_lt I.lt)
 refine I2.turned (t' := s''.toks) (it := s.heap.objs.size + 1) (fun b o hb e => (hs.2 b hb).trans e) hC hL (.inr (Nat.le_succ_of_le I.sz)) (fun x c e => ?_) fun p hp => ?_
 ·obtain ⟨v, q⟩ := I.cell x c e
  exact Nat.ne_of_lt (Nat.lt_succ_of_lt q.lt)
 ·exact Nat.ne_of_lt (Nat.lt_succ_of_lt (Heap.lt_size (I.pin p hp).1))
end
def PIf (X : Cx) (ifs : List Expr) (t : TT) : Prop :=
 ∀ (pins : List (Addr × Obj)) (s : Shared) (σ : St) (H : Hp) (Q : Bool → Hp → Prop), Inv X pins σ H s → t σ H Q →
  wpAny (model X.prog X.w) X.A (forIn ifs true fun c r => if r = true then do let ok ← isTrue c X.env (eval c X.env); pure (ForInStep.yield ok) else pure (ForInStep.yield r)) (TP X pins σ Q) X.xe s
def tTrue : TT := fun _ H Q => Q true H
theorem pif_nil {X : Cx} : PIf X [] tTrue := fun _ _ _ H _ I h => wpAny_tests_nil ⟨H, I, h⟩
theorem pif_one {X : Cx} {c : Expr} {t : TT} (h : PT X c t) : PIf X [c] t := fun pins s σ H Q I q => wpAny_tests_one (h pins s σ H Q I q)
def tTurns (J : It) (g : TG) (tc : TT) (te : TE) (D : Addr) (Q : Hp → Prop) (σ : St) (H : Hp) : Prop :=
 ∃ W : Nat → Nat → St → Hp → Prop, (∃ m, W 0 m σ H) ∧ ∀ i m σ H, W i m σ H →
  (J.stop i H ∧ Q H) ∨ (J.go i H ∧ ∃ N : St → Hp → Prop, (∀ σ' H', N σ' H' → ∃ m', m' < m ∧ W (i + 1) m' σ' H') ∧ ∀ x H', J.yld i H x H' → g x σ H' fun σ2 H2 => tc σ2 H2 fun b H3 =>
   if b = true then te σ2 H3 fun v H4 => ∃ ys, H4 D = some (.lst ys) ∧ ys.length < sizeLine ∧ N σ2 (upd H4 D (.lst (ys ++ [v]))) else N σ2 H3)
theorem comp_loop {P : Program} {w : World} {K : PySem.W.Frag} {Y : Cx} (hP : Y.prog = P) (hw : Y.w = w) (hK : Y.K = K) {tg iter elt : Expr} {ifs : List Expr} {scope : Scope} {pos : Pos} {J : It} {fp : List Addr} {it D : Addr} {tn : Nat → Heap → Prop} {g : TG} {tc : TT} {te : TE}
  {Q : Hp → Prop} {R : Result → Shared → Prop} {s : Shared} {σ : St} {H : Hp}
  (hcalm : Y.calm = true) (hx : Y.xe = fun _ _ => False) (T : Turn P w K tg J fp it tn) (hg : PG Y tg g) (hc : PIf Y ifs tc) (he : PE Y elt te) (I : Inv Y [] σ H s) (st : tn 0 s.heap) (hf : ∀ b ∈ fp, FpOk Y [] H b) (h : tTurns J g tc te D Q σ H)
  (hR : ∀ σ' H' s', Inv Y [] σ' H' s' → Q H' → R (.ok .next) s') :
  codeAny (model P w) Y.A (.compLoop (.ListComp elt [⟨tg, iter, ifs, 0⟩] scope pos) 0 (.ref it) (.ref D) Y.env) R s := by
 subst hP hw hK
 obtain ⟨W, ⟨m0, w0⟩, turn⟩ := h
 have stat : ∀ {H' : Hp}, (∀ b ∈ fp, H' b = none) → ∀ b ∈ fp, FpOk Y [] H' b := fun hn b hb => ⟨hn b hb, (hf b hb).2⟩
 have no : ∀ {α : Type} {t : Sem α} {Qa : α → Shared → Prop} {E : Value → Shared → Prop} {s : Shared}, wpAny (model Y.prog Y.w) Y.A t Qa Y.xe s → wpAny (model Y.prog Y.w) Y.A t Qa E s := fun z => wpAny_mono z (fun _ _ q => q) fun _ _ q => by rw [hx] at q; exact q.elim
 refine codeAny_loop rfl (fun n s' => ∃ i σ' H', Inv Y [] σ' H' s' ∧ tn i s'.heap ∧ (∀ b ∈ fp, H' b = none) ∧ W i n σ' H') ?_ m0 ⟨0, σ, H, I, st, fun b hb => (hf b hb).1, w0⟩
 rintro n s3 ⟨i, σ3, H3, I3, st3, fr3, w3⟩
 show wpAny _ Y.A ((compTurn (.ListComp elt [⟨tg, iter, ifs, 0⟩] scope pos) 0 (.ref it) (.ref D) Y.env).onRaise (fun x => do noteFrame x Y.env; theTreesLotGoes x)) _ _ s3
 refine wpAny_noted ?_
 rw [compTurn_list]
 refine wpAny_bind (wpAny_standAt (wpAny_bind ?_))
 rcases turn i n σ3 H3 w3 with ⟨stop, qn⟩ | ⟨go, N, hN, step⟩
 ·refine wpAny_mono (T.done Y rfl rfl rfl hcalm i [] s3 σ3 H3 _ I3 (stat fr3) st3 stop) (fun r s4 ⟨hr, I4⟩ => ?_) fun _ _ q => q
  subst hr
  exact wpAny_pure (hR σ3 H3 s4 I4 qn)
 ·refine wpAny_mono (T.item Y rfl rfl rfl hcalm i [] s3 σ3 H3 _ I3 (stat fr3) st3 go) (fun r s4 ⟨u, hr, h4⟩ => ?_) fun _ _ q => q
  subst hr
  refine wpAny_bind (wpAny_mono h4 (fun _ s5 ⟨x, H5, I5, r5, y5, st5, fr5⟩ => ?_) fun _ _ q => q)
  have I5' := I5.pinned (stat fr5) (T.obj _ _ st5)
  have again : ∀ {s7 : Shared} {σ7 : St} {H7 : Hp}, Inv Y ([] ++ pinsAt fp s5.heap) σ7 H7 s7 → N σ7 H7 → ∃ m, m < n ∧ ∃ i σ' H', Inv Y [] σ' H' s7 ∧ tn i s7.heap ∧ (∀ b ∈ fp, H' b = none) ∧ W i m σ' H' := fun {s7 σ7 H7} I7 n7 => by
   obtain ⟨m', hm, w7⟩ := hN σ7 H7 n7
   refine ⟨m', hm, i + 1, σ7, H7, I7.unpinned, T.keep _ _ _ st5 fun b hb o e => (I7.pin (b, o) (List.mem_append_right _ (List.mem_append_right _ (mem_pinsAt hb e)))).1, fun b hb => ?_, w7⟩
   obtain ⟨o, e, d⟩ := T.obj _ _ st5 b hb
   exact (I7.pin (b, o) (List.mem_append_right _ (List.mem_append_right _ (mem_pinsAt hb e)))).2.1
  refine wpAny_bind (no (thn (hg _ s5 σ3 H5 x u _ I5' r5 (step x H5 y5)) fun _ s6 ⟨σ6, H6, I6, q6⟩ => ?_))
  refine wpAny_bind (no (thn (hc _ s6 σ6 H6 _ I6 q6) fun ok s7 ⟨H7, I7, q7⟩ => ?_))
  cases ok with
  | false => exact wpAny_pure ⟨rfl, again I7 q7⟩
  | true =>
   refine wpAny_bind (wpAny_bind (no (thn (he _ s7 σ6 H7 _ I7 q7) fun v s8 ⟨y, H8, I8, r8, ys, eD, hz, n8⟩ => ?_)))
   refine wpAny_bind (no (thn (mt_append _ s8 σ6 H8 (.ref D) [y] (.ref D) [v] (fun _ H9 => N σ6 H9) I8 rfl (.cons r8 .nil) ⟨D, ys, y, rfl, rfl, eD, hz, n8⟩) fun _ s9 ⟨_, H9, I9, _, n9⟩ => ?_))
   exact wpAny_pure (wpAny_pure ⟨rfl, again I9 n9⟩)
section
variable {X : Cx}
def tComp (xs : List Str) (wi : TI) (g : TG) (tc : TT) (te : TE) : TE := fun σ H Q => wi σ H fun J H1 => ∀ D, H1 D = none → tTurns J g tc te D (fun H' => Q (.ref D) H') (blkσ xs σ) (upd H1 D (.lst []))
theorem comp_core {tg iter elt : Expr} {ifs : List Expr} {sc : Scope} {pos pos' : Pos} {xs : List Str} {wi : TI} {g : TG} {tc : TT} {te : TE} {use : Option (Value → Sem Unit)} (hcalm : X.calm = true) (B : BlkScope X xs sc) (hi : PI X tg iter wi)
  (hb : ∀ pins C fp s3 H3, PG (blk X pins xs sc C fp s3 H3) tg g ∧ PIf (blk X pins xs sc C fp s3 H3) ifs tc ∧ PE (blk X pins xs sc C fp s3 H3) elt te)
  {pins : List (Addr × Obj)} {s : Shared} {σ : St} {H : Hp} {Q : Value → Shared → Prop} {QA : Addr → Hp → Prop} (I : Inv X pins σ H s) (h : wi σ H fun J H1 => ∀ D, H1 D = none → tTurns J g tc te D (QA D) (blkσ xs σ) (upd H1 D (.lst [])))
  (fin : ∀ C D H' s' m, s'.heap.Ns C m → H' C = none → Inv X pins σ H' s' → QA D H' → (∀ σ2 H2 s2 h2, Inv X pins σ2 H2 s2 → H2 C = none → Heap.SameBut C s2.heap h2 → Inv X pins σ2 H2 { s2 with heap := h2 }) → C ≠ X.env.locals → (∀ x c, X.env.cells.lookup x = some c → c ≠ C) →
   match use with
   | none => ∀ h', Heap.SameBut C s'.heap h' → Q (.ref D) { s' with heap := h' }
   | some u => wpAny (model X.prog X.w) X.A (u (.ref D)) (fun _ s'' => ∃ m, s''.heap.Ns C m ∧ ∀ h', Heap.SameBut C s''.heap h' → Q .none { s'' with heap := h' }) X.xe s')
  (hs : ∀ x, foldedSetIterable iter X.env x = pure x := by intro _; rfl) :
  wpAny (model X.prog X.w) X.A (comprehension (.ListComp elt [⟨tg, iter, ifs, 0⟩] sc pos) sc X.env pos' (newList []) false (eval iter X.env) use) Q X.xe s := by
 refine wpAny_comprehension_free (cl := closL X.env.cells sc.names []) (use := use) rfl hs (closureFor_closL (B.cells I.ok)) B.kind B.locs
  (thn (hi pins s σ H _ I h) fun v s1 h1 => thn h1 fun itv s2 h2 => ?_)
 obtain ⟨it, fp, tn, J, H2, e, I2, T, st2, f2, tr⟩ := h2
 subst e
 have hfl : ∀ b ∈ fp, b < s2.heap.objs.size := fun b hb => by obtain ⟨o, e, _⟩ := T.obj _ _ st2 b hb; exact Heap.lt_size e
 have hD : H2 s2.heap.objs.size = none := I2.hok.fresh (Nat.le_refl _)
 refine wpAny_newObj_type (wpAny_newFunctionEnv B.nocell (by intro y hy; simp at hy) (fun h1 hns hsb => ?_) B.kind)
 have hsz : (s2.heap.push { cls := .type "list", data := .seq ([] : List Value).toArray }).objs.size = s2.heap.objs.size + 1 := Heap.size_push ..
 dsimp only at hns hsb ⊢
 rw [hsz] at hns hsb ⊢
 have hk : ∀ b o, (s2.heap.push { cls := .type "list", data := .seq ([] : List Value).toArray }).get? b = some o → h1.get? b = some o := fun b o e =>
  (hsb.2 b (Nat.ne_of_lt (by have := Heap.lt_size e; rw [hsz] at this; exact this))).trans (Heap.get?_push_of_some _ e)
 have J0 := blk_start (tk := s2.toks + ([] : List (Str × Value)).length) hcalm B I2 f2 hfl hns hk
 have st3 : tn 0 h1 := T.keep _ _ _ st2 fun b _ o e => hk b o (Heap.get?_push_of_some _ e)
 have fY : ∀ b ∈ fp, FpOk (blk X pins xs sc (s2.heap.objs.size + 1) fp { s2 with heap := s2.heap.push { cls := .type "list", data := .seq ([] : List Value).toArray } } (upd H2 s2.heap.objs.size (.lst []))) [] (upd H2 s2.heap.objs.size (.lst [])) b := fun b hb => by
  obtain ⟨q1, q2, q3, q4, q5, q6⟩ := f2 b hb
  refine ⟨by rw [upd_ne (Nat.ne_of_lt (hfl b hb))]; exact q1, Nat.ne_of_lt (Nat.lt_succ_of_lt (hfl b hb)), fun z => ?_, .inl hb, fun x c e => q5 x c (B.sub I2.ok e), fun p hp => ?_⟩
  ·rcases List.mem_cons.mp (I2.stkSub _ z) with e | z
   ·exact q2 e
   ·exact q3 z
  ·rcases List.mem_append.mp hp with z | z
   ·exact q6 p z
   ·exact nomatch z
 have loop : ∀ (RR : Result → Shared → Prop), (∀ σ' H' s', Inv (blk X pins xs sc (s2.heap.objs.size + 1) fp { s2 with heap := s2.heap.push { cls := .type "list", data := .seq ([] : List Value).toArray } } (upd H2 s2.heap.objs.size (.lst []))) [] σ' H' s' → QA s2.heap.objs.size H' → RR (.ok .next) s') →
   codeAny (model X.prog X.w) X.A (.compLoop (.ListComp elt [⟨tg, iter, ifs, 0⟩] sc pos) 0 (.ref it) (.ref s2.heap.objs.size) (compEnvC sc (closL X.env.cells sc.names []) (s2.heap.objs.size + 1) X.env)) RR
    { s2 with heap := h1, toks := s2.toks + ([] : List (Str × Value)).length } := fun RR hR =>
  comp_loop (Y := blk X pins xs sc (s2.heap.objs.size + 1) fp { s2 with heap := s2.heap.push { cls := .type "list", data := .seq ([] : List Value).toArray } } (upd H2 s2.heap.objs.size (.lst []))) rfl rfl rfl rfl rfl T (hb _ _ _ _ _).1 (hb _ _ _ _ _).2.1 (hb _ _ _ _ _).2.2 J0 st3 fY (tr _ hD) hR
 refine codeAny_compStart_list (loop _ ?_) (T.self _ 0 _ _ _ st3 (loop _ ?_))
 all_goals
  intro σ' H' s' J' q'
  have I' := blk_end (sc := sc) I2 f2 J'
  obtain ⟨m, hm, _⟩ := J'.loc
  have hC : H' (s2.heap.objs.size + 1) = none := J'.free
  have z := fin (s2.heap.objs.size + 1) s2.heap.objs.size H' s' m hm hC I' q' (fun σ3 H3 s3 h3 I3 c3 sb => blk_gone (fp := fp) (s' := s') (σ' := σ') (H' := H') I2 c3 I3 sb) (Nat.ne_of_gt (Nat.lt_succ_of_lt I2.lt))
   (fun x c e => by obtain ⟨v, q⟩ := I2.cell x c e; exact Nat.ne_of_lt (Nat.lt_succ_of_lt q.lt))
  cases use with
  | none => exact ⟨m, hm, fun h' sb => z h' sb⟩
  | some u => exact z
theorem pe_comp {tg iter elt : Expr} {ifs : List Expr} {sc : Scope} {pos : Pos} (xs : List Str) {wi : TI} {g : TG} {tc : TT} {te : TE} (hcalm : X.calm = true) (B : BlkScope X xs sc) (hi : PI X tg iter wi)
  (hb : ∀ pins C fp s3 H3, PG (blk X pins xs sc C fp s3 H3) tg g ∧ PIf (blk X pins xs sc C fp s3 H3) ifs tc ∧ PE (blk X pins xs sc C fp s3 H3) elt te) (hs : ∀ x, foldedSetIterable iter X.env x = pure x := by intro _; rfl) :
  PE X (.ListComp elt [⟨tg, iter, ifs, 0⟩] sc pos) (tComp xs wi g tc te) := by
 intro pins s σ H Q I h
 rw [eval_ListComp]
 exact comp_core (use := none) (Q := EP X pins σ Q) (QA := fun D H' => Q (.ref D) H') hcalm B hi hb I h (fun C D H' s' m _ hC I' q back _ _ h' sb => ⟨.ref D, H', back σ H' s' h' I' hC sb, rfl, q⟩) hs
theorem ps_comp {tg iter elt : Expr} {ifs : List Expr} {sc : Scope} {pos spos py : Pos} (xs : List Str) {j : Nat} {y : Str} {wi : TI} {g : TG} {tc : TT} {te : TE} (hcalm : X.calm = true) (B : BlkScope X xs sc) (hi : PI X tg iter wi)
  (hb : ∀ pins C fp s3 H3, PG (blk X pins xs sc C fp s3 H3) tg g ∧ PIf (blk X pins xs sc C fp s3 H3) ifs tc ∧ PE (blk X pins xs sc C fp s3 H3) elt te)
  (hN : X.N.Nodup) (hj : X.N[j]? = some y) (hy : Loc X.env.scope y) (hsw : swapsWith (.ListComp elt [⟨tg, iter, ifs, 0⟩] sc pos) (some (.Name y py)) spos.line X.env = pure true)
  (hfn : X.fn y = true ∨ X.env.scope.names.lookup y = some .local := by first | exact .inl rfl | exact .inr rfl | assumption) (hs : ∀ x, foldedSetIterable iter X.env x = pure x := by intro _; rfl) :
  PS X (.Assign [.Name y py] (.ListComp elt [⟨tg, iter, ifs, 0⟩] sc pos) spos) (tAsg (tComp xs wi g tc te) (gName j)) := by
 intro pins s σ H D I h
 rw [exec_Assign_Name_used _ _ _ _ hsw]
 refine wpAny_bind (wpAny_standAt (wpAny_bind ?_))
 show wpAny _ X.A (do let _ ← comprehension (.ListComp elt [⟨tg, iter, ifs, 0⟩] sc pos) sc X.env _ (newList []) false (eval iter X.env) (some (assign (.Name y py) X.env))) _ _ s
 refine wpAny_bind (wpAny_mono (comp_core (use := some (assign (.Name y py) X.env)) (Q := fun _ s' => SP X pins D .next s') (QA := fun Da H' => D.nx (σ.set j (some (.ref Da))) H') hcalm B hi hb I h (fun C Da H' s' m hm hC I' q back hCL hCc => ?_) hs) (fun _ s' hq => wpAny_pure (wpAny_pure hq)) fun _ _ e => e)
 refine wpAny_assign_Name (store_ok2 I' hN hj hy (v := .ref Da) rfl (fun s2 I2 ⟨a, sb, ha⟩ => ?_) hfn)
 have hne : C ≠ a := by
  rcases ha with z | z
  ·rw [z]; exact hCL
  ·exact fun e => hCc _ _ z e.symm
 exact ⟨m, hm.sameBut sb hne, fun h' sb' => ⟨_, H', back _ H' s2 h' I2 hC sb', q⟩⟩
end
end L2
namespace L2
open PySem PySem.Spec PyProof.Rows PySem.SeqAt
inductive EqV (K : PySem.W.Frag) (H : Hp) : Nat → V → V → Bool → Prop where
 | int {n : Nat} (i j : Int) : EqV K H n (.int i) (.int j) (i == j)
 | bl {n : Nat} (i j : Bool) : EqV K H n (.bl i) (.bl j) (i == j)
 | str {n : Nat} (i j : Str) : EqV K H n (.str i) (.str j) (i == j)
 | same {n : Nat} (a : Addr) : EqV K H n (.ref a) (.ref a) true
 | non {n : Nat} : EqV K H n .non .non true
 | lst {n : Nat} {a b : Addr} {xs ys : List V} {e : Nat → Bool} (ne : a ≠ b) (h1 : SqL K H a xs) (h2 : SqL K H b ys) (hl : xs.length = ys.length)
   (he : ∀ (j : Nat) (x y : V), xs[j]? = some x → ys[j]? = some y → EqV K H n x y (e j)) : EqV K H (n + 1) (.ref a) (.ref b) ((List.range xs.length).all e)
 | lstN {n : Nat} {a b : Addr} {xs ys : List V} (ne : a ≠ b) (h1 : SqL K H a xs) (h2 : SqL K H b ys) (hl : xs.length ≠ ys.length) : EqV K H (n + 1) (.ref a) (.ref b) false
 | tup {n : Nat} {a b : Addr} {xs ys : List V} {e : Nat → Bool} (ne : a ≠ b) (h1 : SqT K H a xs) (h2 : SqT K H b ys) (hl : xs.length = ys.length)
   (he : ∀ (j : Nat) (x y : V), xs[j]? = some x → ys[j]? = some y → EqV K H n x y (e j)) : EqV K H (n + 1) (.ref a) (.ref b) ((List.range xs.length).all e)
section
variable {X : Cx} {pins : List (Addr × Obj)} {σ : St} {H : Hp} {s : Shared}
theorem vals_at {xs : List V} {us : List Value} (r : Vals xs us) {j : Nat} (h : j < us.toArray.size) : ∃ x, xs[j]? = some x ∧ RelV x us.toArray[j] := by
 have hl := r.length
 have hj : j < xs.length := by rw [hl]; simpa using h
 obtain ⟨u, hu, ru⟩ := r.get (List.getElem?_eq_getElem hj)
 have e : us.toArray[j] = u := by
  have : us[j]? = some us.toArray[j] := by simp
  rw [this] at hu; exact Option.some.inj hu
 exact ⟨xs[j], List.getElem?_eq_getElem hj, by rw [e]; exact ru⟩
theorem EqV.at (I : Inv X pins σ H s) : ∀ {n : Nat} {x y : V} {b : Bool}, EqV X.K H n x y b → ∀ {A : Around} {u v : Value}, A.units + n < cLine → RelV x u → RelV y v → EqAt A s u v b := by
 intro n x y b h
 induction h with
 | int i j => intro A u v _ ru rv; obtain ⟨t, rfl⟩ := ru; obtain ⟨t', rfl⟩ := rv; exact EqAt.int_int _ _ _ _
 | bl i j => intro A u v _ ru rv; cases ru; cases rv; exact EqAt.bool_bool _ _
 | str i j => intro A u v _ ru rv; obtain ⟨t, rfl⟩ := ru; obtain ⟨t', rfl⟩ := rv; exact EqAt.str_str _ _ _ _
 | same a => intro A u v _ ru rv; cases ru; cases rv; exact EqAt.same _
 | non => intro A u v _ ru rv; cases ru; cases rv; exact EqAt.same _
 | @lst n a b xs ys e ne h1 h2 hl he ih =>
  intro A u v hu ru rv
  cases ru; cases rv
  obtain ⟨i1, r1, p1, _⟩ := I.list h1
  obtain ⟨i2, r2, p2, _⟩ := I.list h2
  have e1 : xs.length = i1.toArray.size := by rw [r1.length]; simp
  have e2 : ys.length = i2.toArray.size := by rw [r2.length]; simp
  rw [e1]
  refine EqAt.of_refs ne (RcAt.lists p1.isList p2.isList (by omega) (by omega) fun j k1 k2 => ?_)
  obtain ⟨x, hx, rx⟩ := vals_at r1 k1
  obtain ⟨y, hy, ry⟩ := vals_at r2 k2
  exact ih j x y hx hy (by show A.units + 1 + n < cLine; omega) rx ry
 | @lstN n a b xs ys ne h1 h2 hl =>
  intro A u v hu ru rv
  cases ru; cases rv
  obtain ⟨i1, r1, p1, _⟩ := I.list h1
  obtain ⟨i2, r2, p2, _⟩ := I.list h2
  refine EqAt.of_refs ne (RcAt.lists_lengths p1.isList p2.isList ?_ (by omega))
  have e1 : xs.length = i1.toArray.size := by rw [r1.length]; simp
  have e2 : ys.length = i2.toArray.size := by rw [r2.length]; simp
  exact bne_iff_ne.mpr (by omega)
 | @tup n a b xs ys e ne h1 h2 hl he ih =>
  intro A u v hu ru rv
  cases ru; cases rv
  obtain ⟨i1, r1, p1, _⟩ := I.tuple h1
  obtain ⟨i2, r2, p2, _⟩ := I.tuple h2
  have e1 : xs.length = i1.toArray.size := by rw [r1.length]; simp
  have e2 : ys.length = i2.toArray.size := by rw [r2.length]; simp
  have q := RcAt.tuples (A := A) (e := e) p1 p2 (by omega) fun j k1 k2 => by
   obtain ⟨x, hx, rx⟩ := vals_at r1 k1
   obtain ⟨y, hy, ry⟩ := vals_at r2 k2
   exact ih j x y hx hy (by show A.units + 1 + n < cLine; omega) rx ry
  have ez : i1.toArray.size = i2.toArray.size := by omega
  rw [ez, Nat.min_self, beq_self_eq_true, Bool.and_true, ← ez, ← e1] at q
  exact EqAt.of_refs ne q
inductive RcV (K : PySem.W.Frag) (H : Hp) : V → V → Bool → Prop where
 | lst {a b : Addr} {xs ys : List V} {e : Nat → Bool} (h1 : SqL K H a xs) (h2 : SqL K H b ys) (hl : xs.length = ys.length)
   (he : ∀ (j : Nat) (x y : V), xs[j]? = some x → ys[j]? = some y → EqV K H 4 x y (e j)) : RcV K H (.ref a) (.ref b) ((List.range xs.length).all e)
 | lstN {a b : Addr} {xs ys : List V} (h1 : SqL K H a xs) (h2 : SqL K H b ys) (hl : xs.length ≠ ys.length) : RcV K H (.ref a) (.ref b) false
 | tup {a b : Addr} {xs ys : List V} {e : Nat → Bool} (h1 : SqT K H a xs) (h2 : SqT K H b ys) (hl : xs.length = ys.length)
   (he : ∀ (j : Nat) (x y : V), xs[j]? = some x → ys[j]? = some y → EqV K H 4 x y (e j)) : RcV K H (.ref a) (.ref b) ((List.range xs.length).all e)
theorem RcV.at (I : Inv X pins σ H s) {x y : V} {b : Bool} (h : RcV X.K H x y b) {A : Around} {u v : Value} (hu : A.units + 8 < cLine) (ru : RelV x u) (rv : RelV y v) : RcAt A s u v b ∧ RcNeAt A s u v (!b) := by
 cases h with
 | @lst a b xs ys e h1 h2 hl he =>
  cases ru; cases rv
  obtain ⟨i1, r1, p1, _⟩ := I.list h1
  obtain ⟨i2, r2, p2, _⟩ := I.list h2
  have e1 : xs.length = i1.toArray.size := by rw [r1.length]; simp
  have e2 : ys.length = i2.toArray.size := by rw [r2.length]; simp
  have el : ∀ j (k1 : j < i1.toArray.size) (k2 : j < i2.toArray.size), EqAt A.in1 s i1.toArray[j] i2.toArray[j] (e j) := fun j k1 k2 => by
   obtain ⟨x, hx, rx⟩ := vals_at r1 k1
   obtain ⟨y, hy, ry⟩ := vals_at r2 k2
   exact (he j x y hx hy).at I (by show A.units + 1 + 4 < cLine; omega) rx ry
  rw [e1]
  exact ⟨RcAt.lists p1.isList p2.isList (by omega) (by omega) el, RcNeAt.lists p1.isList p2.isList (by omega) (by omega) el⟩
 | @lstN a b xs ys h1 h2 hl =>
  cases ru; cases rv
  obtain ⟨i1, r1, p1, _⟩ := I.list h1
  obtain ⟨i2, r2, p2, _⟩ := I.list h2
  have e1 : xs.length = i1.toArray.size := by rw [r1.length]; simp
  have e2 : ys.length = i2.toArray.size := by rw [r2.length]; simp
  have q : (i1.toArray.size != i2.toArray.size) = true := bne_iff_ne.mpr (by omega)
  exact ⟨RcAt.lists_lengths p1.isList p2.isList q (by omega), RcNeAt.lists_lengths p1.isList p2.isList q (by omega)⟩
 | @tup a b xs ys e h1 h2 hl he =>
  cases ru; cases rv
  obtain ⟨i1, r1, p1, _⟩ := I.tuple h1
  obtain ⟨i2, r2, p2, _⟩ := I.tuple h2
  have e1 : xs.length = i1.toArray.size := by rw [r1.length]; simp
  have e2 : ys.length = i2.toArray.size := by rw [r2.length]; simp
  have el : ∀ j (k1 : j < i1.toArray.size) (k2 : j < i2.toArray.size), EqAt A.in1 s i1.toArray[j] i2.toArray[j] (e j) := fun j k1 k2 => by
   obtain ⟨x, hx, rx⟩ := vals_at r1 k1
   obtain ⟨y, hy, ry⟩ := vals_at r2 k2
   exact (he j x y hx hy).at I (by show A.units + 1 + 4 < cLine; omega) rx ry
  have ez : i1.toArray.size = i2.toArray.size := by omega
  have q1 := RcAt.tuples (A := A) (e := e) p1 p2 (by omega) el
  have q2 := RcNeAt.tuples (A := A) (e := e) p1 p2 (by omega) el
  rw [ez, Nat.min_self, beq_self_eq_true, Bool.and_true, ← ez, ← e1] at q1 q2
  exact ⟨q1, q2⟩
def rEqD (K : PySem.W.Frag) : R2 := fun x y H Q => ∃ b, RcV K H x y b ∧ Q (.bl b) H
def rNeD (K : PySem.W.Frag) : R2 := fun x y H Q => ∃ b, RcV K H x y b ∧ Q (.bl (!b)) H
theorem op_eqD (hu : X.A.units + 64 < cLine) : OpR X (compareOp .Eq) (rEqD X.K) := by
 intro pins s σ H x y v u Q I rx ry ⟨b, h, q⟩
 exact (h.at I (by omega) rx ry).1 _ _ _ _ ⟨.bl b, H, I, rfl, q⟩
theorem op_neD (hu : X.A.units + 64 < cLine) : OpR X (compareOp .NotEq) (rNeD X.K) := by
 intro pins s σ H x y v u Q I rx ry ⟨b, h, q⟩
 exact (h.at I (by omega) rx ry).2 _ _ _ _ ⟨.bl (!b), H, I, rfl, q⟩
end
theorem range_all_eq {α : Type} [BEq α] [LawfulBEq α] : ∀ {xs ys : List α}, xs.length = ys.length → (List.range xs.length).all (fun j => xs[j]? == ys[j]?) = (xs == ys) := by
 intro xs ys hl
 rw [Bool.eq_iff_iff, List.all_eq_true, beq_iff_eq]
 constructor
 ·intro h
  refine List.ext_getElem? fun j => ?_
  by_cases hj : j < xs.length
  ·exact eq_of_beq (h j (List.mem_range.mpr hj))
  ·rw [List.getElem?_eq_none (by omega), List.getElem?_eq_none (by omega)]
 ·intro h j _
  rw [h]; exact beq_self_eq_true _
section
variable {K : PySem.W.Frag} {H : Hp}
theorem eqv_ints_item {n : Nat} {xs ys : List Int} : ∀ (j : Nat) (x y : V), (xs.map V.int)[j]? = some x → (ys.map V.int)[j]? = some y → EqV K H n x y (xs[j]? == ys[j]?) := by
 intro j x y hx hy
 rw [List.getElem?_map] at hx hy
 cases ex : xs[j]? with
 | none => rw [ex] at hx; cases hx
 | some i =>
  cases ey : ys[j]? with
  | none => rw [ey] at hy; cases hy
  | some k =>
   rw [ex] at hx; rw [ey] at hy; cases hx; cases hy
   have e : (some i == some k) = (i == k) := by rfl
   rw [e]
   exact EqV.int i k
theorem eqv_ints {n : Nat} {a b : Addr} {xs ys : List Int} (ne : a ≠ b) (h1 : SqL K H a (xs.map V.int)) (h2 : SqL K H b (ys.map V.int)) : EqV K H (n + 1) (.ref a) (.ref b) (xs == ys) := by
 by_cases hl : xs.length = ys.length
 ·have q := EqV.lst (n := n) (e := fun j => xs[j]? == ys[j]?) ne h1 h2 (by simpa using hl) eqv_ints_item
  rw [List.length_map, range_all_eq hl] at q
  exact q
 ·have e : (xs == ys) = false := by rw [beq_eq_false_iff_ne]; intro e; exact hl (by rw [e])
  rw [e]
  exact EqV.lstN ne h1 h2 (by simpa using hl)
theorem rcv_ints {a b : Addr} {xs ys : List Int} (h1 : SqL K H a (xs.map V.int)) (h2 : SqL K H b (ys.map V.int)) : RcV K H (.ref a) (.ref b) (xs == ys) := by
 by_cases hl : xs.length = ys.length
 ·have q := RcV.lst (e := fun j => xs[j]? == ys[j]?) h1 h2 (by simpa using hl) eqv_ints_item
  rw [List.length_map, range_all_eq hl] at q
  exact q
 ·have e : (xs == ys) = false := by rw [beq_eq_false_iff_ne]; intro e; exact hl (by rw [e])
  rw [e]
  exact RcV.lstN h1 h2 (by simpa using hl)
end
section
variable {X : Cx}
def rIsi (K : PySem.W.Frag) (T : String) : List V → Hp → VK → Prop := fun vs H Q => ∃ x t b, vs = [x, .ty T] ∧ TyOf K H x t ∧ PySem.W.kitOne K t (.type T) = some b ∧ Q (.bl b) H
theorem call_isi (T : String) : CallR X (.builtin "isinstance") (rIsi X.K T) := by
 intro pins s σ H xs us Q I r h
 obtain ⟨x, t, b, rfl, ty, e, q⟩ := h
 obtain ⟨u, v, rfl, ru, rv⟩ := r.two
 cases rv
 exact isinst_ok I ru ty e fun tk => ⟨.bl b, H, I.tok tk, rfl, q⟩
theorem rng_list {pins : List (Addr × Obj)} {σ : St} {H : Hp} {s : Shared} {Q : VK} {E : Value → Shared → Prop} {lo hi : Int} {t u v : Tok} {tk : Nat} (hcalm : X.calm = true) (I : Inv X pins σ H s) (h1 : -(2 ^ 20) ≤ lo) (h2 : lo < 2 ^ 20) (h3 : -(2 ^ 20) ≤ hi) (h4 : hi < 2 ^ 20)
  (q : ∀ p, H p = none → Q (.ref p) (upd H p (.lst ((List.range (hi - lo).toNat).map fun i : Nat => V.int (lo + i))))) :
  wpAny (model X.prog X.w) X.A (call (.type "list") [.ref s.heap.objs.size]) (EP X pins σ Q) E { s with heap := s.heap.push { cls := .type "range", data := .fields #[.int lo t, .int hi u, .int 1 v] }, toks := tk } := by
 have I1 : Inv X pins σ H { s with heap := s.heap.push { cls := .type "range", data := .fields #[.int lo t, .int hi u, .int 1 v] }, toks := tk } := I.kept fun b o e => Heap.get?_push_of_some _ e
 refine call_list_range (n := (hi - lo).toNat) (I.ok.hd hcalm) (IsRange.new ..) (small_one (by omega) (by omega) (by omega) (by omega)) (by rw [rangeSize_one]; split <;> omega) (by omega) fun h' tk' acc' c' hk hS hacc => ?_
 refine ⟨.ref _, _, I1.laid (t' := tk') hk (Nat.le_refl _) (show ObjOk X.prog X.w _ h' _ (.lst ((List.range (hi - lo).toNat).map fun i : Nat => V.int (lo + i))) from ⟨?_, acc'.toList, c', ?_, by simpa using hS⟩), rfl, q _ (I1.hok.fresh (Nat.le_refl _))⟩
 ·rw [List.length_map, List.length_range]
  exact Nat.le_trans (show (hi - lo).toNat ≤ 2 ^ 22 by omega) (by decide)
 ·have key : ∀ (n : Nat) (us : List Value) (f : Nat → Int), us.length = n → (∀ (j : Nat) (u : Value), us[j]? = some u → ∃ t, u = Value.int (f j) t) → Vals ((List.range n).map fun i : Nat => V.int (f i)) us := by
   intro n
   induction n with
   | zero => intro us f hl _; have : us = [] := List.eq_nil_of_length_eq_zero hl; subst this; exact .nil
   | succ n ih =>
    intro us f hl hu
    cases us with
    | nil => cases hl
    | cons u0 r =>
     rw [List.range_succ_eq_map, List.map_cons, List.map_map]
     refine .cons (hu 0 u0 rfl) ?_
     exact ih r (fun i => f (i + 1)) (by simpa using hl) fun j w hw => hu (j + 1) w (by simpa using hw)
  refine key _ _ (fun i => lo + i) (by rw [Array.length_toList]; exact hacc.1) fun j w hw => ?_
  obtain ⟨t, e⟩ := hacc.2 j w (by rw [← Array.getElem?_toList]; exact hw)
  exact ⟨t, by rw [e, Int.mul_one]⟩
def tLRng (ta : TA) (lo : List V → Option (Int × Int)) : TE := fun σ H Q => ta σ H fun vs H1 => ∃ i j, lo vs = some (i, j) ∧ (-(2 ^ 20) ≤ i ∧ i < 2 ^ 20 ∧ -(2 ^ 20) ≤ j ∧ j < 2 ^ 20) ∧ ∀ p, H1 p = none → Q (.ref p) (upd H1 p (.lst ((List.range (j - i).toNat).map fun k : Nat => V.int (i + k))))
def rg1 : List V → Option (Int × Int)
 | [.int j] => some (0, j)
 | _ => none
def rg2 : List V → Option (Int × Int)
 | [.int i, .int j] => some (i, j)
 | _ => none
theorem pe_list_range1 {a : Expr} {ta : TA} {p pos p' pos' : Pos} (hcalm : X.calm = true) (hg : Gl X "range") (hm : X.mg "range" = none) (hg' : Gl X "list") (hm' : X.mg "list" = none) (ha : PA X [a] ta) (hs : starEach [a] X.env = [(false, eval a X.env)] := by rfl)
  (hs' : starEach [.Call (.Name "range" p) [a] [] pos] X.env = [(false, eval (.Call (.Name "range" p) [a] [] pos) X.env)] := by rfl) :
  PE X (.Call (.Name "list" p') [.Call (.Name "range" p) [a] [] pos] [] pos') (tLRng ta rg1) := by
 intro pins s σ H Q I h
 refine Call_ (ld_blt I hg' hm' boot_list (PyProof.Rows.callWith_type1 ?_ hs' rfl))
 rw [hs']
 show wpAny _ _ (spliced ((false, eval (.Call (.Name "range" p) [a] [] pos) X.env) :: [])) _ _ s
 refine Calls.spliced_cons (Call_ (ld_blt I hg hm boot_range (PyProof.Rows.callWith_type1 (thn (ha pos pins s σ H _ I h) fun us s1 ⟨vs, H1, I1, r1, q1⟩ => ?_) hs rfl)))
 obtain ⟨i, j, e, ⟨q1, q2, q3, q4⟩, q⟩ := q1
 cases r1 with
 | nil => cases e
 | @cons x u xs us r rr =>
  cases rr with
  | cons _ _ => cases x <;> cases e
  | nil =>
   cases x with
   | int k =>
    cases e
    obtain ⟨t, rfl⟩ := r
    exact call_range_1 (Calls.spliced_nil (rng_list hcalm I1 q1 q2 q3 q4 q))
   | _ => cases e
theorem pe_list_range2 {a b : Expr} {ta : TA} {p pos p' pos' : Pos} (hcalm : X.calm = true) (hg : Gl X "range") (hm : X.mg "range" = none) (hg' : Gl X "list") (hm' : X.mg "list" = none) (ha : PA X [a, b] ta)
  (hs : starEach [a, b] X.env = [(false, eval a X.env), (false, eval b X.env)] := by rfl) (hs2 : starEach [b] X.env = [(false, eval b X.env)] := by rfl)
  (hs' : starEach [.Call (.Name "range" p) [a, b] [] pos] X.env = [(false, eval (.Call (.Name "range" p) [a, b] [] pos) X.env)] := by rfl) :
  PE X (.Call (.Name "list" p') [.Call (.Name "range" p) [a, b] [] pos] [] pos') (tLRng ta rg2) := by
 intro pins s σ H Q I h
 refine Call_ (ld_blt I hg' hm' boot_list (PyProof.Rows.callWith_type1 ?_ hs' rfl))
 rw [hs']
 show wpAny _ _ (spliced ((false, eval (.Call (.Name "range" p) [a, b] [] pos) X.env) :: [])) _ _ s
 refine Calls.spliced_cons (Call_ (ld_blt I hg hm boot_range (PyProof.Rows.callWith_type1 (thn (ha pos pins s σ H _ I h) fun us s1 ⟨vs, H1, I1, r1, q1⟩ => ?_) (by rw [hs, hs2]) (by rw [hs2]; rfl))))
 obtain ⟨i, j, e, ⟨q1, q2, q3, q4⟩, q⟩ := q1
 cases r1 with
 | nil => cases e
 | @cons x u xs us r rr =>
  cases rr with
  | nil => cases x <;> cases e
  | @cons y u' ys us' r' rr' =>
   cases rr' with
   | cons _ _ => cases x <;> cases y <;> cases e
   | nil =>
    cases x with
    | int k =>
     cases y with
     | int k' =>
      cases e
      obtain ⟨t, rfl⟩ := r
      obtain ⟨t', rfl⟩ := r'
      exact call_range_2 (Calls.spliced_nil (rng_list hcalm I1 q1 q2 q3 q4 q))
     | _ => cases e
    | _ => cases e
theorem vals_intsAre : ∀ {ns : List Int} {us : List Value}, Vals (ns.map V.int) us → IntsAre us ns
 | [], _, .nil => .nil
 | n :: r, _, .cons h t => by obtain ⟨k, rfl⟩ := h; exact .cons n k (vals_intsAre t)
theorem intsAre_vals : ∀ {us : List Value} {ns : List Int}, IntsAre us ns → Vals (ns.map V.int) us
 | _, _, .nil => .nil
 | _, _, .cons n t h => .cons ⟨t, rfl⟩ (intsAre_vals h)
def rSorted (K : PySem.W.Frag) : List V → Hp → VK → Prop := fun vs H Q => ∃ (p : Addr) (ns : List Int), vs = [.ref p] ∧ SqL K H p (ns.map V.int) ∧ ns.length < 64 ∧ ∀ (l : Addr) (ns' : List Int), H l = none → ns'.Perm ns → ns'.Pairwise (· ≤ ·) → Q (.ref l) (upd H l (.lst (ns'.map V.int)))
theorem call_sorted : CallR X (.builtin "sorted") (rSorted X.K) := by
 intro pins s σ H xs us Q I r h
 obtain ⟨p, ns, rfl, hq, h64, q⟩ := h
 obtain ⟨u, rfl, ru⟩ := r.one
 cases ru
 obtain ⟨its, rv, pl, hz⟩ := I.list hq
 have hl := rv.length
 rw [List.length_map] at hl
 refine sorted_ints (vs := its) pl.isList (vals_intsAre rv) (by omega) fun out ns' a1 a2 a3 => ?_
 obtain ⟨e, he⟩ := sortedAll_at s.heap its out
 have hlen : ns'.length = ns.length := a2.length_eq
 refine ⟨.ref _, _, I.laid (t' := s.toks) (fun _ _ => sortedAll_old) (Nat.le_succ _) (show ObjOk X.prog X.w _ _ _ (.lst (ns'.map V.int)) from ⟨?_, out.toList, e, intsAre_vals a1, by simpa using he⟩), rfl, q _ ns' (I.hok.fresh (Nat.le_succ _)) a2 a3⟩
 rw [List.length_map, hlen]
 exact Nat.le_trans (Nat.le_of_lt h64) (by decide)
end
section
variable {X : Cx} {pins : List (Addr × Obj)} {σ : St} {H : Hp} {s : Shared} {d : Addr} {kvs : List (Key × V)}
end
theorem keyIs_rel {k : Key} {u : Value} (h : keyIs k u = true) : RelV (kV k) u := by
 rcases keyIs_shape h with ⟨i, t, rfl, rfl⟩ | ⟨x, t, rfl, rfl⟩
 ·exact ⟨t, rfl⟩
 ·exact ⟨t, rfl⟩
theorem KV.len {κ : Type} {kvs : List (κ × V)} {vs : List (κ × Value)} (r : KV kvs vs) : kvs.length = vs.length := Paired.length r
section
variable {X : Cx} {tg : Expr}
theorem call_sorted_dict (hcalm : X.calm = true) : CallR X (.builtin "sorted") (fun vs H Q => ∃ (d : Addr) (kvs : List (Key × V)) (ns : List Int), vs = [.ref d] ∧ H d = some (.dK kvs) ∧ kvs.map (·.1) = ns.map Sum.inl ∧ ns.length < 64 ∧ ∀ (l : Addr) (ns' : List Int), H l = none → ns'.Perm ns → ns'.Pairwise (· ≤ ·) → Q (.ref l) (upd H l (.lst (ns'.map V.int)))) := by
 intro pins s σ H xs us Q I r h
 obtain ⟨d, kvs, ns, rfl, hq, hk, h64, q⟩ := h
 obtain ⟨u, rfl, ru⟩ := r.one
 cases ru
 obtain ⟨z, y, vs, rr, ob, es, ep, e, c1, c2, c3⟩ := I.hok d _ hq
 have hlen : kvs.length = ns.length := by have := congrArg List.length hk; simpa using this
 have hn : vs.length ≤ sizeLine := by rw [← rr.len]; exact z
 refine Calls.call_function_entry kind_sorted plain_sorted entry_sorted (args_sorted1 _) ?_
 unfold Builtin.«sorted»
 refine wpAny_bind (m := checkCount "sorted" 1 1 _) (wpAny_pure ?_)
 refine wpAny_bind (PySem.W.kdu_collect (PySem.W.kdl_dict (prog := X.prog) (w := X.w) (knd := mixKind X.prog X.w) (d := d) (kvs := vs) (ep := ep) y) (I.ok.hd hcalm) ⟨ob, es, e, c1, c2, c3⟩ hn fun h' tk acc hkp hacc => ?_)
 have I1 : Inv X pins σ H { s with heap := h', toks := tk } := I.kept hkp
 have hl : acc.toList.length = vs.length := by rw [Array.length_toList]; exact hacc.1
 have hv : Vals (ns.map V.int) acc.toList := by
  have key : ∀ (ns : List Int) (kvs : List (Key × V)) (vs : List (Key × Value)) (us : List Value), KV kvs vs → kvs.map (·.1) = ns.map Sum.inl → us.length = vs.length → (∀ (j : Nat) (u : Value), us[j]? = some u → ∃ k x, vs[j]? = some (k, x) ∧ keyIs k u = true) → Vals (ns.map V.int) us := by
   intro ns
   induction ns with
   | nil =>
    intro kvs vs us r e hl _
    have : kvs = [] := by simpa using e
    subst this
    cases r
    have : us = [] := List.eq_nil_of_length_eq_zero hl
    subst this
    exact .nil
   | cons n ns ih =>
    intro kvs vs us r e hl hu
    cases r with
    | nil => cases e
    | @cons a b l1 l2 r0 rr =>
     rw [List.map_cons, List.map_cons] at e
     injection e with e1 e2
     cases us with
     | nil => cases hl
     | cons u ur =>
      obtain ⟨k, x, hx, hki⟩ := hu 0 u rfl
      have hb : b = (k, x) := by simpa using hx
      have ek : k = Sum.inl n := by
       have : a.1 = k := by rw [r0.1, hb]
       rw [← this]; exact e1
      rw [ek] at hki
      refine .cons (keyIs_rel (k := Sum.inl n) hki) (ih l1 l2 ur rr e2 (by simpa using hl) fun j w hw => ?_)
      obtain ⟨k', x', h1, h2⟩ := hu (j + 1) w (by simpa using hw)
      exact ⟨k', x', by simpa using h1, h2⟩
  exact key ns kvs vs acc.toList rr hk hl fun j u hu => hacc.2 j u (by rw [← Array.getElem?_toList]; exact hu)
 refine wpAny_bind (wpAny_newList ?_ (by rw [hl]; exact hn))
 have hoL : (h'.push (seqObj "list" acc.toList.toArray 0)).get? h'.objs.size = some (seqObj "list" acc.toList.toArray 0) := Heap.get?_push_size _ rfl
 have hal : acc.toList.length < 64 := by rw [hl, ← rr.len, hlen]; exact h64
 refine wpAny_bind (wpAny_holding (wpAny_call_entry slot_list_sort ⟨_, hoL, rfl⟩ entry_list_sort (list_sort_tree hoL (vals_intsAre hv) hal fun out ns' a1 a2 a3 => ⟨_, rfl, ?_⟩) (args_list_sort _)))
 obtain ⟨ee, he⟩ := sortedHeap_at (out := out) hoL
 have hsz : (h'.push (seqObj "list" acc.toList.toArray 0)).objs.size = h'.objs.size + 1 := Heap.size_push ..
 refine wpAny_pure ⟨_, rfl, .ref h'.objs.size, _, I1.laid (t' := tk) (fun b o eb => ?_) (Nat.le_refl _) (show ObjOk X.prog X.w _ _ _ (.lst (ns'.map V.int)) from ⟨?_, out.toList, ee, intsAre_vals a1, by simpa using he⟩), rfl, q _ ns' (I1.hok.fresh (Nat.le_refl _)) a2 a3⟩
 ·have hb : b < h'.objs.size := Heap.lt_size eb
  exact (sortedHeap_old (Nat.ne_of_lt hb) (by rw [hsz]; exact Nat.lt_succ_of_lt hb)).trans (Heap.get?_push_of_some _ eb)
 ·rw [List.length_map, a2.length_eq]
  exact Nat.le_trans (Nat.le_of_lt h64) (by decide)
theorem call_allB (hcalm : X.calm = true) : CallR X (.builtin "all") (fun vs H Q => ∃ (p : Addr) (bs : List Bool), vs = [.ref p] ∧ SqL X.K H p (bs.map V.bl) ∧ Q (.bl (bs.all id)) H) := by
 intro pins s σ H xs us Q I r h
 obtain ⟨p, bs, rfl, hq, q⟩ := h
 obtain ⟨u, rfl, ru⟩ := r.one
 cases ru
 obtain ⟨its, rv, pl, hz⟩ := I.list hq
 have hlt : p < s.heap.objs.size := by obtain ⟨o, e, _⟩ := pl.isList; exact Heap.lt_size e
 refine call_all_walk (wpAny_pyIter_list pl.isList ?_)
 have hl := rv.length
 rw [List.length_map] at hl
 refine ⟨s.heap.objs.size, _, _, its.toArray.size, _, _, fun i => bs.getD i false, rfl, Walks.list (A := X.A.in1) (I.ok.hd hcalm) s.heap.objs.size p (Nat.ne_of_lt hlt) its.toArray, ⟨⟨_, Heap.get?_push_size _ rfl, rfl, rfl⟩, pl.isList.at fun o e => Heap.get?_push_of_some _ e⟩, ?_, fun h' tk hk => ?_⟩
 ·intro i v s' Q' E' hP hQ
  have hv : its[i]? = some v := by simpa using hP
  have hi : i < bs.length := by rw [hl]; exact (List.getElem?_eq_some_iff.mp hv).1
  obtain ⟨u, hu, ru⟩ := rv.get (i := i) (x := V.bl bs[i]) (by rw [List.getElem?_map, List.getElem?_eq_getElem hi]; rfl)
  rw [hv] at hu
  cases hu
  have eb : v = Value.bool bs[i] := ru
  subst eb
  have eg : bs.getD i false = bs[i] := by simp [List.getD, hi]
  refine wpAny_truthy_bool ?_
  rw [← eg]; exact hQ
 ·have I1 : Inv X pins σ H { s with heap := h', toks := tk } := I.kept fun b o e => hk b o (by simp; exact Nat.ne_of_lt (Heap.lt_size e)) (Heap.get?_push_of_some _ e)
  have e : (List.range its.toArray.size).all (fun i => bs.getD i false) = bs.all id := by
   have e1 : its.toArray.size = bs.length := by simpa using hl.symm
   rw [e1, Bool.eq_iff_iff, List.all_eq_true, List.all_eq_true]
   constructor
   ·intro h x hx
    obtain ⟨i, hi, rfl⟩ := List.mem_iff_getElem.mp hx
    have := h i (List.mem_range.mpr hi)
    simpa [List.getD, hi] using this
   ·intro h i hi
    have hi' := List.mem_range.mp hi
    have := h bs[i] (List.getElem_mem hi')
    simpa [List.getD, hi'] using this
  rw [e]
  exact ⟨.bl _, H, I1, rfl, q⟩
end
end L2
namespace L2
open PySem PySem.Spec PyProof.Rows
def blkOk (osc : Scope) (N xs : List Str) (sc : Scope) : Bool :=
 (sc.kind == .function) && sc.names.all (fun y => y.2 != .cell) && sc.names.all (fun y => y.2 != .local || (sc.names.lookup y.1 == some .local)) && sc.names.all (fun y => y.2 != .local || (xs.contains y.1 || y.1 == (".0" : Str))) &&
  sc.names.all (fun y => y.2 != .free || (osc.names.lookup y.1 == some .cell || osc.names.lookup y.1 == some .free)) && N.all (fun y => (sc.names.lookup (y ++ ("#" : Str))).isNone) && !N.contains (".0" : Str)
theorem blk_ok {X : Cx} {xs : List Str} {sc : Scope} (osc : Scope) (N : List Str) (hs : X.env.scope = osc) (hN : X.N = N) (h : blkOk osc N xs sc = true) : BlkScope X xs sc := by
 unfold blkOk at h
 simp only [Bool.and_eq_true, List.all_eq_true, Bool.or_eq_true, Bool.not_eq_true', bne_iff_ne, beq_iff_eq, List.contains_iff_mem] at h
 obtain ⟨⟨⟨⟨⟨⟨h1, h2⟩, h3⟩, h4⟩, h5⟩, h6⟩, h7⟩ := h
 refine ⟨h1, h2, fun y hy e => ?_, fun y hy e => ?_, fun y hy e => ?_, fun y hy => ?_, ?_⟩
 ·exact (h3 y hy).resolve_left fun z => z e
 ·exact (h4 y hy).resolve_left fun z => z e
 ·have z := (h5 y hy).resolve_left fun z => z e
  rw [← hs] at z
  exact z
 ·rw [hN] at hy
  exact Option.isNone_iff_eq_none.mp (h6 y hy)
 ·rw [hN]
  intro z
  rw [List.contains_iff_mem.mpr z] at h7
  cases h7
def Gives (t : TE) (σ : St) (H : Hp) (v : V) : Prop := ∀ P : VK, (∀ H2, Same H H2 → P v H2) → t σ H P
def Tells (t : TT) (σ : St) (H : Hp) (b : Bool) : Prop := ∀ P : Bool → Hp → Prop, (∀ H2, Same H H2 → P b H2) → t σ H P
theorem Same.rfl' {H : Hp} : Same H H := fun _ _ h => h
theorem Same.new {H : Hp} {p : Addr} (h : H p = none) (o : HO) : Same H (upd H p o) := fun b u q => by rw [upd_ne (ne_of_none q h)]; exact q
theorem tells_true {σ : St} {H : Hp} : Tells tTrue σ H true := fun _ h => h H Same.rfl'
theorem turns_gen {J : It} {n : Nat} {tc : TT} {te : TE} {D : Addr} {Q : Hp → Prop} {σ : St} {H1 : Hp} (item : Nat → V) (c : Nat → Bool) (v : Nat → V) (hD : H1 D = none) (hn : n ≤ 1000)
  (hgo : ∀ i H', Same H1 H' → i < n → J.go i H') (hyl : ∀ i H' x H2, Same H1 H' → i < n → J.yld i H' x H2 → H2 = H' ∧ x = item i) (hst : ∀ H', Same H1 H' → J.stop n H')
  (ht : ∀ i H', i < n → Same H1 H' → Tells tc (some (item i) :: σ) H' (c i)) (he : ∀ i H', i < n → c i = true → Same H1 H' → Gives te (some (item i) :: σ) H' (v i))
  (hq : ∀ H', Same H1 H' → H' D = some (.lst (((List.range n).filter c).map v)) → Q H') : tTurns J (gName 0) tc te D Q (none :: σ) (upd H1 D (.lst [])) := by
 refine ⟨fun i m σ' H' => ∃ x, σ' = x :: σ ∧ m = n - i ∧ i ≤ n ∧ Same H1 H' ∧ H' D = some (.lst (((List.range i).filter c).map v)), ⟨n, none, rfl, rfl, Nat.zero_le _, Same.new hD _, upd_same⟩, ?_⟩
 rintro i m σ' H' ⟨x, rfl, rfl, hi, g, hl⟩
 by_cases hlt : i < n
 ·refine .inr ⟨hgo i H' g hlt, fun σ2 H2 => ∃ x, σ2 = x :: σ ∧ Same H1 H2 ∧ H2 D = some (.lst (((List.range (i + 1)).filter c).map v)), ?_, fun x' H2 y => ?_⟩
  ·rintro σ2 H2 ⟨x, rfl, g2, l2⟩
   exact ⟨n - (i + 1), by omega, x, rfl, rfl, hlt, g2, l2⟩
  ·obtain ⟨rfl, rfl⟩ := hyl i H' x' H2 g hlt y
   show tc (some (item i) :: σ) H2 _
   refine ht i H2 hlt g _ fun H3 g3 => ?_
   have hr : (List.range (i + 1)).filter c = (List.range i).filter c ++ (if c i = true then [i] else []) := by
    rw [List.range_succ, List.filter_append, List.filter_cons, List.filter_nil]
   refine ite2 (fun hc => ?_) (fun hc => ?_)
   ·refine he i H3 hlt hc (g.trans g3) _ fun H4 g4 => ?_
    have l4 := g4 _ _ (g3 _ _ hl)
    refine ⟨_, l4, ?_, some (item i), rfl, fun b o hb => ?_, ?_⟩
    ·rw [List.length_map]
     have := List.length_filter_le c (List.range i)
     rw [List.length_range] at this
     exact small1000 (by omega)
    ·have hne : b ≠ D := fun e => by rw [e, hD] at hb; cases hb
     rw [upd_ne hne]
     exact g4 _ _ (g3 _ _ (g _ _ hb))
    ·rw [upd_same, hr, if_pos hc, List.map_append]
     rfl
   ·refine ⟨some (item i), rfl, g.trans g3, ?_⟩
    rw [hr, if_neg hc, List.append_nil]
    exact g3 _ _ hl
 ·have e : i = n := by omega
  subst e
  exact .inl ⟨hst H' g, hq H' g hl⟩
theorem turns_range {lo : Int} {n : Nat} {tc : TT} {te : TE} {D : Addr} {Q : Hp → Prop} {σ : St} {H1 : Hp} (c : Nat → Bool) (v : Nat → V) (hD : H1 D = none) (hn : n ≤ 1000)
  (ht : ∀ i H', i < n → Same H1 H' → Tells tc (some (.int (lo + i)) :: σ) H' (c i)) (he : ∀ i H', i < n → c i = true → Same H1 H' → Gives te (some (.int (lo + i)) :: σ) H' (v i))
  (hq : ∀ H', Same H1 H' → H' D = some (.lst (((List.range n).filter c).map v)) → Q H') : tTurns (Itr lo n) (gName 0) tc te D Q (none :: σ) (upd H1 D (.lst [])) :=
 turns_gen (fun i => .int (lo + i)) c v hD hn (fun i _ _ h => h) (fun i H' x H2 _ _ y => y) (fun _ _ => Nat.le_refl _) ht he hq
theorem range_getD_filter {α : Type} (c : α → Bool) (d : α) : ∀ (xs : List α), ((List.range xs.length).filter fun i => c (xs.getD i d)).map (fun i => xs.getD i d) = xs.filter c
 | [] => rfl
 | x :: xs => by
  have ih := range_getD_filter c d xs
  rw [List.length_cons, List.range_succ_eq_map, List.filter_cons]
  have e1 : (x :: xs).getD 0 d = x := rfl
  rw [e1]
  have e2 : (List.map Nat.succ (List.range xs.length)).filter (fun i => c ((x :: xs).getD i d)) = (((List.range xs.length).filter fun i => c (xs.getD i d)).map Nat.succ) := by
   rw [List.filter_map]
   rfl
  by_cases hc : c x = true
  ·rw [if_pos hc, List.filter_cons, if_pos hc, List.map_cons, e2, List.map_map, ← ih]
   rfl
  ·rw [if_neg hc, List.filter_cons, if_neg hc, e2, List.map_map, ← ih]
   rfl
theorem turns_list {K : PySem.W.Frag} {a : Addr} {xs : List V} {tc : TT} {te : TE} {D : Addr} {Q : Hp → Prop} {σ : St} {H1 : Hp} (c : Nat → Bool) (v : Nat → V) (hS : SqL K H1 a xs) (hD : H1 D = none) (hn : xs.length ≤ 1000)
  (ht : ∀ i H', i < xs.length → Same H1 H' → Tells tc (some (xs.getD i .non) :: σ) H' (c i)) (he : ∀ i H', i < xs.length → c i = true → Same H1 H' → Gives te (some (xs.getD i .non) :: σ) H' (v i))
  (hq : ∀ H', Same H1 H' → H' D = some (.lst (((List.range xs.length).filter c).map v)) → Q H') : tTurns (Itl K a) (gName 0) tc te D Q (none :: σ) (upd H1 D (.lst [])) := by
 refine turns_gen (fun i => xs.getD i .non) c v hD hn (fun i H' g h => ⟨xs, xs[i], g.seq hS, List.getElem?_eq_getElem h⟩) (fun i H' x H2 g h y => ⟨y.1, ?_⟩) (fun H' g => ⟨xs, g.seq hS, Nat.le_refl _⟩) ht he hq
 have := y.2 xs (g.seq hS)
 rw [List.getElem?_eq_getElem h] at this
 rw [List.getD_eq_getElem?_getD, List.getElem?_eq_getElem h]
 exact (Option.some.inj this).symm
theorem while_by2 {c : TT} {tb : TS} {D : Ends} {σ : St} {H : Hp} (Pv : St → Hp → Prop) (μ : St → Hp → Nat) (h0 : Pv σ H)
  (hs : ∀ σ H, Pv σ H → c σ H fun b H1 => if b = true then ∃ N : St → Hp → Prop, (∀ σ' H', N σ' H' → ∃ m', m' < μ σ H ∧ m' = μ σ' H' ∧ Pv σ' H') ∧ tb { D with nx := N, ct := N, bk := D.nx } σ H1 else D.nx σ H1) : tWhile c tb D σ H := by
 refine ⟨fun m σ H => m = μ σ H ∧ Pv σ H, ⟨_, rfl, h0⟩, ?_⟩
 rintro m σ H ⟨rfl, p⟩
 exact hs σ H p
theorem next_by {tb : TS} {D : Ends} {σ : St} {H H1 : Hp} {Pv : St → Hp → Prop} {μ : St → Hp → Nat} (h : tb { D with nx := fun σ' H' => Pv σ' H' ∧ μ σ' H' < μ σ H, ct := fun σ' H' => Pv σ' H' ∧ μ σ' H' < μ σ H, bk := D.nx } σ H1) :
  ∃ N : St → Hp → Prop, (∀ σ' H', N σ' H' → ∃ m', m' < μ σ H ∧ m' = μ σ' H' ∧ Pv σ' H') ∧ tb { D with nx := N, ct := N, bk := D.nx } σ H1 := ⟨_, fun _ _ h => ⟨_, h.2, rfl, h.1⟩, h⟩
end L2
namespace L2
open PySem PySem.Spec PyProof.Rows
structure KDict (K : PySem.W.Frag) (w : World) (d : Addr) (kvs : List (Str × Tok × Value)) : Prop where
 lo : (d == sysModules) = false
 nd : (kvs.map (·.1)).Nodup
 at' : ∃ n, K.lookup d = some { cls := .type "dict", data := .dict (kvs.map fun e => ({ hash := PyData.keyHash w.params e.1, key := .str e.1 e.2.1, val := e.2.2 } : DictEntry)).toArray n }
section
variable {X : Cx} {d : Addr} {kvs : List (Str × Tok × Value)} {o i : Expr} {td ty : TE} {pos : Pos}
end
theorem getD_map_int (xs : List Int) {i : Nat} (h : i < xs.length) : (xs.map V.int).getD i .non = .int (xs.getD i 0) := by
 rw [List.getD_eq_getElem?_getD, List.getElem?_map, List.getElem?_eq_getElem h, List.getD_eq_getElem?_getD, List.getElem?_eq_getElem h]
 rfl
end L2
namespace L2
open PySem PySem.Spec PyProof.Rows
section
variable {X : Cx} (K : PySem.W.Frag)
theorem ix_tupK (h : X.K = K := by rfl) : IxR X (rIxT K) := h ▸ ix_tup
theorem call_len_seqK (h : X.K = K := by rfl) : CallR X (.builtin "len") (fun xs H Q => ∃ p ys, xs = [.ref p] ∧ (SqL K H p ys ∨ SqT K H p ys) ∧ Q (.int ys.length) H) := h ▸ call_len_seq
end
end L2
namespace L2
open PySem PySem.Spec PyProof.Rows
section
variable {X : Cx}
theorem pe_bmK (K : PySem.W.Frag) {o e : Expr} {es : List Expr} {to : TE} {t : TA} {name : Str} {apos cpos : Pos} {T id : String} {r : V → List V → Hp → VK → Prop} (pa : PlainAttrs T) (slot : Slot T name id) (hty : typeOf (.builtin id) = pure (.type "method_descriptor")) (hm : MtR X id r) (ho : PE X o to) (ha : PA X (e :: es) t)
  (h : X.K = K := by rfl) (hbase : attributeBase o name X.env (eval o X.env) = eval o X.env := by rfl)
  (hfew : ((backTo cpos (starEach (e :: es) X.env)).all (fun x => !x.1) && (backToKw cpos (keywordEach [] X.env)).all (fun x => x.1.isSome)
   && decide ((e :: es).length + ([] : List Keyword).length + (if ([] : List Keyword).isEmpty then 0 else 1) < 30)) = true := by rfl)
  (hline : (apos.endLine == cpos.line) = true := by rfl) (hs : starEach (e :: es) X.env = (false, eval e X.env) :: starEach es X.env := by rfl) (hplain : (backTo cpos (starEach es X.env)).any (·.1) = false := by rfl) :
  PE X (.Call (.Attribute o name apos) (e :: es) [] cpos) (tBM K T r to t) := by
 subst h
 exact pe_bm pa slot hty hm ho ha hbase hfew hline hs hplain
end
def Ex (S : Addr → Prop) (H H' : Hp) : Prop := ∀ b o, ¬ S b → H b = some o → H' b = some o
theorem Ex.refl {S : Addr → Prop} {H : Hp} : Ex S H H := fun _ _ _ h => h
theorem Ex.trans {S : Addr → Prop} {H H1 H2 : Hp} (a : Ex S H H1) (b : Ex S H1 H2) : Ex S H H2 := fun c o n h => b c o n (a c o n h)
theorem Ex.same {S : Addr → Prop} {H H1 : Hp} (a : Same H H1) : Ex S H H1 := fun c o _ h => a c o h
theorem Ex.put {S : Addr → Prop} {H : Hp} {p : Addr} (o : HO) (hp : S p) : Ex S H (upd H p o) := fun c o' n h => by
 have : c ≠ p := fun e => n (e ▸ hp)
 rw [upd_ne this]; exact h
theorem Ex.new {S : Addr → Prop} {H : Hp} {p : Addr} (o : HO) (hp : H p = none) : Ex S H (upd H p o) := Ex.same (Same.new hp o)
theorem Ex.wide {S S' : Addr → Prop} {H H1 : Hp} (a : Ex S H H1) (h : ∀ b, S b → S' b) : Ex S' H H1 := fun c o n e => a c o (fun z => n (h c z)) e
theorem pick_int (xs : List Int) {r : Int} (h0 : 0 ≤ r) (h1 : r < (xs.length : Nat)) : ∃ v, atI (xs.map V.int) r = some (.int v) ∧ v ∈ xs := by
 have hj : r.toNat < xs.length := by omega
 have e : r = ((r.toNat : Nat) : Int) := by omega
 refine ⟨xs[r.toNat], ?_, List.getElem_mem hj⟩
 have q : atI (xs.map V.int) ((r.toNat : Nat) : Int) = some (.int xs[r.toNat]) := atI_nat (by rw [List.getElem?_map, List.getElem?_eq_getElem hj] <;> rfl)
 rw [← e] at q
 exact q
theorem putK_keys {kvs : List (Key × V)} {ks : List Int} {x : Int} {v : V} (h : kvs.map (·.1) = ks.map Sum.inl) : (putK kvs (Sum.inl x) v).map (·.1) = (if x ∈ ks then ks else ks ++ [x]).map Sum.inl := by
 unfold putK
 have key : (kvs.any fun kv => decide (kv.1 = Sum.inl x)) = decide (x ∈ ks) := by
  have e1 : (kvs.any fun kv => decide (kv.1 = Sum.inl x)) = (kvs.map (·.1)).any fun k => decide (k = Sum.inl x) := by rw [List.any_map]; rfl
  rw [e1, h, List.any_map, Bool.eq_iff_iff, List.any_eq_true, decide_eq_true_iff]
  constructor
  ·rintro ⟨y, hy, e⟩
   have e' : (Sum.inl y : Key) = Sum.inl x := of_decide_eq_true e
   cases e'
   exact hy
  ·intro hx
   exact ⟨x, hx, decide_eq_true rfl⟩
 rw [key]
 by_cases hx : x ∈ ks
 ·rw [decide_eq_true hx, if_pos rfl, if_pos hx, ← h, List.map_map]
  refine List.map_congr_left fun kv _ => ?_
  show (if kv.1 = Sum.inl x then (kv.1, v) else kv).1 = kv.1
  split <;> rfl
 ·rw [decide_eq_false hx, if_neg Bool.false_ne_true, if_neg hx, List.map_append, List.map_append, h]
  rfl
inductive CInts : List Expr → List Int → Prop where
 | nil : CInts [] []
 | cons {n : Int} {j : Nat} {p : Pos} {es : List Expr} {ns : List Int} : CInts es ns → CInts (.Constant (.int n) j p :: es) (n :: ns)
inductive CLists : List Expr → List (List Int) → Prop where
 | nil : CLists [] []
 | cons {fs es : List Expr} {ns : List Int} {nss : List (List Int)} {p : Pos} : CInts fs ns → CLists es nss → CLists (.List fs p :: es) (ns :: nss)
section
variable {X : Cx}
end
end L2
namespace L2
open PySem PySem.Spec PyProof.Rows
theorem inV_int (x : Int) : ∀ xs : List Int, inV (.int x) (xs.map V.int) = xs.contains x
 | [] => rfl
 | y :: r => by
  have ih := inV_int x r
  unfold inV at ih ⊢
  rw [List.map_cons, List.any_cons, ih, List.contains_cons]
  have e : eqV (.int y) (.int x) = (x == y) := by
   show (y == x) = (x == y)
   exact Bool.eq_iff_iff.mpr ⟨fun h => beq_iff_eq.mpr (beq_iff_eq.mp h).symm, fun h => beq_iff_eq.mpr (beq_iff_eq.mp h).symm⟩
  rw [e]
theorem flat_ints : ∀ xs : List Int, (xs.map V.int).all flatV = true
 | [] => rfl
 | _ :: r => by rw [List.map_cons, List.all_cons, flat_ints r]; rfl
section
variable {X : Cx} (K : PySem.W.Frag)
def rInI (K : PySem.W.Frag) (neg : Bool) : R2 := fun x y H Q => ∃ (p : Addr) (i : Int) (xs : List Int), x = .int i ∧ y = .ref p ∧ SqL K H p (xs.map V.int) ∧ Q (.bl (if neg then !xs.contains i else xs.contains i)) H
theorem op_inI (h : X.K = K := by rfl) : OpR X (compareOp .In) (rInI K false) := by
 intro pins s σ H x y v u Q I rx ry ⟨p, i, xs, e1, e2, hs, q⟩
 subst e1 e2
 refine op_in_seq pins s σ H _ _ v u Q I rx ry ⟨p, xs.map V.int, rfl, .inl (h ▸ hs), rfl, flat_ints xs, ?_⟩
 rw [inV_int]
 exact q
end
end L2
namespace L2
open PySem PySem.Spec PyProof.Rows
def Ite (a : Addr) : It :=
 ⟨fun i H => ∃ xs x, H a = some (.lst xs) ∧ xs[i]? = some x, fun i H x H' => ∃ T xs y, H T = none ∧ H a = some (.lst xs) ∧ xs[i]? = some y ∧ x = .ref T ∧ H' = upd H T (.tup [.int i, y]), fun i H => ∃ xs, H a = some (.lst xs) ∧ xs.length ≤ i⟩
theorem turns_any {J : It} {n : Nat} {g : TG} {tc : TT} {te : TE} {D : Addr} {Q : Hp → Prop} {σ0 : St} {H0 : Hp} (W : Nat → St → Hp → Prop) (h0 : W 0 σ0 H0)
  (step : ∀ i σ H, i < n → W i σ H → J.go i H ∧ ∀ x H', J.yld i H x H' → g x σ H' fun σ2 H2 => tc σ2 H2 fun b H3 =>
   if b = true then te σ2 H3 fun v H4 => ∃ zs, H4 D = some (.lst zs) ∧ zs.length < sizeLine ∧ W (i + 1) σ2 (upd H4 D (.lst (zs ++ [v]))) else W (i + 1) σ2 H3)
  (stop : ∀ σ H, W n σ H → J.stop n H ∧ Q H) : tTurns J g tc te D Q σ0 H0 := by
 refine ⟨fun i m σ H => m = n - i ∧ i ≤ n ∧ W i σ H, ⟨n, rfl, Nat.zero_le _, h0⟩, ?_⟩
 rintro i m σ H ⟨rfl, hi, w⟩
 by_cases hlt : i < n
 ·obtain ⟨hg, hy⟩ := step i σ H hlt w
  exact .inr ⟨hg, W (i + 1), fun σ' H' w' => ⟨n - (i + 1), by omega, rfl, hlt, w'⟩, hy⟩
 ·have e : i = n := by omega
  subst e
  exact .inl (stop σ H w)
theorem turns_enum {K : PySem.W.Frag} {a : Addr} {xs : List V} {tc : TT} {te : TE} {D : Addr} {Q : Hp → Prop} {σ : St} {H1 : Hp} (c : Nat → Bool) (v : Nat → V) (hS : H1 a = some (.lst xs)) (hD : H1 D = none) (hn : xs.length ≤ 1000)
  (ht : ∀ i H', i < xs.length → Same H1 H' → Tells tc (some (.int (i : Int)) :: some (xs.getD i .non) :: σ) H' (c i)) (he : ∀ i H', i < xs.length → c i = true → Same H1 H' → Gives te (some (.int (i : Int)) :: some (xs.getD i .non) :: σ) H' (v i))
  (hq : ∀ H', Same H1 H' → H' D = some (.lst (((List.range xs.length).filter c).map v)) → Q H') : tTurns (Ite a) (gTup K 2 (gCons (gName 0) (gCons (gName 1) gNil))) tc te D Q (none :: none :: σ) (upd H1 D (.lst [])) := by
 refine turns_any (n := xs.length) (fun i σ' H' => ∃ x y, σ' = x :: y :: σ ∧ Same H1 H' ∧ H' D = some (.lst (((List.range i).filter c).map v))) ⟨none, none, rfl, Same.new hD _, upd_same⟩ ?_ ?_
 ·rintro i σ' H' hi ⟨x, y, rfl, g, hl⟩
  refine ⟨⟨xs, xs[i], g _ _ hS, List.getElem?_eq_getElem hi⟩, fun z H2 hz => ?_⟩
  obtain ⟨T, ys, u, hT, hy, hu, rfl, rfl⟩ := hz
  rw [g _ _ hS] at hy
  cases hy
  have eu : xs.getD i .non = u := by rw [List.getD_eq_getElem?_getD, hu]; rfl
  have g2 : Same H1 (upd H' T (.tup [.int (i : Int), u])) := fun b o hb => by
   have h1 := g _ _ hb
   rw [upd_ne (ne_of_none h1 hT)]; exact h1
  have hl2 : (upd H' T (.tup [.int (i : Int), u])) D = some (.lst (((List.range i).filter c).map v)) := by rw [upd_ne (ne_of_none hl hT)]; exact hl
  refine ⟨T, _, rfl, SqT.of upd_same, rfl, _, _, rfl, _, _, rfl, rfl, ?_⟩
  show tc (some (.int (i : Int)) :: some u :: σ) _ _
  rw [← eu] at g2 hl2 ⊢
  generalize upd H' T (.tup [.int (i : Int), xs.getD i .non]) = H3 at g2 hl2 ⊢
  refine ht i H3 hi g2 _ fun H4 g4 => ?_
  have hr : (List.range (i + 1)).filter c = (List.range i).filter c ++ (if c i = true then [i] else []) := by
   rw [List.range_succ, List.filter_append, List.filter_cons, List.filter_nil]
  refine ite2 (fun hc => ?_) (fun hc => ?_)
  ·refine he i H4 hi hc (g2.trans g4) _ fun H5 g5 => ?_
   have l5 := g5 _ _ (g4 _ _ hl2)
   refine ⟨_, l5, ?_, _, _, rfl, fun b o hb => ?_, ?_⟩
   ·rw [List.length_map]
    have := List.length_filter_le c (List.range i)
    rw [List.length_range] at this
    exact small1000 (by omega)
   ·have hne : b ≠ D := fun e => by rw [e, hD] at hb; cases hb
    rw [upd_ne hne]
    exact g5 _ _ (g4 _ _ (g2 _ _ hb))
   ·rw [upd_same, hr, if_pos hc, List.map_append]
    rfl
  ·refine ⟨_, _, rfl, g2.trans g4, ?_⟩
   rw [hr, if_neg hc, List.append_nil]
   exact g4 _ _ hl2
 ·rintro σ' H' ⟨x, y, rfl, g, hl⟩
  exact ⟨⟨xs, g _ _ hS, Nat.le_refl _⟩, hq H' g hl⟩
theorem fltT {α : Type} (l : List α) : l.filter (fun _ => true) = l := List.filter_eq_self.mpr fun _ _ => rfl
def slotN (i : Nat) (σ : St) : Nat := match σ[i]? with
 | some (some (.int v)) => v.toNat
 | _ => 0
theorem small2000 {n : Nat} (h : n ≤ 2000) : n < sizeLine := by rw [sizeLine_eq]; omega
section
variable {X : Cx} {pins : List (Addr × Obj)} {σ : St} {H : Hp} {s : Shared}
theorem Inv.turnedL {h' : Heap} {t' : Nat} {fp : List Addr} (I : Inv X pins σ H s) (k : ∀ b o, b ∉ fp → s.heap.get? b = some o → h'.get? b = some o) (hf : ∀ b ∈ fp, FpOk X pins H b) : Inv X pins σ H { s with heap := h', toks := t' } := by
 have nit : ∀ b u, H b = some u → b ∉ fp := fun b u e z => by rw [(hf b z).1] at e; cases e
 refine I.step (g' := s.gens) (d' := s.drawn) (ch := fp) (fun b hb => ?_) (fun b o _ _ hc e _ => k b o hc e) (fun b o _ _ hc e _ => ⟨o.slots, k b o hc e⟩) (fun _ _ _ _ n => n)
  (fun b o hc e => ⟨o, k b o hc e⟩) (fun _ _ e => e) (fun _ _ _ e => e) (fun b ps e => ⟨#[], by rw [e]; simp⟩) (fun m hm => ?_) (fun b u e => ?_) I.bare
 ·obtain ⟨_, f1, _, f3, f4, f5⟩ := hf b hb
  exact ⟨f3, f1, f4, f5⟩
 ·obtain ⟨o, es, ep, ho, r⟩ := hm
  exact ⟨o, es, ep, k _ o (fun z => (hf _ z).2.1 rfl) ho, r⟩
 ·refine (I.hok b u e).stay (fun c v hc q => k c v ?_ q) (fun _ q => q) fun _ _ q => q
  rcases hc with z | z
  ·rw [z]; exact nit b u e
  ·exact nit c _ z
end
theorem turn_enum {P : Program} {w : World} {K : PySem.W.Frag} {es : List Expr} {k : Nat} {pos : Pos} (a e it : Addr) (hei : e ≠ it) :
  Turn P w K (.Tuple es k pos) (Ite a) [e, it] e (fun i h => (∃ old, IsEnum h e it ((i : Nat) : Int) old) ∧ h.IsListIter it a i) where
 mem := by simp
 obj := fun i h st b hb => by
  obtain ⟨⟨old, he⟩, o, e1, c, d⟩ := st
  rcases List.mem_cons.mp hb with z | z
  ·subst z
   exact ⟨_, he, fun v z => by cases z⟩
  ·have z : b = it := by simpa using z
   subst z
   exact ⟨o, e1, fun v z => by rw [d] at z; cases z⟩
 keep := fun i h h' st k => ⟨let ⟨old, he⟩ := st.1; ⟨old, k e (by simp) _ he⟩, st.2.at fun o e => k it (by simp) o e⟩
 item := by
  intro X hP hw hK hc i pins s σ H E I hf st hg
  subst hP hw hK
  obtain ⟨xs, x, hq, hx⟩ := hg
  obtain ⟨hz, its, n, r, hl, ea⟩ := I.lstM hq
  obtain ⟨u, hu, ru⟩ := r.get hx
  obtain ⟨⟨old, he⟩, hit⟩ := st
  have hL : s.heap.IsList a its.toArray := ⟨_, ea, rfl, n, rfl⟩
  have helt : e < s.heap.objs.size := Heap.lt_size he
  have hilt : it < s.heap.objs.size := by obtain ⟨_, x, _⟩ := id hit; exact Heap.lt_size x
  have hun : ∀ b ∈ [e, it], b < s.heap.objs.size := fun b hb => by
   rcases List.mem_cons.mp hb with z | z
   ·rw [z]; exact helt
   ·rw [show b = it by simpa using z]; exact hilt
  refine wpAny_pyNext_enum_item he hit hL (x := u) (by simpa using hu) hei fun h' ho hit' hT hsz hk => ?_
  refine ⟨_, rfl, wpAny_letOwnedTupleGo_enum ho fun h2 he2 hs2 => ?_⟩
  replace hs2 : Heap.SameBut e h' h2 := hs2
  have I1 : Inv X pins σ (upd H s.heap.objs.size (.tup [.int i, x])) { s with heap := s.heap.push { cls := .type "tuple", data := .seq #[.int i s.toks, u] }, toks := s.toks + 1 } :=
   I.laid (fun b o q => Heap.get?_push_of_some _ q) (Nat.le_refl _) ⟨by show 2 ≤ sizeLine; decide, [.int i s.toks, u], .cons ⟨_, rfl⟩ (.cons ru .nil), ⟨_, Heap.get?_push_size _ rfl, rfl, _, rfl⟩⟩
  have frs : ∀ b ∈ [e, it], upd H s.heap.objs.size (.tup [.int i, x]) b = none := fun b hb => by
   rw [upd_ne (Nat.ne_of_lt (hun b hb))]; exact (hf b hb).1
  have I2 : Inv X pins σ (upd H s.heap.objs.size (.tup [.int i, x])) { s with heap := h2, toks := s.toks + 1 } := by
   refine Inv.turnedL (s := { s with heap := s.heap.push { cls := .type "tuple", data := .seq #[.int i s.toks, u] }, toks := s.toks + 1 }) (h' := h2) (t' := s.toks + 1) (fp := [e, it]) I1 (fun b o hb q => ?_) (fun b hb => ⟨frs b hb, (hf b hb).2⟩)
   have n1 : b ≠ e := fun z => hb (by simp [z])
   have n2 : b ≠ it := fun z => hb (by simp [z])
   refine (hs2.2 b n1).trans ?_
   rcases Heap.get?_push_cases q with ⟨eb, eo⟩ | q
   ·rw [eb, eo]; exact hT
   ·exact hk b o n1 n2 q
  refine ⟨.ref s.heap.objs.size, _, I2, rfl, ⟨_, xs, x, I.fresh, hq, hx, rfl, rfl⟩, ⟨⟨u, ?_⟩, ?_⟩, frs⟩
  ·have e1 : (((i + 1 : Nat)) : Int) = (i : Int) + 1 := by simp
   rw [e1]; exact he2
  ·exact hit'.at fun o y => (hs2.2 it hei.symm).trans y
 done := by
  intro X hP hw hK hc i pins s σ H E I hf st hg
  subst hP hw hK
  obtain ⟨xs, hq, hx⟩ := hg
  obtain ⟨hz, its, n, r, hl, ea⟩ := I.lstM hq
  obtain ⟨⟨old, he⟩, hit⟩ := st
  have hL : s.heap.IsList a its.toArray := ⟨_, ea, rfl, n, rfl⟩
  exact wpAny_pyNext_enum_end (I.ok.hd hc) he hit hL (by simp; omega) fun h' eb => ⟨rfl, I.turnedL (t' := s.toks) (fp := [e, it]) (fun b o hb q => eb b o (fun z => hb (by simp [z])) q) hf⟩
 self := fun _ _ _ _ _ st h => let ⟨_, he⟩ := st.1; wpAny_pyIter_enum he h
section
variable {X : Cx}
def iEnum (ta : TA) : TI := fun σ H R => ta σ H fun vs H1 => ∃ a xs, vs = [.ref a] ∧ H1 a = some (.lst xs) ∧ R (Ite a) H1
theorem pg_tupK (K : PySem.W.Frag) {es : List Expr} {k : Nat} {t : TGs} {n : Nat} {pos : Pos} (hc : X.calm = true) (h : PGs X es t) (hK : X.K = K := by rfl)
  (hn : (assignEach es X.env).length = n := by rfl) (hst : (assignEach es X.env).findIdx? (·.1) = none := by rfl) : PG X (.Tuple es k pos) (gTup K n t) := hK ▸ pg_tup hc h hn hst
theorem boot_enumerate : bootBuiltins "enumerate" = some (.type "enumerate") := by decide +kernel
theorem pi_enum {es : List Expr} {k : Nat} {tp : Pos} {a : Expr} {ta : TA} {p pos : Pos} (hg : Gl X "enumerate") (hm : X.mg "enumerate" = none) (ha : PA X [a] ta) (hs : starEach [a] X.env = [(false, eval a X.env)] := by rfl) :
  PI X (.Tuple es k tp) (.Call (.Name "enumerate" p) [a] [] pos) (iEnum ta) := by
 intro pins s σ H R I h
 refine wpAny_Call_Name_kw (ld_blt I hg hm boot_enumerate ?_ (by decide) (by decide))
 refine PyProof.Rows.callWith_type1 (thn (ha pos pins s σ H _ I h) fun us s1 ⟨vs, H1, I1, r1, q1⟩ => ?_) hs rfl
 obtain ⟨a, xs, e, hq, q⟩ := q1
 subst e
 obtain ⟨u, rfl, ru⟩ := r1.one
 cases ru
 obtain ⟨hz, its, n, r, hl, ea⟩ := I1.lstM hq
 refine call_enumerate_1 ea fun h' he hit hsz hk => ?_
 refine wpAny_pyIter_enum he ?_
 have I2 : Inv X pins σ H1 { s1 with heap := h' } := I1.kept (t' := s1.toks) hk
 refine ⟨s1.heap.objs.size + 1, [s1.heap.objs.size + 1, s1.heap.objs.size], _, _, H1, rfl, I2, turn_enum a _ _ (Nat.succ_ne_self _), ⟨⟨_, he⟩, hit⟩, fun b hb => ?_, q⟩
 rcases List.mem_cons.mp hb with z | z
 ·subst z; exact I1.fpOk (Nat.le_succ _) (I1.hok.fresh (Nat.le_succ _))
 ·have z : b = s1.heap.objs.size := by simpa using z
  subst z; exact I1.fpOk (Nat.le_refl _) (I1.hok.fresh (Nat.le_refl _))
theorem pt_valI {e : Expr} {t : TE} (h : PE X e t) (he : ∀ whole, isTrue e X.env whole = (do let v ← whole; standAt e.pos; holding [v] (truthy v)) := by intro _; rfl) : PT X e (fun σ H Q => t σ H fun x H1 => ∃ i, x = .int i ∧ Q (i != 0) H1) := by
 intro pins s σ H Q I hw
 refine isTrue_plain (thn (h pins s σ H _ I hw) fun v s1 ⟨x, H1, I1, r1, i, ex, q⟩ => ?_) (he _)
 subst ex
 obtain ⟨tk, rfl⟩ := r1
 exact PySem.P.truthy_int ⟨H1, I1, q⟩
end
structure Base (K : PySem.W.Frag) (C : Addr) (mc : Value) (m : Str) (f : Addr) : Prop where
 ga : PySem.W.specialIn K (.ref C) "__getattribute__" = some (some (.builtin "type.__getattribute__"))
 rd : PySem.W.readsIn K C mc = true
 at_ : PySem.W.findCls K (.ref C) mc m = some (.val (.ref f))
 kp : PySem.W.keepIn K (.ref f) = true
section
variable {X : Cx} {CX : CXT} {k : Nat} {f C : Addr} {mc : Value} {fd : FuncData} {ps : List Str} {sp : Sp} {dvs : List V} {ds : List Value} {E : XK} {x m : Str} {p pos apos : Pos} {e : Expr} {es : List Expr} {t : TA}
theorem pe_base {pl : Sem Bool} (B : Base X.K C mc m f) (F : FnOk X.prog X.w X.K X.mg X.base CX k f fd ps sp) (hr : Room k X.A) (hg : Gl X x) (hm : X.mg x = some (.ref C)) (hb : Binds X.K fd ps ds) (hd : Vals dvs ds) (hx : Passes CX X E) (ha : PA X (e :: es) t)
  (hdb : (x == ("__debug__" : Str)) = false := by decide) (hst : starEach (e :: es) X.env = (false, eval e X.env) :: starEach es X.env := by rfl) (hpl : (backTo pos (starEach es X.env)).any (·.1) = false := by rfl)
  (ht : eval (.Call (.Attribute (.Name x p) m apos) (e :: es) [] pos) X.env = (do
   let ov ← eval (.Name x p) X.env
   standAt apos.atName
   let (f, first) ← holding [ov] (getMethod ov m pl)
   callWith pos f first (backTo pos (starEach (e :: es) X.env)) (backToKw pos (keywordEach [] X.env))) := by rfl) :
  PE X (.Call (.Attribute (.Name x p) m apos) (e :: es) [] pos) (tCall sp dvs E t) := by
 intro pins s σ H Q I h
 refine PySem.W.methodCall_KW (pl := pl) (thn (pe_glob (v := .ref C) (pos := p) hg hm rfl hdb pins s σ H (fun v H1 => v = .ref C ∧ H1 = H) I ⟨rfl, rfl⟩) fun u s1 ⟨x, H1, I1, rx, ex, eH⟩ => ?_) ht
 subst ex eH
 obtain rfl : u = Value.ref C := rx
 refine PySem.W.method_cls I1.kIn B.ga (PySem.W.cls_value I1.kIn B.rd B.at_ rfl ?_)
 have I2 : Inv X pins σ H1 { s1 with toks := s1.toks + 1 } := I1.tok _
 refine PySem.W.callWith_K (first := []) (h₀ := X.base) I2.ok.mod.kin B.kp (thn (ha pos pins _ σ H1 _ I2 h) fun us s2 ⟨vs, H2, I3, r, q2⟩ => ⟨I3.kIn, ?_⟩) hst hpl
 exact run_fn F hr hb hd hx I3 r q2
end
end L2
namespace L2
open PySem PySem.Spec PyProof.Rows
section
variable {X : Cx}
theorem call_sumL (hcalm : X.calm = true) : CallR X (.builtin "sum") (fun vs H Q => ∃ (p : Addr) (ns : List Int), vs = [.ref p] ∧ H p = some (.lst (ns.map V.int)) ∧ Q (.int ns.sum) H) := by
 intro pins s σ H xs us Q I r h
 obtain ⟨p, ns, rfl, hq, q⟩ := h
 obtain ⟨u, rfl, ru⟩ := r.one
 cases ru
 obtain ⟨its, rv, pl, hz⟩ := I.list (SqL.of hq)
 have hi := vals_intsAre rv
 obtain ⟨ws, e⟩ := hi.allInts.items
 have hns : ns = ws.toList.map (·.1) := by rw [← hi.numsOf, ← nums_intItems, ← e]
 refine sum_intListG (I.ok.hd hcalm) (l := p) (xs := ws) (e ▸ pl.isList) fun h' tk t' hk => ⟨.int _, H, I.kept hk, ⟨t', rfl⟩, ?_⟩
 have es : preSum (numAt ws) ws.size = ns.sum := by rw [hns, preSum_eq, List.take_of_length_le (by simp)]
 rw [es]
 exact q
end
def Itz (a b : Addr) : It :=
  ⟨fun i H => ∃ xs ys x y, H a = some (.lst xs) ∧ H b = some (.lst ys) ∧ xs[i]? = some x ∧ ys[i]? = some y,
   fun i H v H' => ∃ T xs ys x y, H T = none ∧ H a = some (.lst xs) ∧ H b = some (.lst ys) ∧ xs[i]? = some x ∧ ys[i]? = some y ∧ v = .ref T ∧ H' = upd H T (.tup [x, y]),
   fun i H => ∃ xs ys, H a = some (.lst xs) ∧ H b = some (.lst ys) ∧ (xs.length ≤ i ∨ ys.length ≤ i)⟩
theorem turn_zip {P : Program} {w : World} {K : PySem.W.Frag} {es : List Expr} {k : Nat} {pos : Pos} {a b z TI TO i1 i2 : Addr} (D : ZipApart z TI TO i1 i2 a b) :
  Turn P w K (.Tuple es k pos) (Itz a b) [z, TI, TO, i1, i2] z (fun i h => IsZip h z TI TO .none ∧ IsPair h TI (.ref i1) (.ref i2) ∧ (∃ u v, IsPair h TO u v) ∧ h.IsListIter i1 a i ∧ h.IsListIter i2 b i) where
 mem := by simp
 obj := fun i h st c hc => by
  obtain ⟨hz, hTI, ⟨u, v, hTO⟩, h1, h2⟩ := st
  simp only [List.mem_cons, List.not_mem_nil, or_false] at hc
  rcases hc with rfl | rfl | rfl | rfl | rfl
  ·exact ⟨_, hz, fun v z => by cases z⟩
  ·exact ⟨_, hTI, fun v z => by cases z⟩
  ·exact ⟨_, hTO, fun v z => by cases z⟩
  ·obtain ⟨o, e1, c, d⟩ := h1
   exact ⟨o, e1, fun v z => by rw [d] at z; cases z⟩
  ·obtain ⟨o, e1, c, d⟩ := h2
   exact ⟨o, e1, fun v z => by rw [d] at z; cases z⟩
 keep := fun i h h' st k => by
  obtain ⟨hz, hTI, ⟨u, v, hTO⟩, h1, h2⟩ := st
  exact ⟨k z (by simp) _ hz, k TI (by simp) _ hTI, ⟨u, v, k TO (by simp) _ hTO⟩, h1.at fun o e => k i1 (by simp) o e, h2.at fun o e => k i2 (by simp) o e⟩
 item := by
  intro X hP hw hK hc i pins s σ H E I hf st hg
  subst hP hw hK
  obtain ⟨xs, ys, x, y, hqa, hqb, hx, hy⟩ := hg
  obtain ⟨_, its1, n1, r1, hl1, ea⟩ := I.lstM hqa
  obtain ⟨_, its2, n2, r2, hl2, eb⟩ := I.lstM hqb
  obtain ⟨u1, hu1, ru1⟩ := r1.get hx
  obtain ⟨u2, hu2, ru2⟩ := r2.get hy
  obtain ⟨hz, hTI, ⟨p, q, hTO⟩, h1, h2⟩ := st
  have hA : s.heap.IsList a its1.toArray := ⟨_, ea, rfl, n1, rfl⟩
  have hB : s.heap.IsList b its2.toArray := ⟨_, eb, rfl, n2, rfl⟩
  have lt : ∀ c ∈ [z, TI, TO, i1, i2], c < s.heap.objs.size := fun c hc => by
   simp only [List.mem_cons, List.not_mem_nil, or_false] at hc
   rcases hc with rfl | rfl | rfl | rfl | rfl
   ·exact Heap.lt_size hz
   ·exact Heap.lt_size hTI
   ·exact Heap.lt_size hTO
   ·obtain ⟨_, e, _⟩ := h1; exact Heap.lt_size e
   ·obtain ⟨_, e, _⟩ := h2; exact Heap.lt_size e
  refine wpAny_pyNext_zip_item D hz hTI hTO h1 h2 hA hB (x := u1) (y := u2) (by simpa using hu1) (by simpa using hu2) fun h' a1 a2 a3 a4 a5 a6 hk => ?_
  refine ⟨_, rfl, wpAny_letOwnedTupleGo_zip a1 fun h2' hz2 hs2 => ?_⟩
  replace hs2 : Heap.SameBut z h' h2' := hs2
  have I1 : Inv X pins σ (upd H s.heap.objs.size (.tup [x, y])) { s with heap := s.heap.push { cls := .type "tuple", data := .seq #[u1, u2] }, toks := s.toks } :=
   I.laid (fun b o q => Heap.get?_push_of_some _ q) (Nat.le_refl _) ⟨by show 2 ≤ sizeLine; decide, [u1, u2], .cons ru1 (.cons ru2 .nil), ⟨_, Heap.get?_push_size _ rfl, rfl, _, rfl⟩⟩
  have frs : ∀ c ∈ [z, TI, TO, i1, i2], upd H s.heap.objs.size (.tup [x, y]) c = none := fun c hc => by
   rw [upd_ne (Nat.ne_of_lt (lt c hc))]; exact (hf c hc).1
  have I2 : Inv X pins σ (upd H s.heap.objs.size (.tup [x, y])) { s with heap := h2', toks := s.toks } := by
   refine Inv.turnedL (s := { s with heap := s.heap.push { cls := .type "tuple", data := .seq #[u1, u2] }, toks := s.toks }) (h' := h2') (t' := s.toks) (fp := [z, TI, TO, i1, i2]) I1 (fun c o hc q => ?_) (fun c hc => ⟨frs c hc, (hf c hc).2⟩)
   have n1 : c ≠ z := fun e => hc (by simp [e])
   refine (hs2.2 c n1).trans ?_
   rcases Heap.get?_push_cases q with ⟨ec, eo⟩ | q
   ·rw [ec, eo]; exact a5
   ·exact hk c o n1 (fun e => hc (by simp [e])) (fun e => hc (by simp [e])) (fun e => hc (by simp [e])) q
  refine ⟨.ref s.heap.objs.size, _, I2, rfl, ⟨_, xs, ys, x, y, I.fresh, hqa, hqb, hx, hy, rfl, rfl⟩, ⟨hz2, ?_, ⟨_, _, hs2.extBut _ _ D.TOz a2⟩, a3.extBut hs2.extBut D.i1z, a4.extBut hs2.extBut D.i2z⟩, frs⟩
  exact hs2.extBut _ _ D.TIz (hk _ _ D.TIz D.TITO D.TIi1 D.TIi2 hTI)
 done := by
  intro X hP hw hK hc i pins s σ H E I hf st hg
  subst hP hw hK
  obtain ⟨xs, ys, hqa, hqb, hend⟩ := hg
  obtain ⟨_, its1, n1, r1, hl1, ea⟩ := I.lstM hqa
  obtain ⟨_, its2, n2, r2, hl2, eb⟩ := I.lstM hqb
  obtain ⟨hz, hTI, ⟨p, q, hTO⟩, h1, h2⟩ := st
  have hA : s.heap.IsList a its1.toArray := ⟨_, ea, rfl, n1, rfl⟩
  have hB : s.heap.IsList b its2.toArray := ⟨_, eb, rfl, n2, rfl⟩
  have he : its1.toArray[i]? = none ∨ its2.toArray[i]? = none := by
   rcases hend with z | z
   ·exact .inl (by simp; omega)
   ·exact .inr (by simp; omega)
  exact wpAny_pyNext_zip_end (I.ok.hd hc) D hz hTI hTO h1 h2 hA hB he fun h' hk => ⟨rfl, I.turnedL (t' := s.toks) (fp := [z, TI, TO, i1, i2]) (fun c o hc q => hk c o (fun e => hc (by simp [e])) (fun e => hc (by simp [e])) (fun e => hc (by simp [e])) (fun e => hc (by simp [e])) q) hf⟩
 self := fun _ _ _ _ _ st h => wpAny_pyIter_zip st.1 h
section
variable {X : Cx}
def iZip (ta : TA) : TI := fun σ H R => ta σ H fun vs H1 => ∃ a b xs ys, vs = [.ref a, .ref b] ∧ H1 a = some (.lst xs) ∧ H1 b = some (.lst ys) ∧ R (Itz a b) H1
theorem pi_zip {es : List Expr} {k : Nat} {tp : Pos} {a b : Expr} {ta : TA} {p pos : Pos} (hg : Gl X "zip") (hm : X.mg "zip" = none) (ha : PA X [a, b] ta) (hs : starEach [a, b] X.env = (false, eval a X.env) :: starEach [b] X.env := by rfl) (hpl : (backTo pos (starEach [b] X.env)).any (·.1) = false := by rfl) :
  PI X (.Tuple es k tp) (.Call (.Name "zip" p) [a, b] [] pos) (iZip ta) := by
 intro pins s σ H R I h
 refine wpAny_Call_Name_kw (ld_blt I hg hm boot_zip ?_ (by decide) (by decide))
 refine PyProof.Rows.callWith_type1 (thn (ha pos pins s σ H _ I h) fun us s1 ⟨vs, H1, I1, r1, q1⟩ => ?_) hs hpl
 obtain ⟨a, b, xs, ys, e, hqa, hqb, q⟩ := q1
 subst e
 obtain ⟨u1, u2, rfl, ru1, ru2⟩ : ∃ u1 u2, us = [u1, u2] ∧ RelV (.ref a) u1 ∧ RelV (.ref b) u2 := by
  cases r1 with
  | cons x1 t1 =>
   cases t1 with
   | cons x2 t2 =>
    cases t2
    exact ⟨_, _, rfl, x1, x2⟩
 cases ru1
 cases ru2
 obtain ⟨_, its1, n1, rv1, hl1, ea⟩ := I1.lstM hqa
 obtain ⟨_, its2, n2, rv2, hl2, eb⟩ := I1.lstM hqb
 refine call_zip_2 (xs := its1.toArray) (ys := its2.toArray) ⟨_, ea, rfl, n1, rfl⟩ ⟨_, eb, rfl, n2, rfl⟩ fun h' hz hTI hTO hi1 hi2 hsz hk => ?_
 refine wpAny_pyIter_zip hz ?_
 have I2 : Inv X pins σ H1 { s1 with heap := h' } := I1.kept (t' := s1.toks) hk
 refine ⟨s1.heap.objs.size + 4, [s1.heap.objs.size + 4, s1.heap.objs.size + 2, s1.heap.objs.size + 3, s1.heap.objs.size, s1.heap.objs.size + 1], _, _, H1, rfl, I2, turn_zip (zipApart_new (Heap.lt_size ea) (Heap.lt_size eb)), ⟨hz, hTI, ⟨_, _, hTO⟩, hi1, hi2⟩, fun c hc => ?_, q⟩
 have hge : s1.heap.objs.size ≤ c := by
  simp only [List.mem_cons, List.not_mem_nil, or_false] at hc
  rcases hc with rfl | rfl | rfl | rfl | rfl <;> omega
 exact I1.fpOk hge (I1.hok.fresh hge)
end
theorem turns_zip {K : PySem.W.Frag} {a b : Addr} {xs ys : List V} {tc : TT} {te : TE} {D : Addr} {Q : Hp → Prop} {σ : St} {H1 : Hp} {n : Nat} (c : Nat → Bool) (v : Nat → V) (hA : H1 a = some (.lst xs)) (hB : H1 b = some (.lst ys)) (hmin : n = min xs.length ys.length) (hD : H1 D = none) (hn : n ≤ 1000)
  (ht : ∀ i H', i < n → Same H1 H' → Tells tc (some (xs.getD i .non) :: some (ys.getD i .non) :: σ) H' (c i)) (he : ∀ i H', i < n → c i = true → Same H1 H' → Gives te (some (xs.getD i .non) :: some (ys.getD i .non) :: σ) H' (v i))
  (hq : ∀ H', Same H1 H' → H' D = some (.lst (((List.range n).filter c).map v)) → Q H') : tTurns (Itz a b) (gTup K 2 (gCons (gName 0) (gCons (gName 1) gNil))) tc te D Q (none :: none :: σ) (upd H1 D (.lst [])) := by
 refine turns_any (n := n) (fun i σ' H' => ∃ x y, σ' = x :: y :: σ ∧ Same H1 H' ∧ H' D = some (.lst (((List.range i).filter c).map v))) ⟨none, none, rfl, Same.new hD _, upd_same⟩ ?_ ?_
 ·rintro i σ' H' hi ⟨x, y, rfl, g, hl⟩
  have hix : i < xs.length := by omega
  have hiy : i < ys.length := by omega
  refine ⟨⟨xs, ys, xs[i], ys[i], g _ _ hA, g _ _ hB, List.getElem?_eq_getElem hix, List.getElem?_eq_getElem hiy⟩, fun z H2 hz => ?_⟩
  obtain ⟨T, xs', ys', u, u', hT, hxs, hys, hu, hu', rfl, rfl⟩ := hz
  rw [g _ _ hA] at hxs
  rw [g _ _ hB] at hys
  cases hxs
  cases hys
  have eu : u = xs.getD i .non := by rw [List.getD_eq_getElem?_getD, hu]; rfl
  have eu' : u' = ys.getD i .non := by rw [List.getD_eq_getElem?_getD, hu']; rfl
  subst eu eu'
  have g2 : Same H1 (upd H' T (.tup [xs.getD i .non, ys.getD i .non])) := fun b o hb => by
   have h1 := g _ _ hb
   rw [upd_ne (ne_of_none h1 hT)]; exact h1
  have hl2 : (upd H' T (.tup [xs.getD i .non, ys.getD i .non])) D = some (.lst (((List.range i).filter c).map v)) := by rw [upd_ne (ne_of_none hl hT)]; exact hl
  refine ⟨T, _, rfl, SqT.of upd_same, rfl, _, _, rfl, _, _, rfl, rfl, ?_⟩
  show tc (some (xs.getD i .non) :: some (ys.getD i .non) :: σ) _ _
  generalize upd H' T (.tup [xs.getD i .non, ys.getD i .non]) = H3 at g2 hl2 ⊢
  refine ht i H3 hi g2 _ fun H4 g4 => ?_
  have hr : (List.range (i + 1)).filter c = (List.range i).filter c ++ (if c i = true then [i] else []) := by
   rw [List.range_succ, List.filter_append, List.filter_cons, List.filter_nil]
  refine ite2 (fun hc => ?_) (fun hc => ?_)
  ·refine he i H4 hi hc (g2.trans g4) _ fun H5 g5 => ?_
   have l5 := g5 _ _ (g4 _ _ hl2)
   refine ⟨_, l5, ?_, _, _, rfl, fun b o hb => ?_, ?_⟩
   ·rw [List.length_map]
    have := List.length_filter_le c (List.range i)
    rw [List.length_range] at this
    exact small1000 (by omega)
   ·have hne : b ≠ D := fun e => by rw [e, hD] at hb; cases hb
    rw [upd_ne hne]
    exact g5 _ _ (g4 _ _ (g2 _ _ hb))
   ·rw [upd_same, hr, if_pos hc, List.map_append]
    rfl
  ·refine ⟨_, _, rfl, g2.trans g4, ?_⟩
   rw [hr, if_neg hc, List.append_nil]
   exact g4 _ _ hl2
 ·rintro σ' H' ⟨x, y, rfl, g, hl⟩
  exact ⟨⟨xs, ys, g _ _ hA, g _ _ hB, by omega⟩, hq H' g hl⟩
end L2
namespace L2
open PySem PySem.Spec PyProof.Rows
section
variable {X : Cx}
def tRev (K : PySem.W.Frag) (te : TE) : TE := fun σ H Q => te σ H fun x H1 => ∃ a xs, x = .ref a ∧ SqL K H1 a xs ∧ ∀ p, H1 p = none → Q (.ref p) (upd H1 p (.lst xs.reverse))
theorem pick_rev (its : List Value) : slicePick its.toArray none none (some (-1)) = its.reverse.toArray := by
 have hb : sliceBounds none none (some (-1)) its.toArray.size = ((its.length : Int) - 1, -1, -1) := by
  unfold sliceBounds
  simp
 unfold slicePick
 rw [hb]
 have hr : sliceRange ((its.length : Int) - 1) (-1) (-1) = (List.range its.length).map fun k : Nat => its.length - 1 - k := by
  unfold sliceRange
  have hc : (if (-1 : Int) > 0 then (if ((its.length : Int) - 1) < -1 then ((-1) - ((its.length : Int) - 1) + (-1) - 1) / (-1) else 0) else (if ((its.length : Int) - 1) > -1 then (((its.length : Int) - 1) - (-1) - (-1) - 1) / (-(-1)) else 0)) = (its.length : Int) := by
   rw [if_neg (by decide)]
   by_cases h : ((its.length : Int) - 1) > -1
   ·rw [if_pos h]
    have e : -(-1 : Int) = 1 := by decide
    rw [e, Int.ediv_one]
    omega
   ·rw [if_neg h]
    omega
  rw [hc]
  show (List.range ((its.length : Nat) : Int).toNat).map (fun k : Nat => ((its.length : Int) - 1 + -1 * (k : Int)).toNat) = _
  rw [Int.toNat_natCast]
  refine List.map_congr_left fun k hk => ?_
  have := List.mem_range.mp hk
  omega
 show (List.filterMap (fun x => its.toArray[x]?) (sliceRange ((its.length : Int) - 1) (-1) (-1))).toArray = _
 rw [hr]
 congr 1
 have key : ∀ l : List Value, ((List.range l.length).map fun k : Nat => l.length - 1 - k).filterMap (fun x => l.toArray[x]?) = l.reverse := by
  intro l
  have gen : ∀ (ks : List Nat), (∀ k ∈ ks, k < l.length) → (ks.map fun k : Nat => l.length - 1 - k).filterMap (fun x => l.toArray[x]?) = ks.map fun k => l.getD (l.length - 1 - k) .none := by
   intro ks
   induction ks with
   | nil => intro _; rfl
   | cons k r ih =>
    intro h
    have hk := h k List.mem_cons_self
    rw [List.map_cons, List.map_cons, List.filterMap_cons, ih fun x hx => h x (List.mem_cons_of_mem _ hx)]
    have e : l.toArray[l.length - 1 - k]? = some (l.getD (l.length - 1 - k) .none) := by
     rw [List.getElem?_toArray, List.getD_eq_getElem?_getD, List.getElem?_eq_getElem (by omega)]
     rfl
    rw [e]
  rw [gen _ fun k hk => List.mem_range.mp hk]
  refine List.ext_getElem (by rw [List.length_map, List.length_range, List.length_reverse]) fun i h1 h2 => ?_
  have hi : i < l.length := by rw [List.length_reverse] at h2; exact h2
  rw [List.getElem_map, List.getElem_range, List.getElem_reverse, List.getD_eq_getElem?_getD, List.getElem?_eq_getElem (by omega)]
  rfl
 exact key its
theorem pe_rev {e : Expr} {te : TE} {p1 p2 p3 pos : Pos} {j : Nat} (he : PE X e te) : PE X (.Subscript e (.Slice none none (some (.UnaryOp .USub (.Constant (.int 1) j p1) p2)) p3) pos) (tRev X.K te) := by
 intro pins s σ H Q I h
 refine Subscript_ (thn (he pins s σ H _ I h) fun v s1 ⟨x, H1, I1, r1, q1⟩ => ?_)
 obtain ⟨a, xs, rfl, hx, q⟩ := q1
 cases r1
 refine wpAny_Slice ?_
 rw [evalPart_none]
 refine wpAny_pure (wpAny_pure ?_)
 rw [evalPart_some]
 refine thn ((pe_un un_neg pe_int : PE X (.UnaryOp .USub (.Constant (.int 1) j p1) p2) _) pins s1 σ H1 (fun y H2 => y = .int (-1) ∧ H2 = H1) I1 ⟨1, rfl, rfl, rfl⟩) fun vs s2 ⟨y, H2, I2, r2, ey, eH⟩ => ?_
 subst ey eH
 obtain ⟨t, rfl⟩ := r2
 have I4 : Inv X pins σ H2 { s2 with heap := s2.heap.push { cls := .type "slice", data := .fields #[.none, .none, .int (-1) t] } } := I2.kept (t' := s2.toks) fun b ob q => Heap.get?_push_of_some _ q
 obtain ⟨its, r, ht, hz⟩ := I4.list hx
 have hlen := r.length
 have hg : wpAny (model X.prog X.w) X.A (getItem (.ref a) (.ref s2.heap.objs.size)) (EP X pins σ Q) X.xe { s2 with heap := s2.heap.push { cls := .type "slice", data := .fields #[.none, .none, .int (-1) t] } } := by
  refine wpAny_getItem_list_slice ht.isList (Heap.IsSliceOf.new ..) .none .none (.int (-1) t) (by decide) ?_ (by rw [List.size_toArray] <;> omega)
  rw [pick_rev]
  refine ⟨.ref _, _, I4.laid (t' := s2.toks) (o := .lst xs.reverse) (fun b ob q => Heap.get?_push_of_some _ q) (Nat.le_refl _) ?_, rfl, q _ (I4.hok.fresh (Nat.le_refl _))⟩
  exact ⟨by rw [List.length_reverse]; exact hz, its.reverse, 0, r.reverse, Heap.get?_push_size _ rfl⟩
 show wpAny (model X.prog X.w) X.A (subscriptTail e (.Slice none none (some (.UnaryOp .USub (.Constant (.int 1) j p1) p2)) p3) (.ref a) (.ref s2.heap.objs.size)) (EP X pins σ Q) X.xe { s2 with heap := s2.heap.push { cls := .type "slice", data := .fields #[.none, .none, .int (-1) t] } }
 exact tail_any (ops := [.ref a, .ref s2.heap.objs.size]) ht.isList.typeIs slot_list_getitem.lookup hg (by with_unfolding_all rfl)
end
end L2
namespace L2
open PySem PySem.Spec PyProof.Rows
mutual
inductive Dat (H : Hp) : V → PyData → Prop
 | non : Dat H .non .none
 | bl (b : Bool) : Dat H (.bl b) (.bool b)
 | int (i : Int) : Dat H (.int i) (.int i)
 | str (x : Str) : Dat H (.str x) (.str x)
 | lst {a : Addr} {xs : List V} {ds : List PyData} : H a = some (.lst xs) → DatAll H xs ds → Dat H (.ref a) (.list ds)
 | tup {a : Addr} {xs : List V} {ds : List PyData} : H a = some (.tup xs) → DatAll H xs ds → Dat H (.ref a) (.tuple ds)
 | dct {a : Addr} : H a = some (.dK []) → Dat H (.ref a) (.dict [])
inductive DatAll (H : Hp) : List V → List PyData → Prop
 | nil : DatAll H [] []
 | cons {x : V} {d : PyData} {xs : List V} {ds : List PyData} : Dat H x d → DatAll H xs ds → DatAll H (x :: xs) (d :: ds)
end
mutual
theorem Dat.same {H H' : Hp} (g : Same H H') : ∀ {x : V} {d : PyData}, Dat H x d → Dat H' x d
 | _, _, .non => .non
 | _, _, .bl b => .bl b
 | _, _, .int i => .int i
 | _, _, .str x => .str x
 | _, _, .lst e h => .lst (g _ _ e) (h.same g)
 | _, _, .tup e h => .tup (g _ _ e) (h.same g)
 | _, _, .dct e => .dct (g _ _ e)
theorem DatAll.same {H H' : Hp} (g : Same H H') : ∀ {xs : List V} {ds : List PyData}, DatAll H xs ds → DatAll H' xs ds
 | _, _, .nil => .nil
 | _, _, .cons h t => .cons (h.same g) (t.same g)
end
theorem DatAll.app {H : Hp} : ∀ {xs ys : List V} {ds es : List PyData}, DatAll H xs ds → DatAll H ys es → DatAll H (xs ++ ys) (ds ++ es)
 | _, _, _, _, .nil, h => h
 | _, _, _, _, .cons a t, h => .cons a (t.app h)
theorem DatAll.ints {H : Hp} : ∀ (ns : List Int), DatAll H (ns.map V.int) (ns.map PyData.int)
 | [] => .nil
 | n :: r => .cons (.int n) (DatAll.ints r)
section
variable {X : Cx} {pins : List (Addr × Obj)} {σ : St} {H : Hp} {s : Shared}
mutual
theorem Dat.reads (I : Inv X pins σ H s) : ∀ {x : V} {d : PyData} {u : Value}, Dat H x d → RelV x u → ∃ as, Reads s.heap u d as
 | _, _, _, .non, r => by cases r; exact ⟨_, .none⟩
 | _, _, _, .bl b, r => by cases r; exact ⟨_, .bool b⟩
 | _, _, _, .int i, r => by obtain ⟨t, rfl⟩ := r; exact ⟨_, .int i t⟩
 | _, _, _, .str x, r => by obtain ⟨t, rfl⟩ := r; exact ⟨_, .str x t⟩
 | _, _, _, .lst (a := a) e h, r => by
  cases r
  obtain ⟨_, its, n, rv, _, eo⟩ := I.lstM e
  obtain ⟨as, q⟩ := h.reads I rv
  exact ⟨_, .list eo rfl rfl (by simpa using q)⟩
 | _, _, _, .tup e h, r => by
  cases r
  obtain ⟨_, its, rv, o, h1, h2, n, h3⟩ := I.hok _ _ e
  obtain ⟨as, q⟩ := h.reads I rv
  exact ⟨_, .tuple h1 h2 h3 (by simpa using q)⟩
 | _, _, _, .dct e, r => by
  cases r
  obtain ⟨z, y, vs, rv, ob, es, ep, h1, h2, h3, _, h5, _⟩ := I.hok _ _ e
  cases rv
  have he : es.toList = [] := by
   cases hh : es.toList with
   | nil => rfl
   | cons x r => rw [hh] at h5; cases h5
  exact ⟨_, .dict (kvs := []) (as := []) (bs := []) h1 h2.1 h3 (by rw [he]; exact .nil) (by rw [he]; exact .nil)⟩
theorem DatAll.reads (I : Inv X pins σ H s) : ∀ {xs : List V} {ds : List PyData} {us : List Value}, DatAll H xs ds → Vals xs us → ∃ as, ReadsAll s.heap us ds as
 | _, _, _, .nil, r => by cases r; exact ⟨_, .nil⟩
 | _, _, _, .cons h t, r => by
  cases r with
  | cons r1 r2 =>
   obtain ⟨as, q1⟩ := h.reads I r1
   obtain ⟨bs, q2⟩ := t.reads I r2
   exact ⟨_, .cons q1 q2⟩
end
def AllFit (ds : List PyData) : Prop := ∀ t ∈ PyData.shownAll ds, t.length ≤ sizeLine
mutual
theorem Dat.rk (I : Inv X pins σ H s) : ∀ {x : V} {d : PyData} {u : Value}, Dat H x d → RelV x u → d.showable = true → d.shown.length ≤ sizeLine → ∃ bs, ReadAtMost s.heap d.depth bs ∧ ReprK X.prog X.w bs s.heap d.depth u d.shown
 | _, _, _, .non, r, _, _ => by
  cases r
  rw [PyData.shown_none]
  exact ⟨[], fun _ h => (nomatch h), ReprK.of_is ReprIs.none _ _ _⟩
 | _, _, _, .bl b, r, _, _ => by
  cases r
  rw [PyData.shown_bool]
  exact ⟨[], fun _ h => (nomatch h), ReprK.of_is (ReprIs.bool b) _ _ _⟩
 | _, _, _, .int i, r, hs, _ => by
  obtain ⟨t, rfl⟩ := r
  rw [PyData.shown_int]
  refine ⟨[], fun _ h => (nomatch h), ReprK.of_is (ReprIs.int t ?_) _ _ _⟩
  simpa [PyData.showable] using hs
 | _, _, _, .str x, r, _, hz => by
  obtain ⟨t, rfl⟩ := r
  rw [PyData.shown_str] at hz ⊢
  exact ⟨[], fun _ h => (nomatch h), ReprK.of_is (ReprIs.str x t hz) _ _ _⟩
 | _, _, _, .lst (a := a) (ds := ds) e h, r, hs, hz => by
  cases r
  obtain ⟨_, its, n, rv, _, eo⟩ := I.lstM e
  obtain ⟨as, q⟩ := h.reads I rv
  have rd : Reads s.heap (.ref a) (.list ds) (a :: as) := .list eo rfl rfl (by simpa using q)
  have hz2 : (listText (PyData.shownAll ds)).length ≤ sizeLine := by
   rw [PyData.shown] at hz
   exact hz
  obtain ⟨bs, hb, hk⟩ := h.rk I rv (by simpa [PyData.showable] using hs) fun t ht => Nat.le_trans (listText_mem_le ht) hz2
  have hlt : PyData.depthAll ds < (PyData.list ds).depth := by simp only [PyData.depth]; omega
  refine ⟨a :: bs, ReadAtMost.cons rd (Nat.le_of_lt hlt) hb, ?_⟩
  have hn := not_mem_of_deeper rd hlt hb
  rw [PyData.depth, PyData.shown]
  cases its with
  | nil =>
   cases q
   rw [PyData.shownAll, listText_nil]
   exact ReprK.listEmpty eo rfl rfl
  | cons y l =>
   refine ReprK.list eo rfl rfl hn ?_ fun i z ez => hk.item i z ?_
   ·have := hk.length_eq
    simpa using this
   ·simpa using ez
 | _, _, _, .tup (a := a) (ds := ds) e h, r, hs, hz => by
  cases r
  obtain ⟨_, its, rv, o, h1, h2, n, h3⟩ := I.hok _ _ e
  obtain ⟨as, q⟩ := h.reads I rv
  have rd : Reads s.heap (.ref a) (.tuple ds) as := .tuple h1 h2 h3 (by simpa using q)
  have hz2 : (tupleText (PyData.shownAll ds)).length ≤ sizeLine := by
   rw [PyData.shown] at hz
   exact hz
  obtain ⟨bs, hb, hk⟩ := h.rk I rv (by simpa [PyData.showable] using hs) fun t ht => Nat.le_trans (tupleText_mem_le ht) hz2
  have hlt : PyData.depthAll ds < (PyData.tuple ds).depth := by simp only [PyData.depth]; omega
  refine ⟨a :: bs, ReadAtMost.cons rd (Nat.le_of_lt hlt) hb, ?_⟩
  have hn := not_mem_of_deeper rd hlt hb
  rw [PyData.depth, PyData.shown]
  exact ReprK.tuple h1 h2 h3 hn (by simpa using hk)
 | _, _, _, .dct (a := a) e, r, hs, hz => by
  obtain ⟨as, rd⟩ := (Dat.dct e).reads I r
  cases r
  obtain ⟨z, y, vs, rv, ob, es, ep, h1, h2, h3, _, h5, _⟩ := I.hok _ _ e
  cases rv
  have he : es.toList = [] := by
   cases hh : es.toList with
   | nil => rfl
   | cons x r => rw [hh] at h5; cases h5
  have hlt : 0 < (PyData.dict []).depth := by simp only [PyData.depth]; omega
  refine ⟨[a], ReadAtMost.cons (n := 0) rd (Nat.zero_le _) (fun _ h => (nomatch h)), ?_⟩
  rw [PyData.depth, PyData.shown]
  have hd := ReprK.dict (prog := X.prog) (w := X.w) (as := []) (d := PyData.depthKv []) (ps := []) h1 h2.1 h3 y (fun h => (nomatch h)) (by rw [he]; exact .nil)
  simpa [PyData.shownKv] using hd
theorem DatAll.rk (I : Inv X pins σ H s) : ∀ {xs : List V} {ds : List PyData} {us : List Value}, DatAll H xs ds → Vals xs us → PyData.showableAll ds = true → AllFit ds → ∃ bs, ReadAtMost s.heap (PyData.depthAll ds) bs ∧ ReprAllK X.prog X.w bs s.heap (PyData.depthAll ds) us (PyData.shownAll ds)
 | _, _, _, .nil, r, _, _ => by
  cases r
  rw [PyData.shownAll]
  exact ⟨[], fun _ h => (nomatch h), .nil⟩
 | _, _, _, .cons (d := d) (ds := ds) h t, r, hs, hz => by
  cases r with
  | cons r1 r2 =>
   have hs' : d.showable = true ∧ PyData.showableAll ds = true := by simpa [PyData.showableAll] using hs
   have hz' : ∀ t ∈ d.shown :: PyData.shownAll ds, t.length ≤ sizeLine := by
    have := hz
    unfold AllFit at this
    rw [PyData.shownAll] at this
    exact this
   obtain ⟨b1, m1, k1⟩ := h.rk I r1 hs'.1 (hz' _ List.mem_cons_self)
   obtain ⟨b2, m2, k2⟩ := t.rk I r2 hs'.2 fun t ht => hz' t (List.mem_cons_of_mem _ ht)
   have l1 : d.depth ≤ PyData.depthAll (d :: ds) := by simp only [PyData.depthAll]; omega
   have l2 : PyData.depthAll ds ≤ PyData.depthAll (d :: ds) := by simp only [PyData.depthAll]; omega
   refine ⟨b1 ++ b2, (m1.mono l1).append (m2.mono l2), ?_⟩
   rw [PyData.shownAll]
   exact .cons ((k1.more fun b hb => List.mem_append_left b2 hb).level_le l1) (k2.more_le (fun b hb => List.mem_append_right b1 hb) l2)
end
theorem call_repr (hu : X.A.units + 64 < cLine) (hg : X.A.guards = some []) : CallR X (.builtin "repr") (fun vs H Q => ∃ x d, vs = [x] ∧ Dat H x d ∧ d.showable = true ∧ d.depth ≤ 8 ∧ d.shown.length ≤ sizeLine ∧ Q (.str d.shown) H) := by
 intro pins s σ H xs us Q I r h
 obtain ⟨x, d, rfl, hd, hs, hp, hz, q⟩ := h
 obtain ⟨u, rfl, ru⟩ := r.one
 have fin : ∀ (h' : Heap) (t : Tok) (tk : Nat), (∀ b o, s.heap.get? b = some o → h'.get? b = some o) → EP X pins σ Q (.str d.shown t) { s with heap := h', toks := tk } := fun h' t tk hk => ⟨.str d.shown, H, I.kept hk, ⟨t, rfl⟩, q⟩
 cases hd with
 | non =>
  cases ru
  rw [PyData.shown_none] at fin
  exact PySem.P.repr_of_none (fin s.heap _ _ fun _ _ e => e)
 | bl b =>
  cases ru
  rw [PyData.shown_bool] at fin
  exact PySem.P.repr_of_bool (fin s.heap _ _ fun _ _ e => e)
 | int i =>
  obtain ⟨t, rfl⟩ := ru
  rw [PyData.shown_int] at fin
  exact PySem.P.repr_of_int (by simpa [PyData.showable] using hs) (fin s.heap _ _ fun _ _ e => e)
 | str x =>
  obtain ⟨t, rfl⟩ := ru
  rw [PyData.shown_str] at fin hz
  exact PySem.P.repr_of_str (fin s.heap _ _ fun _ _ e => e) hz
 | lst e h =>
  rename_i a xs ds
  cases ru
  obtain ⟨_, its, n, rv, _, eo⟩ := I.lstM e
  obtain ⟨as, q2⟩ := h.reads I rv
  have rd : Reads s.heap (.ref a) (.list ds) (a :: as) := .list eo rfl rfl (by simpa using q2)
  rw [PyData.shown] at hz fin
  rw [PyData.depth] at hp
  obtain ⟨bs, hb, hk⟩ := h.rk I rv (by simpa [PyData.showable] using hs) fun t ht => Nat.le_trans (listText_mem_le ht) hz
  have hn := not_mem_of_deeper rd (by simp only [PyData.depth]; omega) hb
  refine call_repr_slot (by omega) ⟨_, eo, rfl⟩ F.slot_list_repr.toG ?_
  cases its with
  | nil =>
   cases q2
   rw [PyData.shownAll, listText_nil] at fin
   exact call_list_repr_empty ⟨_, eo, rfl⟩ eo rfl ⟨_, _, rfl, fin s.heap _ _ fun _ _ e => e⟩
  | cons y l =>
   refine call_list_reprK eo rfl rfl hn ?_ (fun i z ez => hk.item i z ?_) hg (fun b _ => Clear.nil b) ?_ (fun _ _ e => e) (fun h' u tk hk' => ⟨_, _, rfl, fin h' u tk hk'⟩) hz
   ·have := hk.length_eq
    simpa using this
   ·simpa using ez
   ·show X.A.units + 1 + (PyData.depthAll ds + 1) < cLine
    omega
 | tup e h =>
  rename_i a xs ds
  cases ru
  obtain ⟨_, its, rv, o, h1, h2, n, h3⟩ := I.hok _ _ e
  obtain ⟨as, q2⟩ := h.reads I rv
  have rd : Reads s.heap (.ref a) (.tuple ds) as := .tuple h1 h2 h3 (by simpa using q2)
  rw [PyData.shown] at hz fin
  rw [PyData.depth] at hp
  obtain ⟨bs, hb, hk⟩ := h.rk I rv (by simpa [PyData.showable] using hs) fun t ht => Nat.le_trans (tupleText_mem_le ht) hz
  have hn := not_mem_of_deeper rd (by simp only [PyData.depth]; omega) hb
  refine call_repr_slot (by omega) ⟨_, h1, h2⟩ F.slot_tuple_repr (call_tuple_reprK h1 h2 h3 hn (by simpa using hk) hg (fun b _ => Clear.nil b) ?_ (fun _ _ e => e) (fun h' u tk hk' => ⟨_, _, rfl, fin h' u tk hk'⟩) hz)
  show X.A.units + 1 + (PyData.depthAll ds + 1) < cLine
  omega
 | dct e =>
  rename_i a
  cases ru
  obtain ⟨z, y, vs, rv, ob, es, ep, h1, h2, h3, _, h5, _⟩ := I.hok _ _ e
  cases rv
  have he : es.toList = [] := by
   cases hh : es.toList with
   | nil => rfl
   | cons x r => rw [hh] at h5; cases h5
  have ht : (PyData.dict []).shown = dictText [] := by simp only [PyData.shown, PyData.shownKv]
  rw [ht] at hz fin
  refine call_repr_slot (by omega) ⟨_, h1, h2.1⟩ F.slot_dict_repr (call_dict_reprK (as := []) (d := 0) (ps := []) h1 h2.1 h3 y (fun h => (nomatch h)) (by rw [he]; exact .nil) hg (fun b _ => Clear.nil b) ?_ (fun _ _ e => e) (fun h' u tk hk' => ⟨_, _, rfl, fin h' u tk hk'⟩) hz)
  show X.A.units + 1 + (0 + 1) < cLine
  omega
end
end L2
namespace L2
open PySem PySem.Spec PyProof.Rows
noncomputable def msk (S : Addr → Prop) (H : Hp) : Hp := fun b => open Classical in if S b then none else H b
theorem msk_in {S : Addr → Prop} {H : Hp} {b : Addr} (h : ¬ S b) : msk S H b = H b := if_neg h
theorem msk_some {S : Addr → Prop} {H : Hp} {b : Addr} {o : HO} (h : msk S H b = some o) : ¬ S b ∧ H b = some o := by
 unfold msk at h
 split at h
 ·cases h
 ·exact ⟨by assumption, h⟩
theorem msk_le {S : Addr → Prop} {H : Hp} : Same (msk S H) H := fun _ _ h => (msk_some h).2
theorem msk_same {S : Addr → Prop} {H H' : Hp} (g : Same H H') : Same (msk S H) (msk S H') := fun b o h => by
 obtain ⟨n, e⟩ := msk_some h
 rw [msk_in n]
 exact g b o e
structure Fine (n k : Nat) (d : PyData) : Prop where
 show_ : d.showable = true
 leaf : d.leavesShort 40 = true
 bulk : d.bulk ≤ n
 deep : d.depth ≤ k
def Th (H : Hp) (v : V) (n k : Nat) : Prop := ∃ d, Dat H v d ∧ Fine n k d
theorem Th.mono {H : Hp} {v : V} {n k n' k' : Nat} (h : Th H v n k) (hn : n ≤ n') (hk : k ≤ k') : Th H v n' k' := by
 obtain ⟨d, a, b⟩ := h
 exact ⟨d, a, b.show_, b.leaf, Nat.le_trans b.bulk hn, Nat.le_trans b.deep hk⟩
theorem Fine.len {n k : Nat} {d : PyData} (h : Fine n k d) (hn : n ≤ 10000) : d.shown.length ≤ sizeLine := by
 have q := PyData.shown_le_bulk 40 (by decide) d h.leaf
 have b := h.bulk
 have e : sizeLine = 2 ^ 24 := rfl
 rw [e]
 omega
theorem Th.non {H : Hp} {n k : Nat} : Th H .non n k := ⟨_, .non, rfl, rfl, Nat.zero_le _, Nat.zero_le _⟩
theorem Th.bl {H : Hp} {n k : Nat} (b : Bool) : Th H (.bl b) n k := ⟨_, .bl b, rfl, rfl, Nat.zero_le _, Nat.zero_le _⟩
theorem Th.int {H : Hp} {n k : Nat} {i : Int} (h : i.natAbs < 10 ^ 30) : Th H (.int i) n k := by
 refine ⟨_, .int i, ?_, ?_, Nat.zero_le _, Nat.zero_le _⟩
 ·rw [PyData.showable]
  refine decide_eq_true ?_
  by_cases z : i.natAbs = 0
  ·rw [z]; decide
  ·exact (Nat.log2_lt z).mpr (Nat.lt_trans h (Nat.lt_of_lt_of_le (show 10 ^ 30 < 2 ^ 100 by decide) (Nat.pow_le_pow_right (by decide) (by decide))))
 ·have q := int_text_length_le10 (k := 30) (by decide) h
  simp only [PyData.leavesShort, PyData.shown_int, decide_eq_true_eq]
  rw [PySem.ofString_length]
  omega
theorem Th.str {H : Hp} {n k : Nat} {x : Str} (h1 : x.cps.toList.all (fun c => decide (c < 16 ^ 8)) = true) (h2 : x.cps.size ≤ n) : Th H (.str x) n k := ⟨_, .str x, rfl, by rw [PyData.leavesShort]; exact h1, h2, Nat.zero_le _⟩
theorem things {H : Hp} {n k : Nat} : ∀ {xs : List V}, (∀ x ∈ xs, Th H x n k) → ∃ ds, DatAll H xs ds ∧ PyData.showableAll ds = true ∧ PyData.leavesShortAll 40 ds = true ∧ PyData.bulkAll ds ≤ xs.length * (n + 1) ∧ PyData.depthAll ds ≤ k
 | [], _ => ⟨[], .nil, rfl, rfl, Nat.zero_le _, Nat.zero_le _⟩
 | x :: r, h => by
  obtain ⟨d, q, f⟩ := h x List.mem_cons_self
  obtain ⟨ds, q2, a, b, c, e⟩ := things fun y hy => h y (List.mem_cons_of_mem _ hy)
  refine ⟨d :: ds, .cons q q2, ?_, ?_, ?_, ?_⟩
  ·rw [PyData.showableAll, f.show_, a]; rfl
  ·rw [PyData.leavesShortAll, f.leaf, b]; rfl
  ·have := f.bulk
   rw [PyData.bulkAll, List.length_cons, Nat.succ_mul]
   omega
  ·have := f.deep
   rw [PyData.depthAll]
   omega
theorem Th.lst {H : Hp} {a : Addr} {xs : List V} {n k : Nat} (e : H a = some (.lst xs)) (h : ∀ x ∈ xs, Th H x n k) : Th H (.ref a) (xs.length * (n + 1)) (k + 1) := by
 obtain ⟨ds, q, a1, a2, a3, a4⟩ := things h
 refine ⟨_, .lst e q, ?_, ?_, ?_, ?_⟩
 ·rw [PyData.showable]; exact a1
 ·rw [PyData.leavesShort]; exact a2
 ·rw [PyData.bulk]; exact a3
 ·rw [PyData.depth]; omega
theorem Th.tup {H : Hp} {a : Addr} {xs : List V} {n k : Nat} (e : H a = some (.tup xs)) (h : ∀ x ∈ xs, Th H x n k) : Th H (.ref a) (xs.length * (n + 1)) (k + 1) := by
 obtain ⟨ds, q, a1, a2, a3, a4⟩ := things h
 refine ⟨_, .tup e q, ?_, ?_, ?_, ?_⟩
 ·rw [PyData.showable]; exact a1
 ·rw [PyData.leavesShort]; exact a2
 ·rw [PyData.bulk]; exact a3
 ·rw [PyData.depth]; omega
theorem Th.dct {H : Hp} {a : Addr} {n k : Nat} (e : H a = some (.dK [])) : Th H (.ref a) n (k + 1) := ⟨_, .dct e, rfl, rfl, Nat.zero_le _, by simp [PyData.depth, PyData.depthKv]⟩
theorem pick_any {xs : List V} {r : Int} (h0 : 0 ≤ r) (h1 : r < (xs.length : Nat)) : ∃ v, atI xs r = some v ∧ v ∈ xs := by
 have hj : r.toNat < xs.length := by omega
 have e : r = ((r.toNat : Nat) : Int) := by omega
 refine ⟨xs[r.toNat], ?_, List.getElem_mem hj⟩
 have q : atI xs ((r.toNat : Nat) : Int) = some xs[r.toNat] := atI_nat (List.getElem?_eq_getElem hj)
 rw [← e] at q
 exact q
def tyD : PyData → String
 | .none => "NoneType" | .bool _ => "bool" | .int _ => "int" | .str _ => "str" | .list _ => "list" | .tuple _ => "tuple" | .dict _ => "dict"
theorem Dat.ty {K : PySem.W.Frag} {H : Hp} {v : V} {d : PyData} (h : Dat H v d) : TyOf K H v (.type (tyD d)) := by
 cases h with
 | non => exact .non
 | bl b => exact .bl b
 | int i => exact .int i
 | str x => exact .str x
 | lst e _ => exact .lst e
 | tup e _ => exact .tup e
 | dct e => exact .dK e
def isL : PyData → Bool
 | .list _ => true
 | _ => false
def isT : PyData → Bool
 | .tuple _ => true
 | _ => false
def isI : PyData → Bool
 | .int _ => true
 | .bool _ => true
 | _ => false
def isB : PyData → Bool
 | .bool _ => true
 | _ => false
def isW : PyData → Bool
 | .int _ => true
 | _ => false
theorem kit_l (K : PySem.W.Frag) (d : PyData) : PySem.W.kitOne K (.type (tyD d)) (.type "list") = some (isL d) := by cases d <;> rfl
theorem kit_t (K : PySem.W.Frag) (d : PyData) : PySem.W.kitOne K (.type (tyD d)) (.type "tuple") = some (isT d) := by cases d <;> rfl
theorem kit_i (K : PySem.W.Frag) (d : PyData) : PySem.W.kitOne K (.type (tyD d)) (.type "int") = some (isI d) := by cases d <;> rfl
theorem kit_b (K : PySem.W.Frag) (d : PyData) : PySem.W.kitOne K (.type (tyD d)) (.type "bool") = some (isB d) := by cases d <;> rfl
def riseGo : Int → List PyData → Bool
 | _, [] => true
 | b, .int n :: r => decide (b < n) && riseGo n r
 | _, _ :: _ => false
def riseD (few : Int) : PyData → Bool
 | .list ds => decide (few ≤ (ds.length : Int)) && (decide (ds.length ≤ 10) && riseGo (-1) ds)
 | _ => false
def planD : PyData → Bool
 | .tuple [x, y] => riseD 1 x && riseD 0 y
 | _ => false
theorem DatAll.len {H : Hp} : ∀ {xs : List V} {ds : List PyData}, DatAll H xs ds → xs.length = ds.length
 | _, _, .nil => rfl
 | _, _, .cons _ h => by rw [List.length_cons, List.length_cons, h.len]
theorem DatAll.at {H : Hp} : ∀ {xs : List V} {ds : List PyData} (_ : DatAll H xs ds) {i : Nat} {x : V}, xs[i]? = some x → ∃ d, ds[i]? = some d ∧ Dat H x d
 | _, _, .nil, i, x, h => nomatch h
 | _, _, .cons q _, 0, x, h => by cases h; exact ⟨_, rfl, q⟩
 | _, _, .cons _ t, i + 1, x, h => by
  obtain ⟨d, e, q⟩ := t.at (i := i) (x := x) h
  exact ⟨d, e, q⟩
section
variable {X : Cx}
end
end L2
namespace L2
open PySem PySem.Spec PyProof.Rows
abbrev NK := Option Int × List Key
def optI : Option Int → V
 | none => .non
 | some i => .int i
def hashOI : Option Int → Int
 | none => 0xFCA86420
 | some i => hashInt i
theorem optI_flat : ∀ o : Option Int, flatV (optI o) = true
 | none => rfl
 | some _ => rfl
theorem optI_inj : ∀ {x y : Option Int} {v : Value}, RelV (optI x) v → RelV (optI y) v → x = y
 | none, none, _, _, _ => rfl
 | none, some i, v, h1, ⟨t, h2⟩ => by cases h1; cases h2
 | some i, none, v, ⟨t, h1⟩, h2 => by cases h2; cases h1
 | some i, some j, v, ⟨t, h1⟩, ⟨u, h2⟩ => by rw [h1] at h2; cases h2; rfl
theorem optI_eq : ∀ x y : Option Int, eqV (optI x) (optI y) = decide (x = y)
 | none, none => rfl
 | none, some _ => rfl
 | some _, none => rfl
 | some i, some j => by
  show (i == j) = decide (some i = some j)
  rw [Bool.eq_iff_iff, beq_iff_eq, decide_eq_true_iff]
  exact ⟨fun h => by rw [h], fun h => Option.some.inj h⟩
section
variable {P : Program} {w : World}
def IsNK (P : Program) (w : World) (h : Heap) (k : NK) (a : Addr) : Prop :=
 ∃ o v b n, h.get? a = some o ∧ o.cls = .type "tuple" ∧ o.data = .seq #[v, .ref b] n ∧ RelV (optI k.1) v ∧ (tupleKind (mixKind P w)).is h k.2 b
def nkHash (w : World) (k : NK) : Int := reduceHash (Builtin.Tuple.tupleHashOf [hashOI k.1, reduceHash (Builtin.Tuple.tupleHashOf (k.2.map (keyH w)))])
section
variable {A : Around} {E : Value → Shared → Prop} {s : Shared} {a b : Addr} {v u v' u' : Value} {n n' : Nat}
def IsPr (h : Heap) (a : Addr) (v u : Value) : Prop := ∃ o n, h.get? a = some o ∧ o.cls = .type "tuple" ∧ o.data = .seq #[v, u] n
theorem IsPr.ty (x : IsPr s.heap a v u) : s.TypeIs (.ref a) "tuple" := x.elim fun o z => z.elim fun _ y => ⟨o, y.1, y.2.1⟩
theorem IsPr.items {M : Model} {Q : Array Value → Shared → Prop} (x : IsPr s.heap a v u) (q : Q #[v, u] s) : wpAny M A (Builtin.Tuple.tupleItemsOf (.ref a)) Q E s := x.elim fun _ z => z.elim fun _ y => wpAny_tupleItemsOf y.1 y.2.2 q
theorem hash_pair {x y : Int} {k1 k2 : Nat} {Q : Int → Shared → Prop} (hu : A.units < cLine) (pr : IsPr s.heap a v u)
  (h1 : ∀ (Q' : Int → Shared → Prop), Q' x { s with toks := s.toks + k1 } → wpAny (model P w) A.in1 (pyHash v) Q' E s)
  (h2 : ∀ (Q' : Int → Shared → Prop), Q' y { s with toks := s.toks + k1 + k2 } → wpAny (model P w) A.in1 (pyHash u) Q' E { s with toks := s.toks + k1 })
  (q : Q (reduceHash (Builtin.Tuple.tupleHashOf [x, y])) { s with toks := s.toks + k1 + k2 + 1 }) : wpAny (model P w) A (pyHash (.ref a)) Q E s := by
 have look := fun {Q' : Option Value → Shared → Prop} (z : Q' (some (.builtin "tuple.__hash__")) s) => wpAny_specialOf (M := model P w) (A := A) (E := E) pr.ty F.slot_tuple_hash.lookup z
 have body : wpAny (model P w) A.in1 (Builtin.«tuple.__hash__» ⟨[.ref a], []⟩) (fun fin s' => ∃ r, fin = .done (.ret r) ∧ ∃ t, r = .int (Builtin.Tuple.tupleHashOf [x, y]) t ∧ s' = { s with toks := s.toks + k1 + k2 + 1 }) E s := by
  change wpAny _ _ (Builtin.Tuple.tupleItemsOf (.ref a) >>= _) _ _ s
  refine wpAny_bind (pr.items (wpAny_bind ?l))
  case l =>
   rw [← Array.forIn_toList]
   change wpAny _ _ (forIn [v, u] _ _) _ _ s
   simp only [List.forIn_cons, List.forIn_nil]
   refine wpAny_bind (wpAny_bind (h1 _ (wpAny_pure ?_)))
   change wpAny _ _ (_ >>= _) _ _ _
   refine wpAny_bind (wpAny_bind (h2 _ (wpAny_pure (wpAny_pure ?_))))
   change wpAny _ _ (retInt (Builtin.Tuple.tupleHashOf [x, y])) _ _ _
   exact wpAny_ret_mkInt ⟨_, rfl, rfl⟩
 unfold pyHash
 first | unfold pyHashByItsType | skip
 first | refine wpAny_bind (wpAny_cRoomFor_or (Or.inr hu) ?_) | skip
 refine wpAny_bind (look ?_)
 rw [if_neg (show ¬ (some (Value.builtin "tuple.__hash__") == some Value.none) = true by rw [beq_builtin_none]; exact Bool.false_ne_true)]
 refine wpAny_bind (look (wpAny_bind (wpAny_callSpecialIfBoundUnlessNone?_slot pr.ty F.slot_tuple_hash (wpAny_call_entry F.slot_tuple_hash pr.ty F.entry_tuple_hash (wpAny_mono body ?k fun _ _ z => z) (F.args_tuple_hash_1 _)))))
 case k =>
  rintro fin s' ⟨r, e1, t, e2, e3⟩
  subst e1 e2 e3
  refine ⟨_, rfl, ?_⟩
  unfold reduceHash at q
  generalize Builtin.Tuple.tupleHashOf [x, y] = hv at q ⊢
  change wpAny _ _ (if (decide (-(2 : Int) ^ 63 ≤ hv) && decide (hv < 2 ^ 63)) = true then _ else _) Q E _
  by_cases hr : (decide (-(2 : Int) ^ 63 ≤ hv) && decide (hv < 2 ^ 63)) = true
  ·rw [if_pos hr] at q ⊢; exact wpAny_pure q
  ·rw [if_neg hr] at q ⊢; exact wpAny_bind (wpAny_rule (wpAny_pure q))
theorem eq_pair {p q : Bool} {Q : Bool → Shared → Prop} (hu : A.units < cLine) (x : IsPr s.heap a v u) (y : IsPr s.heap b v' u') (same : a = b → (p && q) = true)
  (h1 : ∀ Q' : Bool → Shared → Prop, Q' p s → wpAny (model P w) A.in1 (eqBool v v') Q' E s) (h2 : ∀ Q' : Bool → Shared → Prop, Q' q s → wpAny (model P w) A.in1 (eqBool u u') Q' E s)
  (h : Q (p && q) s) : wpAny (model P w) A (eqBool (.ref a) (.ref b)) Q E s := by
 have body : wpAny (model P w) A.in1 (Builtin.«tuple.__eq__» ⟨[.ref a, .ref b], []⟩) (fun fin s' => fin = .done (.ret (.bool (p && q))) ∧ s' = s) E s := by
  change wpAny _ _ (isInstance (.ref b) (.type "tuple") >>= _) _ _ s
  refine wpAny_bind (wpAny_isInstance y.ty isSubtype_tuple_tuple ?i)
  case i =>
   simp only [Bool.not_true, Bool.false_eq_true, if_false]
   refine wpAny_bind (x.items (wpAny_bind (y.items (wpAny_bind ?l))))
   case l =>
    change wpAny _ _ (forIn [(v, v'), (u, u')] _ _) _ _ s
    simp only [List.forIn_cons, List.forIn_nil]
    refine wpAny_bind (wpAny_bind (h1 _ ?_))
    cases p with
    | false => exact wpAny_bind (wpAny_pure (wpAny_pure (wpAny_pure (wpAny_pure ⟨rfl, rfl⟩))))
    | true =>
     refine wpAny_pure ?_
     change wpAny _ _ (_ >>= _) _ _ _
     refine wpAny_bind (wpAny_bind (h2 _ ?_))
     cases q with
     | false => exact wpAny_bind (wpAny_pure (wpAny_pure (wpAny_pure (wpAny_pure ⟨rfl, rfl⟩))))
     | true => exact wpAny_pure (wpAny_pure (wpAny_pure ⟨rfl, rfl⟩))
 unfold eqBool
 try with_reducible refine wpAny_holding ?_
 change wpAny _ _ (if (Value.ref a == Value.ref b) = true then _ else _) Q E s
 by_cases e : a = b
 ·rw [if_pos (by rw [e]; exact beq_self_eq_true _)]
  rw [same e] at h
  exact wpAny_bind (wpAny_rule (wpAny_pure h))
 ·rw [if_neg fun z => e (Value.ref.inj (eq_of_beq z))]
  refine wpAny_bind (wpAny_richCompare_same_room (op := .Eq) x.ty y.ty F.slot_tuple_eq (wpAny_call_entry F.slot_tuple_eq x.ty F.entry_tuple_eq (wpAny_mono body ?k fun _ _ z => z) (F.args_tuple_eq_2 _ _)) hu)
  case k =>
   rintro fin s' ⟨e1, e2⟩
   subst e1 e2
   exact ⟨_, rfl, Value.noConfusion, wpAny_truthy_bool h⟩
theorem quiet_tup {m : Nat} {xs : Array Value} {o : Obj} {k : Nat} {Q : Bool → Shared → Prop} (ho : s.heap.get? a = some o) (hc : o.cls = .type "tuple") (hd : o.data = .seq xs k)
  (each : ∀ z ∈ xs.toList, ∀ Q' : Bool → Shared → Prop, Q' true s → wpAny (model P w) A (eqIsQuiet m z) Q' E s) (h : Q true s) : wpAny (model P w) A (eqIsQuiet (m + 1) (.ref a)) Q E s := by
 have ty : s.TypeIs (.ref a) "tuple" := ⟨o, ho, hc⟩
 unfold eqIsQuiet
 refine wpAny_bind (wpAny_specialOf ty F.slot_tuple_eq.lookup ?i)
 case i =>
  change wpAny _ _ (isInstance (.ref a) (.type "tuple") >>= _) _ _ s
  refine wpAny_bind (wpAny_isInstance ty isSubtype_tuple_tuple ?j)
  case j =>
   simp only [Bool.not_true, Bool.false_eq_true, if_false]
   refine wpAny_bind (wpAny_seqItems ho hd (wpAny_bind ?l))
   case l =>
    change wpAny _ _ (forIn xs _ _) _ _ s
    rw [← Array.forIn_toList]
    refine wpAny_forIn_list _ (fun rest r s' => (r.1 = none ∧ s' = s) ∧ ∀ z ∈ rest, z ∈ xs.toList) _ ?st ?en _ _ ⟨⟨rfl, rfl⟩, fun z hz => hz⟩
    case st =>
     rintro z rest r s' ⟨⟨hr, rfl⟩, sub⟩
     refine wpAny_bind (each z (sub z List.mem_cons_self) _ ?_)
     exact wpAny_pure ⟨⟨rfl, rfl⟩, fun y hy => sub y (List.mem_cons_of_mem _ hy)⟩
    case en =>
     rintro ⟨r1, r2⟩ s' ⟨⟨hr, rfl⟩, _⟩
     cases (show r1 = none from hr)
     exact wpAny_pure h
end
theorem IsNK.pr {h : Heap} {k : NK} {a : Addr} (x : IsNK P w h k a) : ∃ v b, IsPr h a v (.ref b) ∧ RelV (optI k.1) v ∧ (tupleKind (mixKind P w)).is h k.2 b := by
 obtain ⟨o, v, b, n, h1, h2, h3, h4, h5⟩ := x
 exact ⟨v, b, ⟨o, n, h1, h2, h3⟩, h4, h5⟩
theorem IsPr.uniq {h : Heap} {a : Addr} {v u v' u' : Value} (x : IsPr h a v u) (y : IsPr h a v' u') : v = v' ∧ u = u' := by
 obtain ⟨o, n, h1, _, h2⟩ := x
 obtain ⟨o', n', k1, _, k2⟩ := y
 have e : o = o' := Option.some.inj (h1 ▸ k1)
 rw [e, k2] at h2
 have z := congrArg Array.toList (Data.seq.inj h2).1
 simp only [List.cons.injEq, and_true] at z
 exact ⟨z.1.symm, z.2.symm⟩
theorem IsNK.inj {h : Heap} {a : Addr} {x y : NK} (hx : IsNK P w h x a) (hy : IsNK P w h y a) : x = y := by
 obtain ⟨v, b, p, r, q⟩ := hx.pr
 obtain ⟨v', b', p', r', q'⟩ := hy.pr
 obtain ⟨e1, e2⟩ := p.uniq p'
 subst e1
 cases e2
 exact Prod.ext (optI_inj r r') ((tupleKind (mixKind P w)).inj q q')
theorem IsNK.keeps {h h' : Heap} {k : NK} {a d : Addr} {o : Obj} {es ep} (x : IsNK P w h k a) (ho : h.get? d = some o) (hd : o.data = .dict es ep) (hs : Heap.SameBut d h h') : IsNK P w h' k a := by
 obtain ⟨o', v, b, n, h1, h2, h3, h4, h5⟩ := x
 refine ⟨o', v, b, n, (hs.2 a fun e => ?_).trans h1, h2, h3, h4, (tupleKind (mixKind P w)).keeps h5 ho hd hs⟩
 rw [e, ho] at h1
 cases h1
 exact absurd (hd.symm.trans h3) (fun z => nomatch z)
section
variable {A : Around} {E : Value → Shared → Prop} {s : Shared} {a b : Addr}
theorem oi_hash {o : Option Int} {v : Value} {Q : Int → Shared → Prop} (r : RelV (optI o) v) (h : Q (hashOI o) { s with toks := s.toks + 1 }) : wpAny (model P w) A (pyHash v) Q E s := by
 cases o with
 | some i =>
  obtain ⟨t, rfl⟩ := r
  exact wpAny_pyHash_int h
 | none =>
  cases r
  have ty : s.TypeIs Value.none "NoneType" := rfl
  have look := fun {Q' : Option Value → Shared → Prop} (z : Q' (some (.builtin "NoneType.__hash__")) s) => wpAny_specialOf (M := model P w) (A := A) (E := E) ty PySem.F.slot_NoneType_hash.lookup z
  have body : wpAny (model P w) A.in1 (Builtin.«NoneType.__hash__» ⟨[.none], []⟩) (fun fin s' => ∃ u, fin = .done (.ret u) ∧ ∃ t, u = .int 0xFCA86420 t ∧ s' = { s with toks := s.toks + 1 }) E s := by
   change wpAny _ _ (retInt 0xFCA86420) _ _ _
   exact wpAny_ret_mkInt ⟨_, rfl, rfl⟩
  unfold pyHash
  refine wpAny_bind ?_
  rw [cRoomFor, if_neg (show ¬ [Value.none].any Value.onHeap = true from Bool.false_ne_true)]
  refine wpAny_pure (wpAny_bind (look ?_))
  rw [if_neg (show ¬ (some (Value.builtin "NoneType.__hash__") == some Value.none) = true by rw [beq_builtin_none]; exact Bool.false_ne_true)]
  refine wpAny_bind (look (wpAny_bind (wpAny_callSpecialIfBoundUnlessNone?_slot ty PySem.F.slot_NoneType_hash (wpAny_call_entry PySem.F.slot_NoneType_hash ty PySem.F.entry_NoneType_hash (wpAny_mono body ?k fun _ _ z => z) (PySem.F.args_NoneType_hash_1 _)))))
  case k =>
   rintro fin s' ⟨u, e1, t, e2, e3⟩
   subst e1 e2 e3
   refine ⟨_, rfl, ?_⟩
   change wpAny _ _ (if (decide (-(2 : Int) ^ 63 ≤ 0xFCA86420) && decide ((0xFCA86420 : Int) < 2 ^ 63)) = true then _ else _) Q E _
   rw [if_pos (by decide)]
   exact wpAny_pure h
theorem nk_hash {k : NK} {Q : Int → Shared → Prop} (hu : A.units + 1 < cLine) (hk : IsNK P w s.heap k a) (h : Q (nkHash w k) { s with toks := s.toks + (k.2.length + 3) }) : wpAny (model P w) A (pyHash (.ref a)) Q E s := by
 obtain ⟨v, b, p, r, q⟩ := hk.pr
 have e : s.toks + 1 + (k.2.length + 1) + 1 = s.toks + (k.2.length + 3) := by omega
 exact hash_pair (x := hashOI k.1) (y := reduceHash (Builtin.Tuple.tupleHashOf (k.2.map (keyH w)))) (k1 := 1) (k2 := k.2.length + 1) (by omega) p (fun Q' z => oi_hash r z)
  (fun Q' z => (tupleKind (mixKind P w)).pyHash (k := k.2) (s := { s with toks := s.toks + 1 }) hu q z) (by rw [e]; exact h)
theorem nk_eqBool {x y : NK} {Q : Bool → Shared → Prop} (hu : A.units + 1 < cLine) (hx : IsNK P w s.heap x a) (hy : IsNK P w s.heap y b) (h : Q (decide (x = y)) s) : wpAny (model P w) A (eqBool (.ref a) (.ref b)) Q E s := by
 obtain ⟨v, c, p, r, q⟩ := hx.pr
 obtain ⟨v', c', p', r', q'⟩ := hy.pr
 have e : (decide (x.1 = y.1) && decide (x.2 = y.2)) = decide (x = y) := by
  rw [← Bool.decide_and]
  exact decide_eq_decide.mpr ⟨fun z => Prod.ext z.1 z.2, fun z => by rw [z]; exact ⟨rfl, rfl⟩⟩
 refine eq_pair (p := decide (x.1 = y.1)) (q := decide (x.2 = y.2)) (by omega) p p' (fun z => ?_) (fun Q' z => eqAt_V r r' (optI_flat _) (optI_flat _) P w _ _ (by rw [optI_eq]; exact z)) (fun Q' z => (tupleKind (mixKind P w)).eqBool (x := x.2) (y := y.2) hu q q' z) (by rw [e]; exact h)
 subst z
 rw [e]
 exact decide_eq_true (hx.inj hy)
theorem nk_quiet {k : NK} {Q : Bool → Shared → Prop} (hk : IsNK P w s.heap k a) (h : Q true s) : wpAny (model P w) A (eqIsQuiet 8 (.ref a)) Q E s := by
 obtain ⟨v, b, ⟨o, n, h1, h2, h3⟩, r, o', xs, m, k1, k2, k3, k4⟩ := hk.pr
 refine quiet_tup (m := 7) h1 h2 h3 (fun z hz Q' q => ?_) h
 have hz' : z = v ∨ z = .ref b := by simpa using hz
 rcases hz' with rfl | rfl
 ·have bv : carriedByValue z = true := by
   cases hk1 : k.1 with
   | none => rw [hk1] at r; cases r; rfl
   | some i => rw [hk1] at r; obtain ⟨t, rfl⟩ := r; rfl
  rw [eqIsQuiet_byValue _ bv]; exact wpAny_pure q
 ·exact quiet_tup (m := 6) k1 k2 k3 (fun y hy Q'' q2 => by rw [eqIsQuiet_byValue _ (k4.byValue y hy)]; exact wpAny_pure q2) q
end
end
def nestKind (P : Program) (w : World) : HeapKind P w NK where
 is := IsNK P w
 hash := nkHash w
 draws := fun k => k.2.length + 3
 room := fun A => A.units + 1 < cLine
 inj := fun hx hy => hx.inj hy
 keeps := fun x ho hd hs => x.keeps ho hd hs
 pyHash := fun hu hk h => nk_hash hu hk h
 eqBool := fun hu hx hy h => nk_eqBool hu hx hy h
 quiet := fun hk h => nk_quiet hk h
end L2
namespace L2
open PySem PySem.Spec PyProof.Rows
def NDφ (P : Program) (w : World) (a : Addr) (xs : List (NK × Addr × Value)) : Heap → Prop := fun h =>
 ∃ o es ep, h.get? a = some o ∧ o.ExactDict ∧ o.data = .dict es ep ∧ es.toList = xs.map (entryOfKey (nestKind P w)) ∧ (xs.map (·.1)).Nodup
def NKat (H : Hp) (k : NK) (b : Addr) : Prop := ∃ c, H b = some (.tup [optI k.1, .ref c]) ∧ H c = some (.tup (k.2.map kV))
theorem NKat.tups {H H' : Hp} {k : NK} {b : Addr} (h : NKat H k b) (ht : ∀ b ys, H b = some (.tup ys) → H' b = some (.tup ys)) : NKat H' k b := let ⟨c, h1, h2⟩ := h; ⟨c, ht _ _ h1, ht _ _ h2⟩
abbrev KN (H : Hp) : List (NK × V) → List (NK × Addr × Value) → Prop := Paired fun p q => p.1 = q.1 ∧ NKat H p.1 q.2.1 ∧ RelV p.2 q.2.2
def NDict (P : Program) (w : World) (H : Hp) (a : Addr) (kvs : List (NK × V)) : Prop := ∃ xs, H a = some (.ext (NDφ P w a xs)) ∧ KN H kvs xs ∧ kvs.length ≤ sizeLine ∧ (a == sysModules) = false
theorem KN.val {H : Hp} {kvs : List (NK × V)} {xs : List (NK × Addr × Value)} (r : KN H kvs xs) (k : NK) : RelO (valV kvs k) ((atKey xs k).map (·.2)) := by
 induction r with
 | nil => exact True.intro
 | @cons p q ps qs h t ih =>
  obtain ⟨h1, _, h2⟩ := h
  by_cases e : p.1 = k
  ·have e' : q.1 = k := h1.symm.trans e
   have b : atKey (q :: qs) k = some q.2 := by simp [atKey, List.find?_cons, e']
   rw [valV_pos e, b]; exact h2
  ·have e' : ¬ q.1 = k := fun z => e (h1.trans z)
   have b : atKey (q :: qs) k = atKey qs k := by simp [atKey, List.find?_cons, e']
   rw [valV_neg e, b]; exact ih
theorem KN.repl {H : Hp} {kvs : List (NK × V)} {xs : List (NK × Addr × Value)} (r : KN H kvs xs) (k : NK) {y : V} {u : Value} (ry : RelV y u) :
  KN H (kvs.map fun kv => if kv.1 = k then (kv.1, y) else kv) (xs.map (putAt k u)) := by
 induction r with
 | nil => exact .nil
 | @cons p q ps qs h t ih =>
  rw [List.map_cons, List.map_cons]
  refine .cons ?_ ih
  obtain ⟨h1, h2, h3⟩ := h
  unfold putAt
  by_cases e : p.1 = k
  ·rw [if_pos e, if_pos (h1.symm.trans e)]; exact ⟨h1, h2, ry⟩
  ·rw [if_neg e, if_neg (fun z => e (h1.trans z))]; exact ⟨h1, h2, h3⟩
theorem KN.put {H : Hp} {kvs : List (NK × V)} {xs : List (NK × Addr × Value)} (r : KN H kvs xs) (k : NK) {b : Addr} {y : V} {u : Value} (hb : NKat H k b) (ry : RelV y u) :
  KN H (putK kvs k y) (storedH xs k b u) := by
 have e : (kvs.any fun kv => decide (kv.1 = k)) = (atKey xs k).isSome := by
  rw [valV_any, (r.val k).isSome_eq, Option.isSome_map]
 unfold putK storedH
 rw [e]
 by_cases q : (atKey xs k).isSome = true
 ·rw [if_pos q, if_pos q]; exact r.repl k ry
 ·rw [if_neg q, if_neg q]; exact Paired.snoc r ⟨rfl, hb, ry⟩
theorem KN.keeps {H H' : Hp} {kvs : List (NK × V)} {xs : List (NK × Addr × Value)} (r : KN H kvs xs) (ht : ∀ b ys, H b = some (.tup ys) → H' b = some (.tup ys)) : KN H' kvs xs :=
 Paired.mapP r fun _ _ z => ⟨z.1, z.2.1.tups ht, z.2.2⟩
theorem NDict.stay {P : Program} {w : World} {H H' : Hp} {a : Addr} {kvs : List (NK × V)} (d : NDict P w H a kvs) (ha : H' a = H a) (ht : ∀ b ys, H b = some (.tup ys) → H' b = some (.tup ys)) : NDict P w H' a kvs :=
 let ⟨xs, e, r, z, y⟩ := d; ⟨xs, ha.trans e, r.keeps ht, z, y⟩
theorem NDict.same {P : Program} {w : World} {H H' : Hp} {a : Addr} {kvs : List (NK × V)} (d : NDict P w H a kvs) (g : ∀ b o, H b = some o → H' b = some o) : NDict P w H' a kvs :=
 let ⟨xs, e, r, z, y⟩ := d; ⟨xs, g _ _ e, r.keeps fun b ys h => g _ _ h, z, y⟩
section
variable {P : Program} {w : World} {H : Hp} {h : Heap} {a : Addr}
theorem NKat.is {k : NK} {b : Addr} (ok : HOk P w H h) (e : NKat H k b) : (nestKind P w).is h k b := by
 obtain ⟨c, e1, e2⟩ := e
 obtain ⟨_, its, r, o, h1, h2, n, h3⟩ := (show ObjOk P w H h b (.tup [optI k.1, .ref c]) from ok b _ e1)
 obtain ⟨u, v, rfl, ru, rv⟩ := vals2 r
 cases (show v = Value.ref c from rv)
 exact ⟨o, _, c, n, h1, h2, h3, ru, key_of ok e2⟩
theorem NDict.dict {kvs : List (NK × V)} (ok : HOk P w H h) (d : NDict P w H a kvs) : ∃ xs, KN H kvs xs ∧ h.DictOfH (nestKind P w) a xs := by
 obtain ⟨xs, e, r, _, _⟩ := d
 obtain ⟨⟨o, es, ep, h1, h2, h3, h4, h5⟩, _⟩ := (show ObjOk P w H h a (.ext (NDφ P w a xs)) from ok a _ e)
 refine ⟨xs, r, o, es, ep, h1, h2, h3, h4, fun x hx => ?_, h5⟩
 have all : ∀ {l : List (NK × V)} {m : List (NK × Addr × Value)}, KN H l m → ∀ x ∈ m, (nestKind P w).is h x.1 x.2.1 := by
  intro l m q
  induction q with
  | nil => intro x hx; exact nomatch hx
  | @cons p q ps qs hq t ih =>
   intro x hx
   rcases List.mem_cons.mp hx with e | hx
   ·subst e
    exact NKat.is ok (by rw [← hq.1]; exact hq.2.1)
   ·exact ih x hx
 exact all r x hx
theorem ndφ_stay {xs : List (NK × Addr × Value)} : ∀ h1 h2 : Heap, NDφ P w a xs h1 → (∀ o, h1.get? a = some o → h2.get? a = some o) → NDφ P w a xs h2 :=
 fun _ _ ⟨o, es, ep, e, r⟩ k => ⟨o, es, ep, k _ e, r⟩
end
def tNGet (P : Program) (w : World) (td ty : TE) : TE := fun σ H Q => td σ H fun x H1 => ty σ H1 fun y H2 => ∃ a kvs b k v, x = .ref a ∧ NDict P w H2 a kvs ∧ y = .ref b ∧ NKat H2 k b ∧ valV kvs k = some v ∧ Q v H2
def tNNotIn (P : Program) (w : World) (ty td : TE) : TE := fun σ H Q => ty σ H fun y H1 => td σ H1 fun x H2 => ∃ a kvs b k, x = .ref a ∧ NDict P w H2 a kvs ∧ y = .ref b ∧ NKat H2 k b ∧ Q (.bl (!(valV kvs k).isSome)) H2
def sNPut (P : Program) (w : World) (td ty tv : TE) : TS := fun D σ H => tv σ H fun v H1 => td σ H1 fun x H2 => ty σ H2 fun y H3 => ∃ a kvs b k, x = .ref a ∧ NDict P w H3 a kvs ∧ y = .ref b ∧ NKat H3 k b ∧ kvs.length < sizeLine ∧
 ∀ H4, (∀ c, c ≠ a → H4 c = H3 c) → NDict P w H4 a (putK kvs k v) → D.nx σ H4
def tNNew (P : Program) (w : World) : TE := fun _ H Q => ∀ p H', H p = none → (∀ b o, H b = some o → H' b = some o) → NDict P w H' p [] → Q (.ref p) H'
section
variable {X : Cx} {o i e value : Expr} {pos pos' tpos : Pos} {td ty tv : TE}
theorem pe_nget (hu : X.A.units + 2 < cLine) (ho : PE X o td) (hi : PE X i ty) (hs : NoSl i) : PE X (.Subscript o i pos) (tNGet X.prog X.w td ty) := by
 intro pins s σ H Q I h
 refine subD_of PySem.F.slot_dict_getitem.lookup hs (thn (ho pins s σ H _ I h) fun u s1 ⟨x, H1, I1, rx, q1⟩ => thn (hi pins s1 σ H1 _ I1 q1) fun iv s2 ⟨y, H2, I2, ry, a, kvs, b, k, v, ex, d, ey, hk, hv, q2⟩ => ?_)
 subst ex ey
 obtain rfl : u = Value.ref a := rx
 obtain rfl : iv = Value.ref b := ry
 obtain ⟨xs, rel, dd⟩ := d.dict I2.hok
 obtain ⟨w', hw, rw'⟩ := RelO.some_of (v := v) (o := (atKey xs k).map (·.2)) (by rw [← hv]; exact rel.val k)
 obtain ⟨p, hp, hp2⟩ := Option.map_eq_some_iff.mp hw
 refine ⟨dd.typeIs, wpAny_getItem_heap (knd := nestKind X.prog X.w) hu (hk.is I2.hok) dd hp ?_⟩
 rw [hp2]
 exact ⟨v, H2, I2.tok _, rw', q2⟩
theorem pc_nnotin (hu : X.A.units + 2 < cLine) (hi : PE X i ty) (ho : PE X o td) : PC X .NotIn i o (tNNotIn X.prog X.w ty td) := by
 intro pins s σ H Q I h
 refine thn (hi pins s σ H _ I h) fun iv s1 ⟨y, H1, I1, ry, q1⟩ => thn (ho pins s1 σ H1 _ I1 q1) fun u s2 ⟨x, H2, I2, rx, a, kvs, b, k, ex, d, ey, hk, q2⟩ => ?_
 subst ex ey
 obtain rfl : u = Value.ref a := rx
 obtain rfl : iv = Value.ref b := ry
 have hd : (a == sysModules) = false := let ⟨_, _, _, _, z⟩ := d; z
 obtain ⟨xs, rel, dd⟩ := d.dict I2.hok
 refine wpAny_notIn_heap (knd := nestKind X.prog X.w) hu (hk.is I2.hok) hd dd ?_
 have q := (rel.val k).isSome_eq
 rw [Option.isSome_map] at q
 rw [← q]
 exact ⟨.bl (!(valV kvs k).isSome), H2, I2.tok _, rfl, q2⟩
theorem ps_nput (hu : X.A.units + 2 < cLine) (ho : PE X o td) (hi : PE X i ty) (hv : PE X value tv) (hs : swapsWith value (some (.Subscript o i pos')) pos.line X.env = pure false) :
  PS X (.Assign [.Subscript o i pos'] value pos) (sNPut X.prog X.w td ty tv) := by
 intro pins s σ H D I h
 refine wpAny_Assign_Subscript (thn (hv pins s σ H _ I h) fun r s1 ⟨v, H1, I1, rv, q1⟩ => thn (ho pins s1 σ H1 _ I1 q1) fun u s2 ⟨x, H2, I2, rx, q2⟩ => thn (hi pins s2 σ H2 _ I2 q2) fun iv s3 ⟨y, H3, I3, ry, a, kvs, b, k, ex, d, ey, hk, hl, q3⟩ => ?_) hs
 subst ex ey
 obtain rfl : u = Value.ref a := rx
 obtain rfl : iv = Value.ref b := ry
 obtain ⟨xs, ea, rel, z, hd⟩ := id d
 obtain ⟨xs', rel', dd⟩ := d.dict I3.hok
 have hz : xs'.length ≤ sizeLine := by rw [← Paired.length rel']; exact z
 refine wpAny_setItem_heap (knd := nestKind X.prog X.w) (hsz := hz) hu (hk.is I3.hok) dd fun h' dd' hs' => ?_
 obtain ⟨q, es, ep, hq, h2, h3, h4, _, h5⟩ := dd'
 have ht : ∀ c ys, H3 c = some (.tup ys) → upd H3 a (.ext (NDφ X.prog X.w a (storedH xs' k b r))) c = some (.tup ys) := fun c ys ec => by
  rw [upd_ne (ne_of ec ea (fun z => nomatch z))]; exact ec
 refine ⟨σ, _, d_write (ob := .ext (NDφ X.prog X.w a (storedH xs' k b r))) I3 (by rw [ea]; exact True.intro) hs' ⟨q, hq⟩ ⟨⟨q, es, ep, hq, h2, h3, h4, h5⟩, ⟨q, hq⟩, ndφ_stay⟩, ?_⟩
 refine q3 _ (fun c hc => upd_ne hc) ⟨storedH xs' k b r, upd_same, (rel'.put k hk rv).keeps ht, ?_, hd⟩
 have := length_putK kvs k v
 omega
theorem pe_nnew : PE X (.Dict [] [] pos) (tNNew X.prog X.w) := fun pins s σ H Q I h => by
 have hbig := I.big
 have hne : (s.heap.objs.size == sysModules) = false := beq_eq_false_iff_ne.mpr (Nat.ne_of_gt hbig)
 have new : NDφ X.prog X.w s.heap.objs.size [] (s.heap.push { cls := .type "dict", data := .dict #[] }) := ⟨_, #[], 0, Heap.get?_push_size _ rfl, ⟨rfl, rfl, rfl⟩, rfl, rfl, List.nodup_nil⟩
 have fr := I.hok.fresh (Nat.le_refl s.heap.objs.size)
 refine wpAny_Dict_empty ⟨.ref s.heap.objs.size, _, I.laid (a := s.heap.objs.size) (o := .ext (NDφ X.prog X.w s.heap.objs.size [])) (t' := s.toks) (fun _ _ q => Heap.get?_push_of_some _ q) (Nat.le_refl _) ⟨new, ⟨_, Heap.get?_push_size _ rfl⟩, ndφ_stay⟩, rfl, ?_⟩
 exact h _ _ fr (fun b o hb => by rw [upd_ne (ne_of_none hb fr)]; exact hb) ⟨[], upd_same, .nil, Nat.zero_le _, hne⟩
end
end L2
namespace L2
open PySem PySem.Spec PyProof.Rows
theorem for_enum {a : Addr} {xs : List V} {g : TG} {tb : TS} {D : Ends} {σ : St} {H : Hp} (Pv : Nat → St → Hp → Prop) (h0 : Pv 0 σ H) (hl : ∀ i σ H, i ≤ xs.length → Pv i σ H → H a = some (.lst xs))
  (hs : ∀ i x σ H T, xs[i]? = some x → Pv i σ H → H T = none → g (.ref T) σ (upd H T (.tup [.int (i : Int), x])) fun σ2 H2 => tb { D with nx := Pv (i + 1), ct := Pv (i + 1), bk := D.nx } σ2 H2) (hd : ∀ σ H, Pv xs.length σ H → D.nx σ H) :
  ∃ W : Nat → Nat → St → Hp → Prop, (∃ m, W 0 m σ H) ∧ ∀ i m σ H, W i m σ H →
   ((Ite a).stop i H ∧ D.nx σ H) ∨ ((Ite a).go i H ∧ ∃ N : St → Hp → Prop, (∀ σ' H', N σ' H' → ∃ m', m' < m ∧ W (i + 1) m' σ' H') ∧ ∀ x H', (Ite a).yld i H x H' → g x σ H' fun σ2 H2 => tb { D with nx := N, ct := N, bk := D.nx } σ2 H2) := by
 refine ⟨fun i m σ H => m = xs.length - i ∧ i ≤ xs.length ∧ Pv i σ H, ⟨xs.length, by simp, Nat.zero_le _, h0⟩, ?_⟩
 rintro i m σ H ⟨rfl, hi, p⟩
 have q := hl i σ H hi p
 by_cases hlt : i < xs.length
 ·refine .inr ⟨⟨xs, xs[i], q, List.getElem?_eq_getElem hlt⟩, Pv (i + 1), fun σ' H' p' => ⟨xs.length - (i + 1), by omega, rfl, hlt, p'⟩, fun x H' y => ?_⟩
  obtain ⟨T, ys, u, hT, hy, hu, rfl, rfl⟩ := y
  rw [q] at hy
  cases hy
  exact hs i u σ H T hu p hT
 ·have e : i = xs.length := by omega
  subst e
  exact .inl ⟨⟨xs, q, Nat.le_refl _⟩, hd σ H p⟩
end L2
namespace L2
open PySem PySem.Spec PyProof.Rows
theorem meets_enumT (l : Addr) (xs : Array Value) (n : Nat) (dc : Option Addr) (sl : Array (Option Value)) :
  Meets (Builtin.«enumerate.__new__» ⟨[.type "enumerate", .ref l], []⟩) (fun _ R s => (s.heap.get? l = some { cls := .type "tuple", dict := dc, data := .seq xs n, slots := sl }) ∧
   ∀ h1, h1 = s.heap.push { cls := .type "tuple_iterator", data := .fields #[.ref l, .int 0 0] } → R (.ok (.ret (.ref h1.objs.size))) { s with heap := h1.push { cls := .type "enumerate", data := .fields #[.none, .bool false, .ref s.heap.objs.size, rawInt 0, .none, .none] } }) := by
 refine .of_wp fun prog w A R s h => ?_
 rcases s with ⟨hp, g, d, tk, os⟩
 rcases h with ⟨hl, h⟩
 have hi := @wpAny_pyIter_tuple prog w
 have hsb := sub_enumerate
 have tl : Heap.IsTuple (Shared.heap ⟨hp, g, d, tk, os⟩) l xs := ⟨_, hl, rfl, n, rfl⟩
 have fin := h _ rfl
 (wp_walk using AutoSeq1.wpAny_loadPart' hl)
 apply wpAny_stack_any; intro st; apply wpAny_pure
 split
 case h_1 => rename_i c _ _ _ _ _; cases (c == Value.type "enumerate") <;> ((wp_walk using AutoSeq1.wpAny_loadPart' hl, wpAny_pyIter_tuple tl); exact ⟨_, rfl, fin⟩)
 all_goals ((wp_walk using AutoSeq1.wpAny_loadPart' hl, wpAny_pyIter_tuple tl); exact ⟨_, rfl, fin⟩)
section
variable {prog : Program} {w : World} {A : Around} {E : Value → Shared → Prop} {s : Shared}
theorem call_enumerateT {l : Addr} {xs : Array Value} {Q : Value → Shared → Prop} (hL : s.heap.IsTuple l xs)
  (h : ∀ h', IsEnum h' (s.heap.objs.size + 1) s.heap.objs.size 0 .none → h'.IsTupleIter s.heap.objs.size l 0 → h'.objs.size = s.heap.objs.size + 2 → (∀ b o, s.heap.get? b = some o → h'.get? b = some o) → Q (.ref (s.heap.objs.size + 1)) { s with heap := h' }) :
  wpAny (model prog w) A (call (.type "enumerate") [.ref l]) Q E s := by
 rcases hL with ⟨⟨c, dc, dt, sl⟩, hl, (rfl : c = _), n, (rfl : dt = _)⟩
 refine callType_new F.called_enumerate (by decide) (F.typeCall_enumerate_1 _) (F.newCall_enumerate_1 _) (fun x => F.args_object_init_2 x _) F.entry_enumerate_new (meets_enumT l xs n dc sl) ⟨hl, fun h1 e1 => ?_⟩
 have z1 : h1.objs.size = s.heap.objs.size + 1 := by rw [e1, Heap.size_push]
 have k1 : ∀ b o, s.heap.get? b = some o → h1.get? b = some o := fun b o e => by rw [e1]; exact Heap.get?_push_of_some _ e
 have i1 : h1.IsTupleIter s.heap.objs.size l 0 := ⟨_, by rw [e1]; exact Heap.get?_push_size _ rfl, rfl, rfl⟩
 have en := Heap.get?_push_size h1 (o := { cls := .type "enumerate", data := .fields #[.none, .bool false, .ref s.heap.objs.size, rawInt 0, .none, .none] }) rfl
 rw [z1] at en
 show _ ∧ _
 rw [z1]
 exact ⟨⟨_, en, rfl⟩, h _ en (let ⟨o, a, b⟩ := i1; ⟨o, Heap.get?_push_of_some _ a, b⟩) (by rw [Heap.size_push, z1]) fun b o e => Heap.get?_push_of_some _ (k1 b o e)⟩
theorem step_tup {it t : Addr} {i : Nat} {xs : Array Value} {Q : PySem.Fin → Shared → Prop} (hit : s.heap.IsTupleIter it t i) (ht : s.heap.IsTuple t xs)
  (one : ∀ x h', xs[i]? = some x → h'.IsTupleIter it t (i + 1) → Heap.SameBut it s.heap h' → Q (.done (.ret x)) { s with heap := h' })
  (out : xs[i]? = none → A.handled = none ∧ ∀ h' e, Heap.ExtBut it s.heap h' → (∃ o, h'.get? e = some o ∧ o.cls = .type "StopIteration") → E (.ref e) { s with heap := h' }) :
  wpAny (model prog w) A (Builtin.«tuple_iterator.__next__» ⟨[.ref it], []⟩) Q E s := by
 rcases id hit with ⟨o, ho, hc, hd⟩
 rcases ht with ⟨u, hu, _, m, hm⟩
 have f0 : ∀ {Q' : Value → Shared → Prop}, Q' (.ref t) s → wpAny (model prog w) A (field (.ref it) 0) Q' E s := fun z => wpAny_field ho hd rfl z
 have f1 : ∀ {Q' : Value → Shared → Prop}, Q' (.int i 0) s → wpAny (model prog w) A (field (.ref it) 1) Q' E s := fun z => wpAny_field ho hd rfl z
 have its : ∀ {Q' : Option (Array Value) → Shared → Prop}, Q' (some xs) s → wpAny (model prog w) A (seqItems? (.ref t)) Q' E s := fun z => wpAny_seqItems hu hm z
 change wpAny _ _ (field (.ref it) 0 >>= _) _ _ s
 refine wpAny_bind (f0 ?a)
 case a =>
  change wpAny _ _ (field (.ref it) 1 >>= _) _ _ s
  refine wpAny_bind (f1 ?_)
  change wpAny _ _ (seqItems? (.ref t) >>= _) _ _ s
  refine wpAny_bind (its ?_)
  cases hx : xs[i]? with
  | some x =>
   simp only [Int.toNat_natCast, hx]
   refine wpAny_bind (wpAny_setField ho hd (by simp) (wpAny_pure (one x _ hx ⟨_, Heap.get?_update_self _ ho (Obj.isFreed_of_fields (Obj.data_mapFields hd _)), (Obj.cls_mapFields ..).trans hc, ?_⟩ (Heap.SameBut.update ..))))
   rw [Obj.data_mapFields hd]
   simp [rawInt]
  | none =>
   obtain ⟨hh, hE⟩ := out hx
   simp only [Int.toNat_natCast, hx]
   refine wpAny_bind (wpAny_rule (wpAny_bind (wpAny_setField ho hd (by simp) ?e)))
   change wpAny _ _ (newExc (.type "StopIteration") [] >>= _) _ _ _
   apply wpAny_bind
   unfold newExc newTuple
   refine wpAny_bind (wpAny_newObj_type ?n (by size_fits))
   case n =>
    refine wpAny_bind (m := firstArgMember _ _) (wpAny_of_eq (a := Value.none) ?fa (wpAny_newObj_type ?ga (by size_fits)))
    case fa => first | rfl | (unfold firstArgMember; rfl)
    case ga => exact wpAny_raiseNew_none hh (hE _ _ (((Heap.SameBut.update ..).extBut.push _).push _) ⟨_, Heap.get?_push_size _ rfl, rfl⟩)
theorem nextOf_tup {it t : Addr} {i : Nat} {xs : Array Value} {Q : Value → Shared → Prop} (hit : s.heap.IsTupleIter it t i) (ht : s.heap.IsTuple t xs)
  (one : ∀ x h', xs[i]? = some x → h'.IsTupleIter it t (i + 1) → Heap.SameBut it s.heap h' → Q x { s with heap := h' })
  (out : xs[i]? = none → A.handled = none ∧ ∀ h' e, Heap.ExtBut it s.heap h' → (∃ o, h'.get? e = some o ∧ o.cls = .type "StopIteration") → E (.ref e) { s with heap := h' }) :
  wpAny (model prog w) A (Builtin.SmallTypes.nextOf (.ref it)) Q E s := by
 have ty := hit.typeIs
 have call1 := wpAny_call_entry (prog := prog) (w := w) (A := A) (E := E) (rest := []) F.slot_tuple_iterator_next ty F.entry_tuple_iterator_next (Q := fun v s' => wpAny (model prog w) A (pure v) Q E s')
  (step_tup hit ht (fun x h' a b c => ⟨x, rfl, wpAny_pure (one x h' a b c)⟩) out) (F.args_tuple_iterator_next_1 _)
 unfold Builtin.SmallTypes.nextOf
 exact wpAny_bind (wpAny_callSpecial?_slot (name := Str.ofString "__next__") ty F.slot_tuple_iterator_next call1)
end
theorem tupIter_at {h h' : Heap} {a t : Addr} {i : Nat} (x : h.IsTupleIter a t i) (k : ∀ o, h.get? a = some o → h'.get? a = some o) : h'.IsTupleIter a t i := let ⟨o, ho, r⟩ := x; ⟨o, k o ho, r⟩
theorem tup_at {h h' : Heap} {a : Addr} {items : Array Value} (x : h.IsTuple a items) (k : ∀ o, h.get? a = some o → h'.get? a = some o) : h'.IsTuple a items := let ⟨o, ho, r⟩ := x; ⟨o, k o ho, r⟩
theorem drawsT {prog : Program} {w : World} {A : Around} (hh : A.handled = none) (it l : Addr) (hne : l ≠ it) (items : Array Value) :
  Draws prog w A it [it, l] items.size (fun i v => items[i]? = some v) (fun i h => h.IsTupleIter it l i ∧ h.IsTuple l items) where
 live := fun _ _ st => st.1.elim fun o z => ⟨o, z.1⟩
 frame := fun _ _ _ st hk => ⟨tupIter_at st.1 fun o e => hk it (by simp) o e, tup_at st.2 fun o e => hk l (by simp) o e⟩
 item := fun i s Q E hi st hQ => by
  exact nextOf_tup st.1 st.2 (fun x h' hx a b => hQ x h' s.toks hx ⟨a, st.2.extBut b.extBut hne⟩ b) fun z => absurd z (by simp [hi])
 done := fun s Q E st hE => nextOf_tup st.1 st.2 (fun x h' z => absurd z (by simp)) fun _ => ⟨hh, hE⟩
def Itet (a : Addr) : It :=
 ⟨fun i H => ∃ xs x, H a = some (.tup xs) ∧ xs[i]? = some x, fun i H x H' => ∃ T xs y, H T = none ∧ H a = some (.tup xs) ∧ xs[i]? = some y ∧ x = .ref T ∧ H' = upd H T (.tup [.int i, y]), fun i H => ∃ xs, H a = some (.tup xs) ∧ xs.length ≤ i⟩
theorem pyNext_enumT_end {prog : Program} {w : World} {A : Around} {E : Value → Shared → Prop} {s : Shared} {e it l : Addr} {i : Nat} {xs : Array Value} {old : Value} {Q : Option Value → Shared → Prop} (hh : A.handled = none)
  (he : IsEnum s.heap e it i old) (hit : s.heap.IsTupleIter it l i) (hl : s.heap.IsTuple l xs) (hx : xs[i]? = none) (hQ : ∀ h', Heap.ExtBut it s.heap h' → Q none { s with heap := h' }) :
  wpAny (model prog w) A (pyNext (.ref e)) Q E s := by
 have ty : s.TypeIs (.ref e) "enumerate" := ⟨_, he, rfl⟩
 have stop := fun (h' : Heap) (x : Addr) (k : Heap.ExtBut it s.heap h') (hx' : ∃ o, h'.get? x = some o ∧ o.cls = .type "StopIteration") => wpAny_isInstance (M := model prog w) (A := A) (E := E) (s := { s with heap := h' }) (T := "StopIteration") (b := true) (show Shared.TypeIs { s with heap := h' } (.ref x) "StopIteration" from hx') isSubtype_stop (Q := fun b s' => b = true ∧ s' = { s with heap := h' }) ⟨rfl, rfl⟩
 unfold pyNext
 refine wpAny_bind (wpAny_attempt (wpAny_callSpecial?_slot (name := Str.ofString "__next__") ty F.slot_enumerate_next (wpAny_call_entry F.slot_enumerate_next ty F.entry_enumerate_next ?c (F.args_enumerate_next_1 _))))
 case c =>
  change wpAny _ _ (field (.ref e) 2 >>= _) _ _ _
  refine wpAny_bind (wpAny_field he rfl (x := .ref it) rfl (wpAny_bind (nextOf_tup hit hl (fun x h' z => absurd (hx.symm.trans z) (by simp)) fun _ => ⟨hh, fun h' x k hx' => ?_⟩)))
  exact wpAny_bind (wpAny_mono (stop h' x k hx') (fun b s' ⟨eb, es⟩ => by subst eb es; exact wpAny_pure (hQ _ k)) fun _ _ z => z)
theorem Inv.tupM {X : Cx} {pins : List (Addr × Obj)} {σ : St} {H : Hp} {s : Shared} {a : Addr} {xs : List V} (I : Inv X pins σ H s) (h : H a = some (.tup xs)) : ∃ its : List Value, Vals xs its ∧ s.heap.IsTuple a its.toArray := by
 obtain ⟨_, its, r, t⟩ := (show ObjOk X.prog X.w H s.heap a (.tup xs) from I.hok a _ h)
 exact ⟨its, r, t⟩
theorem turn_enumT {P : Program} {w : World} {K : PySem.W.Frag} {es : List Expr} {k : Nat} {pos : Pos} (a e it : Addr) (hei : e ≠ it) :
  Turn P w K (.Tuple es k pos) (Itet a) [e, it] e (fun i h => (∃ old, IsEnum h e it ((i : Nat) : Int) old) ∧ h.IsTupleIter it a i) where
 mem := by simp
 obj := fun i h st b hb => by
  obtain ⟨⟨old, he⟩, o, e1, c, d⟩ := st
  rcases List.mem_cons.mp hb with z | z
  ·subst z
   exact ⟨_, he, fun v z => by cases z⟩
  ·have z : b = it := by simpa using z
   subst z
   exact ⟨o, e1, fun v z => by rw [d] at z; cases z⟩
 keep := fun i h h' st k => ⟨let ⟨old, he⟩ := st.1; ⟨old, k e (by simp) _ he⟩, tupIter_at st.2 fun o e => k it (by simp) o e⟩
 item := by
  intro X hP hw hK hc i pins s σ H E I hf st hg
  subst hP hw hK
  obtain ⟨xs, x, hq, hx⟩ := hg
  obtain ⟨its, r, hL⟩ := I.tupM hq
  obtain ⟨u, hu, ru⟩ := r.get hx
  obtain ⟨⟨old, he⟩, hit⟩ := st
  have hae : e ≠ a := fun z => by have := (hf e (by simp)).1; rw [z, hq] at this; cases this
  have hai : a ≠ it := fun z => by have := (hf it (by simp)).1; rw [← z, hq] at this; cases this
  have helt : e < s.heap.objs.size := Heap.lt_size he
  have hilt : it < s.heap.objs.size := by obtain ⟨_, x, _⟩ := id hit; exact Heap.lt_size x
  have hun : ∀ b ∈ [e, it], b < s.heap.objs.size := fun b hb => by
   rcases List.mem_cons.mp hb with z | z
   ·rw [z]; exact helt
   ·rw [show b = it by simpa using z]; exact hilt
  have hlt : i < its.toArray.size := by
   have := (List.getElem?_eq_some_iff.mp hu).1
   simpa using this
  refine wpAny_pyNext_enum_itemD (D := drawsT (A := X.A.in1) (I.ok.hd hc) it a hai its.toArray) he ⟨hit, hL⟩ hlt hei (by simp [hei, hae]) fun u' h' tk hu' ho hst' hT hsz hk => ?_
  have eu : u' = u := by
   have h2 : its.toArray[i]? = some u := by simpa using hu
   rw [h2] at hu'; exact (Option.some.inj hu').symm
  subst eu
  refine ⟨_, rfl, wpAny_letOwnedTupleGo_enum ho fun h2 he2 hs2 => ?_⟩
  replace hs2 : Heap.SameBut e h' h2 := hs2
  have I1 : Inv X pins σ (upd H s.heap.objs.size (.tup [.int i, x])) { s with heap := s.heap.push { cls := .type "tuple", data := .seq #[.int i tk, u'] }, toks := tk + 1 } :=
   I.laid (fun b o q => Heap.get?_push_of_some _ q) (Nat.le_refl _) ⟨by show 2 ≤ sizeLine; decide, [.int i tk, u'], .cons ⟨_, rfl⟩ (.cons ru .nil), ⟨_, Heap.get?_push_size _ rfl, rfl, _, rfl⟩⟩
  have frs : ∀ b ∈ [e, it], upd H s.heap.objs.size (.tup [.int i, x]) b = none := fun b hb => by
   rw [upd_ne (Nat.ne_of_lt (hun b hb))]; exact (hf b hb).1
  have I2 : Inv X pins σ (upd H s.heap.objs.size (.tup [.int i, x])) { s with heap := h2, toks := tk + 1 } := by
   refine Inv.turnedL (s := { s with heap := s.heap.push { cls := .type "tuple", data := .seq #[.int i tk, u'] }, toks := tk + 1 }) (h' := h2) (t' := tk + 1) (fp := [e, it]) I1 (fun b o hb q => ?_) (fun b hb => ⟨frs b hb, (hf b hb).2⟩)
   have n1 : b ≠ e := fun z => hb (by simp [z])
   have n2 : b ≠ it := fun z => hb (by simp [z])
   refine (hs2.2 b n1).trans ?_
   rcases Heap.get?_push_cases q with ⟨eb, eo⟩ | q
   ·rw [eb, eo]; exact hT
   ·exact hk b o n1 n2 q
  refine ⟨.ref s.heap.objs.size, _, I2, rfl, ⟨_, xs, x, I.fresh, hq, hx, rfl, rfl⟩, ⟨⟨u', ?_⟩, ?_⟩, frs⟩
  ·have e1 : (((i + 1 : Nat)) : Int) = (i : Int) + 1 := by simp
   rw [e1]; exact he2
  ·exact tupIter_at hst'.1 fun o y => (hs2.2 it hei.symm).trans y
 done := by
  intro X hP hw hK hc i pins s σ H E I hf st hg
  subst hP hw hK
  obtain ⟨xs, hq, hx⟩ := hg
  obtain ⟨its, r, hL⟩ := I.tupM hq
  have hl : xs.length = its.length := Paired.length r
  obtain ⟨⟨old, he⟩, hit⟩ := st
  exact pyNext_enumT_end (I.ok.hd hc) he hit hL (by simp; omega) fun h' eb => ⟨rfl, I.turnedL (t' := s.toks) (fp := [e, it]) (fun b o hb q => eb b o (fun z => hb (by simp [z])) q) hf⟩
 self := fun _ _ _ _ _ st h => let ⟨_, he⟩ := st.1; wpAny_pyIter_enum he h
def iEnumT (ta : TA) : TI := fun σ H R => ta σ H fun vs H1 => ∃ a xs, vs = [.ref a] ∧ H1 a = some (.tup xs) ∧ R (Itet a) H1
theorem pi_enumT {X : Cx} {es : List Expr} {k : Nat} {tp : Pos} {a : Expr} {ta : TA} {p pos : Pos} (hg : Gl X "enumerate") (hm : X.mg "enumerate" = none) (ha : PA X [a] ta) (hs : starEach [a] X.env = [(false, eval a X.env)] := by rfl) :
  PI X (.Tuple es k tp) (.Call (.Name "enumerate" p) [a] [] pos) (iEnumT ta) := by
 intro pins s σ H R I h
 refine wpAny_Call_Name_kw (ld_blt I hg hm boot_enumerate ?_ (by decide) (by decide))
 refine PyProof.Rows.callWith_type1 (thn (ha pos pins s σ H _ I h) fun us s1 ⟨vs, H1, I1, r1, q1⟩ => ?_) hs rfl
 obtain ⟨a, xs, e, hq, q⟩ := q1
 subst e
 obtain ⟨u, rfl, ru⟩ := r1.one
 cases ru
 obtain ⟨its, r, hL⟩ := I1.tupM hq
 refine call_enumerateT hL fun h' he hit hsz hk => ?_
 refine wpAny_pyIter_enum he ?_
 have I2 : Inv X pins σ H1 { s1 with heap := h' } := I1.kept (t' := s1.toks) hk
 refine ⟨s1.heap.objs.size + 1, [s1.heap.objs.size + 1, s1.heap.objs.size], _, _, H1, rfl, I2, turn_enumT a _ _ (Nat.succ_ne_self _), ⟨⟨_, he⟩, hit⟩, fun b hb => ?_, q⟩
 rcases List.mem_cons.mp hb with z | z
 ·subst z; exact I1.fpOk (Nat.le_succ _) (I1.hok.fresh (Nat.le_succ _))
 ·have z : b = s1.heap.objs.size := by simpa using z
  subst z; exact I1.fpOk (Nat.le_refl _) (I1.hok.fresh (Nat.le_refl _))
theorem for_enumT {a : Addr} {xs : List V} {g : TG} {tb : TS} {D : Ends} {σ : St} {H : Hp} (Pv : Nat → St → Hp → Prop) (h0 : Pv 0 σ H) (hl : ∀ i σ H, i ≤ xs.length → Pv i σ H → H a = some (.tup xs))
  (hs : ∀ i x σ H T, xs[i]? = some x → Pv i σ H → H T = none → g (.ref T) σ (upd H T (.tup [.int (i : Int), x])) fun σ2 H2 => tb { D with nx := Pv (i + 1), ct := Pv (i + 1), bk := D.nx } σ2 H2) (hd : ∀ σ H, Pv xs.length σ H → D.nx σ H) :
  ∃ W : Nat → Nat → St → Hp → Prop, (∃ m, W 0 m σ H) ∧ ∀ i m σ H, W i m σ H →
   ((Itet a).stop i H ∧ D.nx σ H) ∨ ((Itet a).go i H ∧ ∃ N : St → Hp → Prop, (∀ σ' H', N σ' H' → ∃ m', m' < m ∧ W (i + 1) m' σ' H') ∧ ∀ x H', (Itet a).yld i H x H' → g x σ H' fun σ2 H2 => tb { D with nx := N, ct := N, bk := D.nx } σ2 H2) := by
 refine ⟨fun i m σ H => m = xs.length - i ∧ i ≤ xs.length ∧ Pv i σ H, ⟨xs.length, by simp, Nat.zero_le _, h0⟩, ?_⟩
 rintro i m σ H ⟨rfl, hi, p⟩
 have q := hl i σ H hi p
 by_cases hlt : i < xs.length
 ·refine .inr ⟨⟨xs, xs[i], q, List.getElem?_eq_getElem hlt⟩, Pv (i + 1), fun σ' H' p' => ⟨xs.length - (i + 1), by omega, rfl, hlt, p'⟩, fun x H' y => ?_⟩
  obtain ⟨T, ys, u, hT, hy, hu, rfl, rfl⟩ := y
  rw [q] at hy
  cases hy
  exact hs i u σ H T hu p hT
 ·have e : i = xs.length := by omega
  subst e
  exact .inl ⟨⟨xs, q, Nat.le_refl _⟩, hd σ H p⟩
end L2
namespace L2
open PySem PySem.Spec PyProof.Rows
section
variable {X : Cx}
def rCatT2 : R2 := fun x y H Q => ∃ a b xs ys, x = .ref a ∧ y = .ref b ∧ H a = some (.tup xs) ∧ H b = some (.tup ys) ∧ xs.length + ys.length ≤ sizeLine ∧
 ∀ p H', (∀ c o, H c = some o → H' c = some o) → H' p = some (.tup (xs ++ ys)) → Q (.ref p) H'
theorem op_catT2 : OpR X (binaryOp .Add) rCatT2 := by
 intro pins s σ H x y v u Q I rx ry h
 obtain ⟨a, b, xs, ys, rfl, rfl, ha, hb, hz, q⟩ := h
 cases rx
 cases ry
 obtain ⟨_, its, r1, p1⟩ := (show ObjOk X.prog X.w H s.heap a (.tup xs) from I.hok a _ ha)
 obtain ⟨_, its2, r2, p2⟩ := (show ObjOk X.prog X.w H s.heap b (.tup ys) from I.hok b _ hb)
 by_cases hx : xs = []
 ·subst hx
  have e0 : its = [] := r1.nil_iff.mpr rfl
  subst e0
  obtain ⟨⟨cls, dd, data, sl⟩, ho, hc, n, hd⟩ := id p1
  obtain ⟨⟨cls2, dd2, data2, sl2⟩, ho2, hc2, n2, hd2⟩ := id p2
  simp only at hc hd hc2 hd2
  subst hc hd hc2 hd2
  exact concat_meets ⟨_, ho, rfl⟩ ⟨_, ho2, rfl⟩ noFill_tuple_add seq_tuple_add PySem.F.slot_tuple_add PySem.F.entry_tuple_add (PySem.F.args_tuple_add_2 _ _)
   (tuple_addW0 a b ([] : List Value).toArray its2.toArray n n2 dd dd2 sl sl2 rfl) ⟨ho, ho2, ⟨.ref b, H, I, rfl, q b H (fun _ _ h => h) hb⟩⟩
 ·refine HT.cat_tup p1 p2 (fun z => hx (r1.nil_iff.mp z)) (fun z => ⟨.ref a, H, I, rfl, q a H (fun _ _ h => h) (by rw [r2.nil_iff.mp z, List.append_nil]; exact ha)⟩) (fun z => ?_) (by rw [← r1.length, ← r2.length]; exact hz)
  have fr := I.hok.fresh (Nat.le_refl s.heap.objs.size)
  refine ⟨.ref s.heap.objs.size, _, I.laid (t' := s.toks) (o := .tup (xs ++ ys)) (fun b ob q => Heap.get?_push_of_some _ q) (Nat.le_refl _) ?_, rfl, q _ _ (fun c o hc => by rw [upd_ne (ne_of_none hc fr)]; exact hc) upd_same⟩
  exact ⟨by rw [List.length_append]; exact hz, _, r1.append r2, IsTup.new _ _⟩
def rEqT0 : R2 := fun x y H Q => ∃ a b xs, x = .ref a ∧ y = .ref b ∧ H a = some (.tup xs) ∧ H b = some (.tup []) ∧ Q (.bl xs.isEmpty) H
theorem op_eqT0 (hu : X.A.units + 64 < cLine) : OpR X (compareOp .Eq) rEqT0 := by
 intro pins s σ H x y v u Q I rx ry h
 obtain ⟨a, b, xs, rfl, rfl, ha, hb, q⟩ := h
 cases rx
 cases ry
 obtain ⟨_, its, r1, p1⟩ := (show ObjOk X.prog X.w H s.heap a (.tup xs) from I.hok a _ ha)
 obtain ⟨_, its2, r2, p2⟩ := (show ObjOk X.prog X.w H s.heap b (.tup []) from I.hok b _ hb)
 have e0 : its2 = [] := r2.nil_iff.mpr rfl
 subst e0
 have q1 := PySem.SeqAt.RcAt.tuples (A := X.A) (e := fun _ => true) p1 p2 (by omega) (fun j k1 k2 => absurd k2 (by simp))
 have e : ((List.range (min its.toArray.size ([] : List Value).toArray.size)).all (fun _ => true) && (its.toArray.size == ([] : List Value).toArray.size)) = xs.isEmpty := by
  have hl : xs.length = its.length := r1.length
  cases xs with
  | nil =>
   have : its = [] := r1.nil_iff.mpr rfl
   subst this
   rfl
  | cons x r =>
   have hne : ¬ its.length = 0 := by rw [← hl]; simp
   simp [hne]
 rw [e] at q1
 exact q1 _ _ _ _ ⟨.bl xs.isEmpty, H, I, rfl, q⟩
def rIndex : V → List V → Hp → VK → Prop := fun x vs H Q => ∃ (l : Addr) (ns : List Int) (k : Int) (j : Nat), x = .ref l ∧ vs = [.int k] ∧ H l = some (.lst (ns.map V.int)) ∧ ns[j]? = some k ∧ (∀ m < j, ns[m]? ≠ some k) ∧ ns.length ≤ 1000 ∧ Q (.int (j : Int)) H
theorem mt_index : MtM X "list.index" rIndex := by
 intro pins s σ H x vs v us Q I rx rv h
 obtain ⟨l, ns, k, j, rfl, rfl, hH, hj, hno, hsm, q⟩ := h
 cases rx
 obtain ⟨u, rfl, ru⟩ := rv.one
 obtain ⟨t, rfl⟩ := ru
 obtain ⟨z, its, n, r, hl, e⟩ := I.lstM hH
 have hi := vals_intsAre r
 have hlen : its.length = ns.length := by rw [← hl, List.length_map]
 have jlt : j < ns.length := (List.getElem?_eq_some_iff.mp hj).1
 have at_ : ∀ m (hm : m < its.toArray.size), ∃ t', its.toArray[m] = .int (ns.getD m 0) t' := fun m hm => by
  have hm' : m < its.length := by simpa using hm
  exact IntsAre.int_at hi m _ (by rw [List.getElem?_eq_getElem hm']; simp)
 have hsj : (j : Int) < 2 ^ 63 - 1 := by
  have : j < 1000 := by omega
  omega
 refine call_meets F.slot_list_index ⟨_, e, rfl⟩ F.entry_list_index (F.args_list_index_2 _ _)
  (MeetsSeq.list_index l its.toArray n (.int k t) (isInt k) (fun y hy => eq_isInt k t hi y (by simpa using hy)) j (by simpa [hlen] using jlt) hsj ?_ (fun m hm hmj => ?_)) ⟨e, ?_⟩
 ·obtain ⟨t', e'⟩ := at_ j (by simpa [hlen] using jlt)
  rw [e']
  have : ns.getD j 0 = k := by rw [List.getD_eq_getElem?_getD, hj]; rfl
  rw [this]
  simp [isInt]
 ·obtain ⟨t', e'⟩ := at_ m hm
  rw [e']
  have hm' : m < ns.length := by simpa [hlen] using hm
  have hne : ns.getD m 0 ≠ k := fun z => hno m hmj (by rw [List.getElem?_eq_getElem hm', ← z, List.getD_eq_getElem?_getD, List.getElem?_eq_getElem hm']; rfl)
  show (ns.getD m 0 == k) = false
  exact beq_eq_false_iff_ne.mpr hne
 ·exact ⟨.int (j : Int), H, I.tok _, ⟨_, rfl⟩, q⟩
end
end L2
namespace L2
open PySem PySem.Spec PyProof.Rows
section
variable {X : Cx}
theorem op_neT0 (hu : X.A.units + 64 < cLine) : OpR X (compareOp .NotEq) (fun x y H Q => ∃ a b xs, x = .ref a ∧ y = .ref b ∧ H a = some (.tup xs) ∧ H b = some (.tup []) ∧ Q (.bl (!xs.isEmpty)) H) := by
 rintro pins s σ H x y v u Q I rx ry ⟨a, b, xs, rfl, rfl, ha, hb, q⟩
 cases rx
 cases ry
 obtain ⟨_, its, r1, p1⟩ := (show ObjOk X.prog X.w H s.heap a (.tup xs) from I.hok a _ ha)
 obtain ⟨_, its2, r2, p2⟩ := (show ObjOk X.prog X.w H s.heap b (.tup []) from I.hok b _ hb)
 have z : its2 = [] := r2.nil_iff.mpr rfl
 subst z
 have ne := PySem.SeqAt.RcNeAt.tuples (A := X.A) (s := s) (e := fun _ => true) p1 p2 (by omega) (fun j k1 k2 => absurd k2 (by simp))
 have e : (!((List.range (min its.toArray.size ([] : List Value).toArray.size)).all (fun _ => true) && its.toArray.size == ([] : List Value).toArray.size)) = !xs.isEmpty := by
  have hl : xs.length = its.length := r1.length
  cases xs with
  | nil =>
   have : its = [] := r1.nil_iff.mpr rfl
   subst this
   rfl
  | cons y r =>
   cases its with
   | nil => cases hl
   | cons w ws => rfl
 rw [e] at ne
 exact ne _ _ _ _ ⟨.bl (!xs.isEmpty), H, I, rfl, q⟩
end
end L2
namespace HT
open PySem PyProof.Rows PySem.SeqAt PySem.MeetsSeq PySem.MeetsSeq2 PySem.MeetsSeq3
inductive OrdK
 | lt
 | le
 | gt
end HT
namespace L2
open PySem PySem.Spec PyProof.Rows
section
variable {X : Cx}
end
end L2
namespace HT
open PySem PyProof.Rows
section
variable {prog : Program} {w : World} {A : Around} {R : Result → Shared → Prop} {I S : Addr} {fp wr : List Addr} {n : Nat} {P : Nat → Value → Prop} {St : Nat → Heap → Prop}
end
end HT
namespace L2
open PySem PySem.Spec PyProof.Rows
section
variable {X : Cx}
end
end L2
namespace HT
open PySem PyProof.Rows
section
variable {prog : Program} {w : World} {A : Around} {E : Value → Shared → Prop} {s : Shared}
theorem draw_w {I : Addr} {fp wr : List Addr} {n : Nat} {P : Nat → Value → Prop} {St : Nat → Heap → Prop} (W : Walks prog w A I fp wr n P St) (its : Nat → Value) (hv : ∀ i v, P i v → v = its i) : ∀ (k i : Nat) (s : Shared) (Q : List Value → Shared → Prop), i + k ≤ n → St i s.heap →
  (∀ h' tk, St (i + k) h' → (∀ b o, b ∉ wr → s.heap.get? b = some o → h'.get? b = some o) → Q ((List.range k).map fun j => its (i + j)) { s with heap := h', toks := tk }) → wpAny (model prog w) A (draw (.ref I) k) Q E s
 | 0, i, s, Q, _, st, q => wpAny_pure (q s.heap s.toks st fun _ _ _ e => e)
 | k + 1, i, s, Q, hi, st, q => by
  refine wpAny_bind (m := pyNext (.ref I)) (W.item i s _ _ (by omega) st fun v h1 t1 hP st1 k1 => ?_)
  cases hv i v hP
  refine wpAny_bind (wpAny_holding (draw_w W its hv k (i + 1) _ _ (by omega) st1 fun h2 t2 st2 k2 => wpAny_pure ?_))
  have e : ((List.range (k + 1)).map fun j => its (i + j)) = its i :: (List.range k).map fun j => its (i + 1 + j) := by
   rw [List.range_succ_eq_map, List.map_cons, List.map_map]
   exact congrArg (its i :: ·) (List.map_congr_left fun j _ => by show its (i + (j + 1)) = _; rw [show i + (j + 1) = i + 1 + j by omega])
  have z := q h2 t2 (by rw [show i + (k + 1) = i + 1 + k by omega]; exact st2) fun b o hb e => k2 b o hb (k1 b o hb e)
  rw [e] at z
  exact z
theorem unpackL {l : Addr} {items : Array Value} {targets : List (Bool × (Value → Sem Unit))} {Q : Unit → Shared → Prop} (hh : A.handled = none) (hl : s.heap.IsList l items) (hn : targets.length = items.size) (hst : targets.findIdx? (·.1) = none)
  (q : ∀ h' tk, (∀ b o, s.heap.get? b = some o → h'.get? b = some o) → wpAny (model prog w) A (assignInOrder (targets.map (·.2)) items.toList) Q E { s with heap := h', toks := tk }) : wpAny (model prog w) A (unpack (.ref l) targets) Q E s := by
 have lt : l < s.heap.objs.size := by obtain ⟨_, e, _⟩ := hl; exact Heap.lt_size e
 have W := Walks.list (prog := prog) (w := w) (A := A) hh s.heap.objs.size l (Nat.ne_of_lt lt) items
 unfold unpack
 rw [hn, hst]
 refine wpAny_bind (wpAny_holding ?_)
 unfold unpackItems notIterableAtAll
 refine wpAny_bind (wpAny_bind (wpAny_specialOf hl.typeIs slot_list_iter.lookup (wpAny_pure ?_)))
 refine wpAny_bind (wpAny_holding (wpAny_pyIter_list hl ?_))
 refine wpAny_bind (wpAny_holding (draw_w W (fun i => items.getD i .none) (fun i v h => by rw [Array.getD_eq_getD_getElem?, h]; rfl) items.size 0 _ _ (by omega) ⟨⟨_, Heap.get?_push_size _ rfl, rfl, rfl⟩, hl.push _⟩ fun h1 t1 st1 k1 => ?_))
 have e : ((List.range items.size).map fun j => items.getD (0 + j) .none) = items.toList := by
  refine List.ext_getElem (by rw [List.length_map, List.length_range, Array.length_toList]) fun i a b => ?_
  have hi : i < items.size := by rw [Array.length_toList] at b; exact b
  rw [List.getElem_map, List.getElem_range, Nat.zero_add, Array.getD_eq_getD_getElem?, Array.getElem?_eq_getElem hi, Array.getElem_toList]
  rfl
 rw [e, if_neg (by rw [Array.length_toList]; exact Nat.lt_irrefl _)]
 rw [Nat.zero_add] at st1
 refine wpAny_bind (wpAny_holding (W.done _ _ _ st1 fun h2 t2 k2 => ?_))
 refine wpAny_pure (q h2 t2 fun b o hb => ?_)
 have nb : b ∉ [s.heap.objs.size] := fun z => by
  rw [List.mem_singleton] at z
  exact absurd (z ▸ Heap.lt_size hb) (Nat.lt_irrefl _)
 exact k2 b o nb (k1 b o nb (Heap.get?_push_of_some _ hb))
end
section
variable {prog : Program} {w : World} {A : Around} {R : Result → Shared → Prop} {I S : Addr} {fp wr : List Addr} {n : Nat} {P : Nat → Value → Prop} {St : Nat → Heap → Prop}
end
end HT
namespace L2
open PySem PySem.Spec PyProof.Rows
section
variable {X : Cx}
def gTupL (K : PySem.W.Frag) (n : Nat) (t : TGs) : TG := fun v σ H Q => ∃ a xs, v = .ref a ∧ SqL K H a xs ∧ xs.length = n ∧ t xs σ H Q
theorem pg_tupL {es : List Expr} {k : Nat} {t : TGs} {n : Nat} {pos : Pos} (hc : X.calm = true) (h : PGs X es t) (hn : (assignEach es X.env).length = n := by rfl) (hst : (assignEach es X.env).findIdx? (·.1) = none := by rfl) : PG X (.Tuple es k pos) (gTupL X.K n t) := by
 rintro pins s σ H v u Q I r ⟨a, xs, rfl, hq, hl, hw⟩
 cases r
 obtain ⟨its, rv, ht, hz⟩ := I.list hq
 rw [assign_Tuple]
 refine wpAny_bind (wpAny_standAt (HT.unpackL (I.ok.hd hc) ht.isList (by rw [hn, ← hl, List.size_toArray, rv.length]) hst fun h' tk hx => ?_))
 exact h pins _ σ H xs _ Q (I.kept hx) (by simpa using rv) hw
end
end L2
namespace L2
open PySem PySem.Spec PyProof.Rows
theorem ObjOk.there {P : Program} {w : World} {H : Hp} {h : Heap} {a : Addr} {o : HO} (x : ObjOk P w H h a o) : ∃ ob, h.get? a = some ob := by
 cases o with
 | lst xs => obtain ⟨_, _, _, _, e⟩ := x; exact ⟨_, e⟩
 | tup xs => obtain ⟨_, _, _, ob, e, _⟩ := x; exact ⟨_, e⟩
 | dK kvs => obtain ⟨_, _, _, _, o, _, _, e, _⟩ := x; exact ⟨_, e⟩
 | dT kvs => obtain ⟨_, _, _, _, o, _, _, e, _⟩ := x; exact ⟨_, e⟩
 | set S n => obtain ⟨o, _, _, _, e, _⟩ := x; exact ⟨_, e⟩
 | ins C dx fs => obtain ⟨_, _, _, e, _⟩ := x; exact ⟨_, e⟩
 | own y => exact x
 | xd fs => obtain ⟨_, ⟨_, _, _, e, _⟩, _⟩ := x; exact ⟨_, e⟩
 | rng lo hi => obtain ⟨_, _, _, e⟩ := x; exact ⟨_, e⟩
 | frz ob u => obtain ⟨e, _⟩ := x; exact ⟨_, e⟩
 | tbl ps => exact ⟨_, show h.get? a = some _ from x⟩
 | met f y => exact ⟨_, show h.get? a = some _ from x⟩
 | ext φ => exact x.2.1
def InB (B : Heap) (fs : List Addr) (H' : Hp) (h h' : Heap) : Prop := ∀ b o, h'.get? b = some o → ((∃ o', h.get? b = some o') ∧ b ∉ fs) ∨ (∃ u, H' b = some u) → B.get? b = some o
def CX1 (P : Program) (w : World) : CXT := fun outer H s E e s' => ∃ (ea : Addr) (C a0 : Value) (H' : Hp) (B : Heap),
 e = .ref ea ∧ s'.os = s.os ∧ AllBare s'.gens ∧ Un (frs outer) [] H H' s.heap s'.heap ∧ HOk P w H' s'.heap ∧ Heap.FlyingW B outer ea C a0 s'.heap ∧ InB B (frs outer) H' s.heap s'.heap ∧ H' ea = none ∧ E C none H'
section
variable {X : Cx} {pins : List (Addr × Obj)} {σ : St} {H H' : Hp} {s s' : Shared} {B h'' : Heap}
theorem Inv.flown (I : Inv X pins σ H s) (os : s'.os = s.os) (bare : AllBare s'.gens) (un : Un (frs X.stack) [] H H' s.heap s'.heap) (hok : HOk X.prog X.w H' s'.heap)
  (hB : InB B (frs X.stack) H' s.heap s'.heap) (st : B.StaysIn h'') (up : s'.heap.UpToSlots h'') : Inv X pins σ H' { s' with heap := h'' } := by
 have ff := I.stack
 have slot : ∀ b o, s.heap.get? b = some o → H b = none → b ∈ frs X.stack → ∃ sl, h''.get? b = some { o with slots := sl } := fun b o q n m => by
  obtain ⟨sl, e1⟩ := un.slot b o q n m (by simp)
  obtain ⟨_, o', q', nf⟩ := ff.mem m
  rw [q] at q'
  cases q'
  obtain ⟨sl', e2⟩ := up b _ e1 nf
  exact ⟨sl', e2⟩
 refine I.call' (s' := { s' with heap := h'' }) (ch := []) os ⟨fun b o q n m _ => st b o (hB b o (un.keep b o q n m (by simp)) (.inl ⟨⟨o, q⟩, m⟩)), fun b o q n m _ => slot b o q n m, fun b o q n m => un.free b o q n m, fun b o q _ => ?_, un.tups, un.frzs, un.tbls⟩ (fun a o e => ?_) bare (fun b z => absurd z (by simp))
 ·by_cases m : b ∈ frs X.stack
  ·obtain ⟨sl, e⟩ := slot b o q (I.stkFree b m) m
   exact ⟨_, e⟩
  ·obtain ⟨o', e⟩ := un.there b o q (by simp)
   exact ⟨o', st b o' (hB b o' e (.inl ⟨⟨o, q⟩, m⟩))⟩
 ·refine (hok a o e).stay (fun b u z q => st b u (hB b u q (.inr ?_))) (fun _ z => z) fun _ _ z => z
  rcases z with z | z
  ·subst z; exact ⟨_, e⟩
  ·exact ⟨_, z⟩
theorem Inv.gone {ea : Addr} {C a0 : Value} {E : XK} (I : Inv X pins σ H s) (os : s'.os = s.os) (bare : AllBare s'.gens) (un : Un (frs X.stack) [] H H' s.heap s'.heap) (hok : HOk X.prog X.w H' s'.heap)
  (hB : InB B (frs X.stack) H' s.heap s'.heap) (fl : Heap.FlyingW B X.outer ea C a0 h'') (up : s'.heap.UpToSlots h'') (hn : H' ea = none) (hE : E C none H')
  (hst : X.stack = X.env :: X.outer) (hfr : X.env.frame = some X.env.locals) (hex : X.ex = []) : CX1 X.prog X.w X.outer X.H₀ X.s₀ E (.ref ea) { s' with heap := h'' } := by
 have J := I.flown os bare un hok hB fl.1 up
 have jb := J.base
 have ib := I.base
 rw [hex] at jb ib
 refine ⟨ea, C, a0, H', B, rfl, J.os, J.bare, jb, J.hok, fl, fun b o q z => ?_, hn, hE⟩
 rcases z with ⟨⟨o₀, q₀⟩, m⟩ | ⟨u, z⟩
 ·have m2 : b ∉ frs X.stack := fun z => by
   rw [hst] at z
   unfold frs at z
   rw [List.filterMap_cons, hfr] at z
   rcases List.mem_cons.mp z with z | z
   ·have := I.ok.above
    rw [← z] at this
    exact absurd (Heap.lt_size q₀) (Nat.not_lt.mpr this)
   ·exact m z
  obtain ⟨o1, q1⟩ := ib.there b o₀ q₀ (by simp)
  obtain ⟨o2, q2⟩ := un.there b o1 q1 (by simp)
  have e := hB b o2 q2 (.inl ⟨⟨o1, q1⟩, m2⟩)
  have e2 := fl.1 b o2 e
  have q' : h''.get? b = some o := q
  rw [q'] at e2
  cases e2
  exact e
 ·obtain ⟨o2, q2⟩ := (hok b u z).there
  have e := hB b o2 q2 (.inr ⟨u, z⟩)
  have e2 := fl.1 b o2 e
  have q' : h''.get? b = some o := q
  rw [q'] at e2
  cases e2
  exact e
end
section
variable {P : Program} {w : World} {K : PySem.W.Frag} {mg : Str → Option Value} {base : Heap} {N : List Str} {qual : Str} {scope : Scope} {f : Addr} {cd : Value} {A : Around} {outer : List Env} {s₀ : Shared} {H₀ : Hp} {E : XK}
theorem pass1 : Passes (CX1 P w) (cxOf (CX1 P w) P w K mg base N qual scope f cd A outer s₀ H₀ E) E := by
 intro pins σ H s e s' I h
 obtain ⟨ea, C, a0, H', B, rfl, os, bare, un, hok, fl, hB, hn, hE⟩ := h
 refine wpAny_leaves_onW (outer := outer) I.ok.frames rfl fl fun h'' fl2 up => ?_
 exact I.gone os bare un hok hB fl2 up hn hE rfl rfl rfl
def RaisesIn (X : Cx) (E : XK) : Prop := ∀ (pins : List (Addr × Obj)) (σ : St) (H : Hp) (s : Shared) (h' : Heap) (ea : Addr) (C : Value) (vs : List Value), Inv X pins σ H s → Heap.MadeExcOf s.heap h' ea C vs → E C none H → X.xe (.ref ea) { s with heap := h' }
theorem raises1 : RaisesIn (cxOf (CX1 P w) P w K mg base N qual scope f cd A outer s₀ H₀ E) E := by
 intro pins σ H s h' ea C vs I hx hE
 have hin : ∀ env ∈ (envOfC qual scope s₀.heap.objs.size f cd :: outer), ∀ b, env.frame = some b → b ∈ (envOfC qual scope s₀.heap.objs.size f cd :: outer).filterMap (·.frame) := fun env he b hb => List.mem_filterMap.mpr ⟨env, he, hb⟩
 refine wpAny_leaves_madeW (base := PySem.W.hideAll s.heap ((envOfC qual scope s₀.heap.objs.size f cd :: outer).filterMap (·.frame))) (outer := outer) I.ok.frames rfl (fun b o q => PySem.W.of_hideAll _ q) (PySem.W.funFrames_hide I.stack hin) hx fun h'' t x1 x2 x3 x4 => ?_
 have hn : H ea = none := by
  cases q : H ea with
  | none => rfl
  | some u =>
   obtain ⟨o, e⟩ := (I.hok ea u q).there
   rw [hx.new] at e
   cases e
 refine I.gone (s' := { s with heap := h' }) (H' := H) rfl I.bare (Un.kept hx.keeps) (I.hok.kept hx.keeps) (fun b o q z => ?_) x1 x4 hn hE rfl rfl rfl
 have q' : h'.get? b = some o := q
 have key : ∃ o', s.heap.get? b = some o' ∧ b ∉ (envOfC qual scope s₀.heap.objs.size f cd :: outer).filterMap (·.frame) := by
  rcases z with ⟨⟨o', e⟩, m⟩ | ⟨u, z⟩
  ·exact ⟨o', e, m⟩
  ·obtain ⟨o', e⟩ := (I.hok b u z).there
   exact ⟨o', e, fun m => by have := I.stkFree b m; rw [z] at this; cases this⟩
 obtain ⟨o', e, m⟩ := key
 have e2 := hx.keeps b o' e
 rw [q'] at e2
 cases e2
 exact PySem.W.hideAll_get _ e m
theorem Fun.ok1 {x qual : Str} {st : Stmt} {f : Addr} {fd : FuncData} {N ps : List Str} {k : Nat} {sp : Sp} (F : Fun K x qual st f fd) (S : FnScope N ps (defScope st)) (len : ∀ vs H Q E, sp vs H Q E → vs.length = ps.length)
  (hbody : ∀ (cdv : Value) (A : Around) (outer : List Env) (s : Shared) (H : Hp) (vs : List V) (Q : VK) (E : XK), Room k (A.deeper (envOfC qual (defScope st) s.heap.objs.size f cdv)) → sp vs H Q E →
   ∃ t, PSs (cxOf (CX1 P w) P w K mg base N qual (defScope st) f cdv A outer s H E) (defBody st) t ∧ t { nx := fun _ H' => Q .non H', rt := Q } (start N vs) H) : FnOk P w K mg base (CX1 P w) (k + 1) f fd ps sp := by
 obtain ⟨oc, od, kV, doc, pm, an, cdv, ct, osl, rfl, lk, hcd⟩ := F.ex
 exact fn_of lk hcd S len fun A outer s H vs Q E hr hsp => hbody cdv A outer s H vs Q E hr hsp
end
theorem own_obj {K : PySem.W.Frag} {h : Heap} {C : Addr} {bmB : List Value} {newId : String} (X : K.In h) (q : PySem.W.excIn K C bmB newId = true) :
  ∃ bm N nm q bs hdct sn sub ab col dd k0 k1 k2 k3 k5 mN, h.get? C = some (excClassObj nm q C N bs bm hdct sn sub ab col dd k0 k1 k2 k3 k5 newId) ∧ h.Ns N mN ∧ mN "__init__" = none ∧ OwnTail h bmB bm := by
 unfold PySem.W.excIn at q
 split at q
 ·rename_i dd cd sl ho
  split at q
  ·rename_i C' bm k0 k1 k2 k3 n k5 hm hs
   simp only [Bool.and_eq_true, beq_iff_eq, Bool.not_eq_true'] at q
   obtain ⟨⟨⟨⟨⟨rfl, rfl⟩, hdel⟩, ht⟩, hok⟩, hni⟩ := q
   obtain ⟨nm, bs, mro, ns, qn, hd, sn, sub, ab, col, del⟩ := cd
   dsimp only at hm hdel hok hni
   subst hm hdel
   have hsl : sl = #[k0, k1, k2, k3, some (.builtin n), k5] := by
    obtain ⟨l⟩ := sl
    simp only at hs
    rw [hs]
   subst hsl
   exact ⟨bm, ns, nm, qn, bs, hd, sn, sub, ab, col, dd, k0, k1, k2, k3, k5, _, X _ _ ho, .of_isNs (PySem.W.isNs_of_in X hok), PySem.W.nsMap_none_of_in X hok hni, PySem.W.tail_of_in X ht⟩
  ·cases q
 ·cases q
section
variable {X : Cx} {E : XK} {x : Str} {C : Addr} {B newId initId : String} {bm : List Value} {np cpos pos : Pos} {e : Expr} {es : List Expr} {t : TA}
def tRaise (C : Addr) (E : XK) (t : TA) : TS := fun _ σ H => t σ H fun vs H1 => vs.length ≤ 1000 ∧ E (.ref C) none H1
theorem ps_raise (hr : RaisesIn X E) (hc : X.calm = true) (FB : ExcBaseFacts B newId initId bm) (hq : PySem.W.excIn X.K C bm newId = true) (hg : Gl X x) (hm : X.mg x = some (.ref C)) (ha : PA X (e :: es) t)
  (hd : (x == ("__debug__" : Str)) = false := by decide) (he : starEach (e :: es) X.env = (false, eval e X.env) :: starEach es X.env := by rfl) (hpl : (backTo cpos (starEach es X.env)).any (·.1) = false := by rfl) :
  PS X (.Raise (some (.Call (.Name x np) (e :: es) [] cpos)) none pos) (tRaise C E t) := by
 intro pins s σ H D I h
 obtain ⟨tl, N, nm, q, bs, hdct, sn, sub, ab, col, dd, k0, k1, k2, k3, k5, mN, hC, hN, hni, T⟩ := own_obj I.mod.kin hq
 refine wpAny_Raise_call_subT (C := C) (nm := nm) (q := q) (N := N) (bs := bs) (bm := tl) (hdct := hdct) (sn := sn) (sub := sub) (ab := ab) (col := col) (dd := dd) (k0 := k0) (k1 := k1) (k2 := k2) (k3 := k3) (k5 := k5)
  FB (mN := mN) (T.hasType FB.hasBase) (I.ok.hd hc) (by rw [he]; show (false || (backTo cpos (starEach es X.env)).any (·.1)) = false; rw [hpl]; rfl) hni (ld_glob I hg hm ⟨rfl, ?_⟩ hd)
 have ha' := ha cpos pins s σ H _ I h
 rw [he] at ha' ⊢
 refine Calls.evalArgs_plain (wpAny_mono ha' (fun us s₂ ⟨vs, H1, I1, r, l, q⟩ => ?_) fun _ _ y => y)
 exact ⟨rfl, by rw [← r.length]; exact Nat.le_trans l (by decide), I1.bk _ _ hC, hN.keeps I1.bk, T.keeps I1.bk, fun h' ea hx => hr pins σ H1 s₂ h' ea _ _ I1 hx q⟩
end
def PB (X : Cx) (st : List Stmt) (tb : XK → TS) : Prop := ∀ (pins : List (Addr × Obj)) (s : Shared) (σ : St) (H : Hp) (D : Ends) (E : XK) (F : Value → Shared → Prop), Inv X pins σ H s →
 (∀ H1 s1 e s', Inv X pins σ H1 s1 → CX1 X.prog X.w X.stack H1 s1 E e s' → F e s') → tb E D σ H → wpAny (model X.prog X.w) X.A (execs st X.env) (SP X pins D) F s
section
variable {X : Cx} {k : Nat} {f : Addr} {fd : FuncData} {ps : List Str} {sp : Sp} {dvs : List V} {ds : List Value} {x : Str} {p pos cpos : Pos} {e : Expr} {es : List Expr} {t : TA}
end
def ExcAt (ea : Addr) (C : Value) : Heap → Prop := fun h => ∃ o vs, h.get? ea = some o ∧ o.cls = C ∧ o.data = .fields vs
abbrev Cx.mark (X : Cx) (v : Value) : Cx := { X with A := X.A.mark (some v), calm := false, xe := fun _ _ => False }
section
variable {X : Cx} {pins : List (Addr × Obj)} {σ : St} {H : Hp} {s : Shared} {v : Value}
theorem Inv.mark (I : Inv X pins σ H s) (v : Value) : Inv (X.mark v) pins σ H s :=
 ⟨⟨I.ok.mod, I.ok.kind, I.ok.glob, I.ok.blt, I.ok.above, I.ok.inj, I.ok.has, I.ok.cab, fun z => Bool.noConfusion z, I.ok.frames, I.ok.stk, I.ok.exf, I.ok.bs, I.ok.bsz, I.ok.noex, I.ok.exfs, I.ok.funs, I.ok.frf⟩, I.os, I.bare, I.base, I.loc, I.cell, I.free, I.freeC, I.pin, I.hok, I.len⟩
theorem Inv.unmark (ok : X.Ok) (I : Inv (X.mark v) pins σ H s) : Inv X pins σ H s := ⟨ok, I.os, I.bare, I.base, I.loc, I.cell, I.free, I.freeC, I.pin, I.hok, I.len⟩
end
section
variable {X : Cx} {pins : List (Addr × Obj)} {σ : St} {H : Hp} {s : Shared}
theorem goes_ok {M : Model} {A : Around} {E : Value → Shared → Prop} {i : Nat} {x : Str} {pos : Pos} {Q : Unit → Shared → Prop} (I : Inv X pins σ H s) (hN : X.N.Nodup) (hi : X.N[i]? = some x) (hk : X.env.scope.names.lookup x = some .local)
  (h : ∀ s', Inv X pins (σ.set i none) H s' → Q () s') : wpAny M A (do bindName X.env x .none; unbindBehindTheSuite X.env x pos) Q E s := by
 obtain ⟨m, hn, hl⟩ := id I.loc
 have hcls : (X.env.scope.kind == .class || (X.env.scope.kind == .module && X.env.locals != X.env.globals)) = false := by rw [I.ok.kind]; rfl
 have hiσ : i < σ.length := by rw [I.len]; exact (List.getElem?_eq_some_iff.mp hi).1
 have cne := I.cne
 refine wpAny_nameGoes_keeps hk hn hcls (fun h' vv hn' hs => ?_)
 obtain ⟨oL, _, _, hoL, _⟩ := id hn
 have tracked : HOk X.prog X.w H h' := fun b ob e => by
  refine (I.hok b ob e).stay (fun c w' hc q => (hs.2 c ?_).trans q) (fun _ q => q) fun _ _ q => q
  rintro rfl
  rcases hc with rfl | hc
  ·rw [I.free] at e; cases e
  ·rw [I.free] at hc; cases hc
 refine h _ ⟨I.ok, I.os, I.bare, ⟨fun b o e n hb hx => ?_, fun b o e n hb hx => ?_, I.base.free, fun b o e hx => ?_, I.base.tups, I.base.frzs, I.base.tbls⟩, ⟨_, hn', fun j y v' e1 e2 e3 => ?_⟩, fun y c e => ?_, I.free, I.freeC, fun p hp => ?_, tracked, by simpa using I.len⟩
 ·exact (hs.2 b (Nat.ne_of_lt (Nat.lt_of_lt_of_le (Heap.lt_size e) I.ok.above))).trans (I.base.keep b o e n hb hx)
 ·obtain ⟨sl, e1⟩ := I.base.slot b o e n hb hx
  exact ⟨sl, (hs.2 b (Nat.ne_of_lt (Nat.lt_of_lt_of_le (Heap.lt_size e) I.ok.above))).trans e1⟩
 ·obtain ⟨o', e1⟩ := I.base.there b o e hx
  exact ⟨o', (hs.2 b (Nat.ne_of_lt (Nat.lt_of_lt_of_le (Heap.lt_size e) I.ok.above))).trans e1⟩
 ·by_cases hj : j = i
  ·subst hj
   rw [List.getElem?_set_self hiσ] at e2
   cases e2
  ·rw [List.getElem?_set_ne (Ne.symm hj)] at e2
   obtain ⟨u', r', q⟩ := hl j y v' e1 e2 e3
   refine ⟨u', r', ?_⟩
   rcases q with ⟨k, e⟩ | ⟨k, c, e, z⟩
   ·refine .inl ⟨k, ?_⟩
    have : y ≠ x := fun e => hj (nodup_ix hN e1 (e ▸ hi))
    simp [this, e]
   ·exact .inr ⟨k, c, e, z.sameBut hs (cne y c e)⟩
 ·obtain ⟨w', z⟩ := I.cell y c e
  exact ⟨w', z.sameBut hs (cne y c e)⟩
 ·obtain ⟨e, n, ne, nf, d⟩ := I.pin p hp
  exact ⟨(hs.2 p.1 ne).trans e, n, ne, nf, d⟩
theorem Inv.track {a : Addr} {o : HO} (I : Inv X pins σ H s) (hn : H a = none) (new : X.s₀.heap.get? a = none) (hL : X.env.locals ≠ a) (hC : ∀ x c, X.env.cells.lookup x = some c → c ≠ a) (hp : ∀ p ∈ X.pn ++ pins, p.1 ≠ a)
  (hO : ObjOk X.prog X.w (upd H a o) s.heap a o) : Inv X pins σ (upd H a o) s := by
 have ne : ∀ b u, H b = some u → b ≠ a := fun b u q z => by rw [z, hn] at q; cases q
 have nw : ∀ b u, X.s₀.heap.get? b = some u → b ≠ a := fun b u q z => by rw [z, new] at q; cases q
 refine ⟨I.ok, I.os, I.bare, ⟨I.base.keep, I.base.slot, fun b u q n hx => by rw [upd_ne (nw b u q)]; exact I.base.free b u q n hx, I.base.there, fun b xs q => ?_, fun b u xs q => ?_, fun b ps q => ?_⟩, I.loc, I.cell, by rw [upd_ne hL]; exact I.free, fun x c e => by rw [upd_ne (hC x c e)]; exact I.freeC x c e, fun p z => ?_, fun b u e => ?_, I.len⟩
 ·have := I.base.tups b xs q
  rw [upd_ne (ne _ _ this)]; exact this
 ·have := I.base.frzs b u xs q
  rw [upd_ne (ne _ _ this)]; exact this
 ·obtain ⟨m, this⟩ := I.base.tbls b ps q
  exact ⟨m, by rw [upd_ne (ne _ _ this)]; exact this⟩
 ·obtain ⟨e, n, ne', nf, d⟩ := I.pin p z
  exact ⟨e, by rw [upd_ne (hp p z)]; exact n, ne', nf, d⟩
 ·by_cases h : b = a
  ·subst h
   rw [upd_same] at e
   cases e
   exact hO
  ·rw [upd_ne h] at e
   exact (I.hok b u e).stay (fun _ _ _ q => q) (fun c q => by rw [upd_ne (ne _ _ q)]; exact q) fun c xs q => by rw [upd_ne (ne _ _ q)]; exact q
end
section
variable {X : Cx} {S : Addr} {cls n c : Str} {i j : Nat} {np cp np2 apos hpos pos : Pos} {body : List Stmt} {tb : XK → TS}
def tTry (K : PySem.W.Frag) (S : Addr) (i j : Nat) (tb : XK → TS) : TS := fun D σ H =>
 tb (fun C _ H' => PySem.W.exmOne K C (.ref S) = some true ∧ ∀ ea : Addr, H' ea = none → D.nx ((σ.set i (some (.ref ea))).set j none) (upd H' ea (.ext (ExcAt ea C)))) D σ H
theorem ps_try (hb : PB X body tb) (hst : X.stack = X.env :: X.outer) (hfr : X.env.frame = some X.env.locals) (hex : X.ex = []) (hN : X.N.Nodup) (hg : Gl X cls) (hm : X.mg cls = some (.ref S)) (hi : X.N[i]? = some c) (hc : Loc X.env.scope c)
  (hj : X.N[j]? = some n) (hn : X.env.scope.names.lookup n = some .local) (hij : i ≠ j)
  (hd : (cls == ("__debug__" : Str)) = false := by decide) (hnd : (n == ("__debug__" : Str)) = false := by decide) (hcd : (n == ("__classdict__" : Str)) = false := by decide)
  (hs : swapsWith (.Name n np2) (some (.Name c cp)) apos.line X.env = pure false := by rfl) (hf : X.fn c = true ∨ X.env.scope.names.lookup c = some .local := by first | exact .inl rfl | exact .inr rfl | assumption) :
  PS X (.Try body [.ExceptHandler (some (.Name cls np)) (some n) [.Assign [.Name c cp] (.Name n np2) apos] hpos] [] [] pos) (tTry X.K S i j tb) := by
 intro pins s σ H D I h
 refine wpAny_Try_except (wpAny_mono (hb pins s σ H D _ (fun e s₁ => wpAny (model X.prog X.w) X.A (noteFrame e X.env) (fun _ s₂ => wpAny (model X.prog X.w) X.A (setFlight e none) (fun _ s₃ => wpAny (model X.prog X.w) X.A (handleBy e X.env [.ExceptHandler (some (.Name cls np)) (some n) [.Assign [.Name c cp] (.Name n np2) apos] hpos]) (SP X pins D) X.xe s₃) X.xe s₂) X.xe s₁) I (fun H1 s1 e s' I1 hx => ?_) h) (fun fl s1 q => ?_) fun _ _ z => z)
 ·obtain ⟨ea, C, a0, H', B, rfl, os, bare, un, hok, fl, hB, hn', hE, hk⟩ := hx
  rw [hst] at fl
  refine wpAny_looks_onW (outer := X.outer) (by rw [I1.ok.frames, hst]) hfr fl fun h₄ held₄ up₄ => ?_
  refine wpAny_landsW held₄ fun h₅ fl₅ up₅ => ?_
  have J := I1.flown os bare un hok hB fl₅.1 (up₄.trans up₅)
  have LT : PySem.W.Looks (model X.prog X.w) h₅ (typeOf (.ref ea)) C := by
   obtain ⟨ob, hob, hobc⟩ := fl₅.there
   exact hobc ▸ (PySem.W.Looks.ld hob).andThen .now
  refine wpAny_handleBy_cons (codeAny_handlers_test (ld_glob (J.mark (.ref ea)) hg hm ?_ hd)) (by intro q; cases q)
  refine PySem.W.Looks.here (PySem.W.exm_one (K := X.K) J.kIn LT hE) ?_
  refine codeAny_handlers_suite_as (lands_againW fl₅ fun h₆ fl₆ up₆ => ?_)
  have J6 := I1.flown os bare un hok hB fl₆.1 ((up₄.trans up₅).trans up₆)
  obtain ⟨oe, ws, hoe, hoec, hoed, _⟩ := fl₆.first
  have nofr : ea ∉ frs X.stack := fun m => by
   rw [hst] at m
   obtain ⟨_, o, q, nf⟩ := fl₆.2.2.1.mem m
   rw [hoe] at q
   cases q
   exact nf _ hoed
  have inB : ∀ b o, s1.heap.get? b = some o → b ∉ frs X.stack → b ≠ ea := fun b o q m z => by
   obtain ⟨o', q'⟩ := un.there b o q (by simp)
   have e := hB b o' q' (.inl ⟨⟨o, q⟩, m⟩)
   rw [z, fl₆.2.1] at e
   cases e
  have hLs : X.env.locals ∈ frs X.stack := by
   rw [hst]
   unfold frs
   rw [List.filterMap_cons, hfr]
   exact List.mem_cons_self
  have T : Inv X pins σ (upd H' ea (.ext (ExcAt ea C))) { s' with heap := h₆ } := by
   refine J6.track hn' ?_ (fun z => nofr (z ▸ hLs)) (fun x c e z => ?_) (fun p hp => ?_) ⟨⟨oe, ws, hoe, hoec, hoed⟩, ⟨oe, hoe⟩, fun a b ⟨o, us, q1, q2⟩ k => ⟨o, us, k o q1, q2⟩⟩
   ·cases q : X.s₀.heap.get? ea with
    | none => rfl
    | some o =>
     have ib := I1.base
     rw [hex] at ib
     obtain ⟨o1, q1⟩ := ib.there ea o q (by simp)
     exact absurd rfl (inB ea o1 q1 nofr)
   ·obtain ⟨v, o, q, d⟩ := J6.cell x c e
    have q' : h₆.get? c = some o := q
    rw [z, hoe] at q'
    cases q'
    rw [hoed] at d
    cases d
   ·obtain ⟨e, n, ne, nf, d⟩ := I1.pin p hp
    refine inB p.1 p.2 e fun m => ?_
    rw [hst] at m
    unfold frs at m
    rw [List.filterMap_cons, hfr] at m
    rcases List.mem_cons.mp m with z | z
    ·exact ne z
    ·exact nf z
  have hjσ : j < σ.length := by rw [I1.len]; exact (List.getElem?_eq_some_iff.mp hj).1
  refine store_ok T hN hj (.inl hn) (show RelV (.ref ea) (.ref ea) from rfl) (fun s7 I7 => ?_) (.inr hn)
  refine wpAny_mono (pss_one (ps_set (X := X.mark (.ref ea)) hN hi hc (pe_var hj (.inl hn) hnd hcd) hs hf) pins s7 _ _ { nx := fun σ' H'' => σ' = (σ.set j (some (.ref ea))).set i (some (.ref ea)) ∧ H'' = upd H' ea (.ext (ExcAt ea C)), rt := fun _ _ => False } (I7.mark (.ref ea)) ⟨.ref ea, List.getElem?_set_self hjσ, rfl, rfl⟩) (fun fl s8 q => ?_) (fun _ _ z => z.elim)
  cases fl with
  | next =>
   obtain ⟨σ', H'', I8, rfl, rfl⟩ := q
   refine goes_ok (Inv.unmark I1.ok I8) hN hj hn fun s9 I9 => ⟨_, _, I9, ?_⟩
   have e : ((σ.set j (some (V.ref ea))).set i (some (.ref ea))).set j none = (σ.set i (some (.ref ea))).set j none := by
    rw [List.set_comm _ _ (Ne.symm hij), List.set_set]
   rw [e]
   exact hk ea hn'
  | ret v => obtain ⟨_, _, _, _, _, z⟩ := q; exact z.elim
  | brk => obtain ⟨_, _, _, z⟩ := q; exact z.elim
  | cont => obtain ⟨_, _, _, z⟩ := q; exact z.elim
 ·cases fl with
  | next => exact wpAny_execs_nil q
  | ret v => exact q
  | brk => exact q
  | cont => exact q
end
end L2
namespace L2
open PySem PySem.Spec PyProof.Rows PySem.W PySem.Builtin PySem.Builtin.ObjectAttr PySem.Builtin.Getset_descriptor
section
variable {prog : Program} {w : World} {A : Around} {E : Value → Shared → Prop} {h : Heap} {g : Array GenState} {d : Drawn} {t : Nat} {os : OsState} {K : PySem.W.Frag} {a C : Addr} {o : Obj}
theorem exc_class_get {tp : Value} {R : Result → Shared → Prop} (X : K.In h) (hx : h.get? a = some o) (hc : o.cls = .ref C) (hm : mroIn K C (.type "object") = some true)
  (q : R (.ok (.ret (.ref C))) ⟨h, g, d, t, os⟩) : codeAny (model prog w) A (.call (.builtin "getset_descriptor.__get__") ⟨[.builtin "object.__class__", .ref a, tp], []⟩) R ⟨h, g, d, t, os⟩ := by
 have L0 : Looks (model prog w) h (typeOf (.ref a)) (.ref C) := hc ▸ (Looks.ld hx).andThen .now
 have L1 := looks_mroIn (M := model prog w) X hm
 refine codeAny_call_builtin KF.slot_gs.plain KF.entry_gs (KF.slot_gs.check _ _ _ _ _ _ _ _ KF.type_class (KF.args_gs _ _ _) ?_)
 unfold Builtin.«getset_descriptor.__get__» descrGet
 rw [dga_obj]
 refine wpAny_bind (wpAny_pure ?_)
 unfold descrGetter descrCheckInstance descrNameAndClass isInstance
 simp only [KF.owner_class]
 repeat lk
 refine ⟨Code.quiet_builtin _ (by decide +kernel), codeAny_builtin KF.entry_class ?_⟩
 unfold Builtin.«object.__class__» shownTypeOf
 repeat lk
 exact q
structure ExcCls (K : PySem.W.Frag) (C : Addr) : Prop where
 ga : findIn K (.ref C) "__getattribute__" = some (some (.builtin "BaseException.__getattribute__"))
 gh : findIn K (.ref C) "__getattr__" = some none
 ca : findIn K (.ref C) "__class__" = some (some (.builtin "object.__class__"))
 ob : mroIn K C (.type "object") = some true
 be : mroIn K C (.type "BaseException") = some true
 cl : (clsIn K C).isSome = true
 hn : specialIn K (.builtin "object.__class__") "__get__" = some (some (.builtin "getset_descriptor.__get__"))
 htk : takesIn K (.builtin "object.__class__") = some true
theorem exc_find {M : Model} (X : K.In h) (c : ExcCls K C) : Looks M h (find (.ref a) (.ref C) "__class__") (.bind (.builtin "getset_descriptor.__get__") (.builtin "object.__class__")) := by
 refine (looks_findIn X c.ca).andThen ((looks_specialIn X c.hn).andThen ?_)
 exact (show Looks M h (dataDescriptor? (some (.builtin "object.__class__")) (some (.builtin "getset_descriptor.__get__"))) _ from (looks_takesIn X c.htk).andThen .now).andThen (Looks.tag .now)
theorem exc_entry {tk : Tok} {Q : Fin → Shared → Prop} (X : K.In h) (c : ExcCls K C) (hx : h.get? a = some o) (hc : o.cls = .ref C) (q : Q (.done (.ret (.ref C))) ⟨h, g, d, t, os⟩) :
  wpAny (model prog w) A (Builtin.«object.__getattribute__» ⟨[.ref a, .str "__class__" tk], []⟩) Q E ⟨h, g, d, t, os⟩ := by
 have L0 : Looks (model prog w) h (typeOf (.ref a)) (.ref C) := hc ▸ (Looks.ld hx).andThen .now
 have L1 := exc_find (M := model prog w) (a := a) X c
 unfold Builtin.«object.__getattribute__»
 refine wpAny_bind (wpAny_pure (wpAny_bind (wpAny_pure (wpAny_bind (L0.at (wpAny_bind (L1.at ?_)))))))
 refine wpAny_bind (wpAny_holding (wpAny_call (exc_class_get X hx hc c.ob ?_)))
 exact wpAny_pure q
theorem exc_check {M : Model} {nameV : Value} {Q : Unit → Shared → Prop} (X : K.In h) (c : ExcCls K C) (hx : h.get? a = some o) (hc : o.cls = .ref C) (q : Q () ⟨h, g, d, t, os⟩) : wpAny M A (checkBuiltinCall "BaseException.__getattribute__" ⟨[.ref a, nameV], []⟩) Q E ⟨h, g, d, t, os⟩ := by
 have hk : builtinKind "BaseException.__getattribute__" = some .slot := by decide +kernel
 have hsplit : splitId "BaseException.__getattribute__" = some ("BaseException", "__getattribute__") := by decide +kernel
 have ha := F.args_bexc_ga (.ref a) nameV
 have L0 : Looks M h (typeOf (.ref a)) (.ref C) := hc ▸ (Looks.ld hx).andThen .now
 have LI : Looks M h (isInstance (.ref a) (.type "BaseException")) true := L0.andThen (looks_mroIn X c.be)
 simp only [checkBuiltinCall, hk, hsplit]
 refine wpAny_bind (LI.at ?_)
 repeat (first | wp_step)
 exact q
theorem exc_by {tk : Tok} {Q : Value → Shared → Prop} (X : K.In h) (c : ExcCls K C) (hx : h.get? a = some o) (hc : o.cls = .ref C) (q : Q (.ref C) ⟨h, g, d, t, os⟩) :
  wpAny (model prog w) A (getAttrBy (.ref a) (.str "__class__" tk) false) Q E ⟨h, g, d, t, os⟩ := by
 have L0 : Looks (model prog w) h (typeOf (.ref a)) (.ref C) := hc ▸ (Looks.ld hx).andThen .now
 have L1 := looks_findIn (M := model prog w) X c.ga
 have L2 := looks_findIn (M := model prog w) X c.gh
 have hb : bindSpecial (.builtin "BaseException.__getattribute__") (.ref a) = pure (.builtin "BaseException.__getattribute__", [.ref a]) := by
  have hop : withoutEnding? "BaseException.__getattribute__" "#opaque" = none := by decide +kernel
  have hdat : withoutEnding? "BaseException.__getattribute__" "#data" = none := by decide +kernel
  have hk : builtinKind "BaseException.__getattribute__" = some .slot := by decide +kernel
  simp only [bindSpecial, typeOf, builtinType, hop, hdat, hk]; rfl
 have hx2 : (Value.builtin "BaseException.__getattribute__" == Value.builtin "object.__getattribute__") = false := by decide +kernel
 have hx1 : (onTheHeap (Value.ref C) && Value.builtin "BaseException.__getattribute__" == Value.builtin "object.__getattribute__") = false := by rw [hx2]; rfl
 unfold getAttrBy
 refine wpAny_holding (wpAny_bind (L0.at (wpAny_bind (L1.at ?_))))
 dsimp only
 rw [hx1, if_neg Bool.false_ne_true]
 unfold getAttrByItsOwn hookBefore
 rw [show onTheHeap (Value.ref C) = true from rfl, if_pos rfl]
 refine wpAny_bind (L2.at (wpAny_bind (wpAny_attempt (wpAny_holding ?_))))
 unfold callGetattribute
 rw [Bool.false_and, if_neg Bool.false_ne_true]
 unfold boundAndCalled
 rw [hb]
 refine wpAny_bind (wpAny_pure ?_)
 refine wpAny_call (codeAny_call_builtin (by decide +kernel) F.entry_bexc_ga (exc_check X c hx hc (exc_entry X c hx hc ?_)))
 exact wpAny_pure q
theorem kitx_exc (c : ExcCls K C) : KitX K (.ref a) (.ref C) (ExcAt a (.ref C)) where
 ty := fun _ _ _ ⟨_, _, hx, hc, _⟩ => hc ▸ (Looks.ld hx).andThen .now
 it := fun _ _ X _ => by
  have hcD := c.cl
  unfold clsIn at hcD
  split at hcD
  ·rename_i c' d' cd' sl' ho
   intro A' Q' E' s' k q
   unfold isType loadHead
   exact wpAny_bind (wpAny_loadPart (k _ _ (X _ _ ho)) (wpAny_pure q))
  ·cases hcD
 ne := fun h tp dd its n sl X htp => by
  have hcD := c.cl
  refine Bool.eq_false_iff.mpr fun q => ?_
  have e : C = tp := Value.ref.inj (beq_iff_eq.mp q)
  subst e
  unfold clsIn at hcD
  split at hcD
  ·rename_i c' d' cd' sl' ho
   have z := (X _ _ ho).symm.trans htp
   cases z
  ·cases hcD
 ca := fun {_ _ _ _ _ s} X ⟨_, _, hx, hc, _⟩ k => by
  obtain ⟨h, g, d, t, os⟩ := s
  unfold getAttr? getAttrBy?
  refine wpAny_bind (wpAny_mkText (wpAny_bind (wpAny_attempt (exc_by X c hx hc ?_))))
  exact wpAny_pure k
end
end L2
namespace L2
open PySem PySem.Spec PyProof.Rows
def rIsiE (K : PySem.W.Frag) : List V → Hp → VK → Prop := fun vs H Q => ∃ (ea D : Addr) (c : V) (cv : Value) (b : Bool), vs = [.ref ea, c] ∧ H ea = some (.ext (ExcAt ea (.ref D))) ∧ ExcCls K D ∧ (∀ u, RelV c u → u = cv) ∧ PySem.W.kitOne K (.ref D) cv = some b ∧ Q (.bl b) H
theorem call_isiE {X : Cx} : CallR X (.builtin "isinstance") (rIsiE X.K) := by
 intro pins s σ H vs us Q I r ⟨ea, D, c, cv, b, e, h, hc, hu, hk, q⟩
 subst e
 obtain ⟨u, v, rfl, h1, h2⟩ := r.two
 cases h1
 cases hu _ h2
 have ho : ExcAt ea (.ref D) s.heap := (I.hok ea _ h).1
 exact PySem.W.kia_one (kitx_exc hc) I.kIn ho hk (fun z => nomatch z) fun tk => ⟨.bl b, H, I.tok tk, rfl, q⟩
end L2
namespace L2
open PySem PySem.Spec PyProof.Rows
end L2
namespace L2
open PySem PySem.Spec PyProof.Rows
theorem DatAll.get {H : Hp} : ∀ {xs : List V} {ds : List PyData}, DatAll H xs ds → ∀ {j : Nat} {x : V}, xs[j]? = some x → ∃ d, ds[j]? = some d ∧ Dat H x d
 | _, _, .nil, _, _, h => by cases h
 | _, _, .cons a t, 0, _, h => by cases h; exact ⟨_, rfl, a⟩
 | _, _, .cons _ t, j + 1, _, h => t.get (j := j) h
end L2
namespace L2
open PySem PySem.Spec PyProof.Rows
section
variable {X : Cx}
end
section
variable {X : Cx} {k : Nat} {f : Addr} {fd : FuncData} {ps : List Str} {sp : Sp} {dvs : List V} {ds : List Value} {x y : Str} {i : Nat} {p pos pos' cpos : Pos} {e : Expr} {es : List Expr} {t : TA}
def tbSet (i : Nat) (sp : Sp) (dvs : List V) (t : TA) : XK → TS := fun E D σ H => t σ H fun vs H1 => sp (vs ++ dvs) H1 (fun v H2 => D.nx (σ.set i (some v)) H2) E
theorem pb_set (hx : ∀ e s, ¬ X.xe e s) (hN : X.N.Nodup) (hi : X.N[i]? = some y) (hy : Loc X.env.scope y) (Fn : FnOk X.prog X.w X.K X.mg X.base (CX1 X.prog X.w) k f fd ps sp) (hr : Room k X.A) (hg : Gl X x) (hm : X.mg x = some (.ref f)) (hk : PySem.W.keepIn X.K (.ref f) = true) (hb : Binds X.K fd ps ds) (hd : Vals dvs ds)
  (ha : PA X (e :: es) t) (hdb : (x == ("__debug__" : Str)) = false := by decide) (he : starEach (e :: es) X.env = (false, eval e X.env) :: starEach es X.env := by rfl) (hpl : (backTo cpos (starEach es X.env)).any (·.1) = false := by rfl)
  (hs : swapsWith (.Call (.Name x p) (e :: es) [] cpos) (some (.Name y pos')) pos.line X.env = pure false := by rfl) (hf : X.fn y = true ∨ X.env.scope.names.lookup y = some .local := by first | exact .inl rfl | exact .inr rfl | assumption) :
  PB X [.Assign [.Name y pos'] (.Call (.Name x p) (e :: es) [] cpos) pos] (tbSet i sp dvs t) := by
 intro pins s σ H D E F I hF h
 have hq : wpAny (model X.prog X.w) X.A (eval (.Call (.Name x p) (e :: es) [] cpos) X.env) (EP X pins σ fun v H2 => D.nx (σ.set i (some v)) H2) F s := by
  refine wpAny_Call_Name_kw (ld_glob I hg hm ?_ hdb)
  refine PySem.W.callWith_K (h₀ := X.base) I.ok.mod.kin hk (wpAny_mono (ha cpos pins s σ H _ I h) (fun us s1 ⟨vs, H1, I1, r, q⟩ => ⟨I1.kIn, ?_⟩) fun _ _ z => (hx _ _ z).elim) he hpl
  have r2 : Vals (vs ++ dvs) (us ++ ds) := r.append hd
  have hl : (us ++ ds).length = ps.length := by rw [← r2.length]; exact Fn.len _ _ _ _ q
  refine wpAny_call (codeAny_mono (Fn.run X.A X.stack s1 H1 ⟨us, []⟩ (us ++ ds) (vs ++ dvs) _ E hr I1.env0 (hb s1 us I1.kIn hl) r2 q) fun r s' hq => ?_)
  cases r with
  | error e => exact hF H1 s1 e s' I1 hq
  | ok fl =>
   cases fl with
   | ret u => exact I1.after hq
   | next => exact False.elim hq
   | brk => exact False.elim hq
   | cont => exact False.elim hq
 refine wpAny_execs_cons ?_
 exact wpAny_Assign_Name (thn hq fun v s1 ⟨z, H1, I1, r1, q1⟩ => store_ok I1 hN hi hy r1 (fun s2 I2 => wpAny_execs_nil ⟨_, H1, I2, q1⟩) hf) hs
end
end L2
namespace L2
open PySem PySem.Spec PyProof.Rows
end L2
namespace N16
open PySem PySem.Spec PyProof.Rows L2
abbrev Kee (K : PySem.W.Frag) (f : Addr) : Prop := PySem.W.keepIn K (.ref f) = true
theorem two_le : 2 ≤ sizeLine := by decide
variable {P : Program} {w : World} {K : PySem.W.Frag} {mg : Str → Option Value} {base : Heap}
def top (i : Nat) : Stmt := PySem.Challenge.pw_nearsums_k16_numbers_of_rows.main.body.getD i (.Pass ⟨0, 0, 0, 0⟩)
structure Bt (mg : Str → Option Value) : Prop where
 len : mg "len" = none
 max : mg "max" = none
 min : mg "min" = none
 range : mg "range" = none
 list : mg "list" = none
 int : mg "int" = none
structure Dk (H : Hp) (d p : Addr) (qs : List Addr) : Prop where
 dk : ∃ c : Int, H d = some (.lst [.ref p, .int c])
 pl : H p = some (.lst (qs.map V.ref))
 ne : 0 < qs.length
 le : qs.length ≤ 63
 q : ∀ q ∈ qs, ∃ a b c : Int, H q = some (.lst [.int a, .int b, .int c])
theorem small {n : Nat} (h : n ≤ 1000) : n ≤ sizeLine := Nat.le_of_lt (small1000 h)
structure Bt2 (mg : Str → Option Value) : Prop extends Bt mg where
 all : mg "all" = none
 isinstance : mg "isinstance" = none
 bool : mg "bool" = none
 str : mg "str" = none
 tuple : mg "tuple" = none
 sorted : mg "sorted" = none
theorem none_of_same {H H' : Hp} {p : Addr} (g : Same H H') (h : H' p = none) : H p = none := by
 cases e : H p with
 | none => rfl
 | some o => rw [g _ _ e] at h; cases h
structure Rise (xs : List Int) : Prop where
 up : xs.Pairwise (· < ·)
 bd : ∀ x ∈ xs, 0 ≤ x
structure PlanOk (ns ss : List Int) : Prop where
 n : Rise ns
 s : Rise ss
 n1 : 1 ≤ ns.length
 n2 : ns.length ≤ 10
 s2 : ss.length ≤ 10
theorem comp_true {x : V} {σ : L2.St} {H : Hp} {A B : L2.St → Hp → Prop} (h : A (σ.set 0 (some x)) H) : gName 0 x σ H fun σ2 H2 => tTrue σ2 H2 fun b H3 => if b = true then A σ2 H3 else B σ2 H3 := by
 have z : (if true = true then A (σ.set 0 (some x)) H else B (σ.set 0 (some x)) H) := iteT h
 exact z
theorem erase_map {α β : Type} (f : α → β) : ∀ (l : List α) (i : Nat), (l.map f).eraseIdx i = (l.eraseIdx i).map f
 | [], _ => rfl
 | _ :: _, 0 => rfl
 | x :: r, i + 1 => by
  rw [List.map_cons, List.eraseIdx_cons_succ, List.eraseIdx_cons_succ, List.map_cons, erase_map f r i]
theorem perm_erase {α : Type} : ∀ {l : List α} {i : Nat} (h : i < l.length), (l[i] :: l.eraseIdx i).Perm l
 | x :: r, 0, _ => List.Perm.refl _
 | x :: r, i + 1, h => by
  have h' : i < r.length := by simpa using h
  show (r[i] :: x :: r.eraseIdx i).Perm (x :: r)
  exact (List.Perm.swap _ _ _).trans (List.Perm.cons x (perm_erase h'))
def SumsOk (H : Hp) (sd : Addr) (n : Nat) : Prop := ∃ (kvs : List (Key × V)) (ks : List Int), H sd = some (.dK kvs) ∧ kvs.map (·.1) = ks.map Sum.inl ∧ ks.Nodup ∧ (∀ x ∈ ks, 0 ≤ x ∧ x < 2 ^ 96) ∧ ks.length ≤ n
theorem SumsOk.stay {H H' : Hp} {sd : Addr} {n : Nat} (h : SumsOk H sd n) (e : ∀ {o}, H sd = some o → H' sd = some o) : SumsOk H' sd n := by
 obtain ⟨kvs, ks, h1, h2⟩ := h
 exact ⟨kvs, ks, e h1, h2⟩
theorem SumsOk.upto {H : Hp} {sd : Addr} {n m : Nat} (h : SumsOk H sd n) (e : n ≤ m) : SumsOk H sd m := by
 obtain ⟨kvs, ks, h1, h2, h3, h4, h5⟩ := h
 exact ⟨kvs, ks, h1, h2, h3, h4, Nat.le_trans h5 e⟩
theorem SumsOk.more {H : Hp} {sd : Addr} {n : Nat} (h : SumsOk H sd n) : SumsOk H sd (n + 1) := h.upto (Nat.le_succ _)
theorem SumsOk.put {H : Hp} {sd : Addr} {n : Nat} {x : Int} (h : SumsOk H sd n) (x0 : 0 ≤ x) (x1 : x < 2 ^ 96) : ∃ kvs, H sd = some (.dK kvs) ∧ kvs.length ≤ n ∧ SumsOk (upd H sd (.dK (putK kvs (Sum.inl x) (.bl true)))) sd (n + 1) := by
 obtain ⟨kvs, ks, h1, h2, h3, h4, h5⟩ := h
 have hl : kvs.length = ks.length := by have := congrArg List.length h2; simpa using this
 refine ⟨kvs, h1, by omega, _, _, upd_same, putK_keys h2, ?_, ?_, ?_⟩
 ·split
  ·exact h3
  ·rename_i hx
   refine List.nodup_append.mpr ⟨h3, List.nodup_cons.mpr ⟨(fun h => nomatch h), List.nodup_nil⟩, fun a ha b hb e => ?_⟩
   have : b = x := List.mem_singleton.mp hb
   exact hx (this ▸ e ▸ ha)
 ·intro y hy
  split at hy
  ·exact h4 y hy
  ·rcases List.mem_append.mp hy with z | z
   ·exact h4 y z
   ·rw [List.mem_singleton.mp z]; exact ⟨x0, x1⟩
 ·split
  ·omega
  ·rw [List.length_append, List.length_singleton]; omega
theorem strict {xs : List Int} (h : xs.Pairwise (· ≤ ·)) (n : xs.Nodup) : xs.Pairwise (· < ·) := by
 induction xs with
 | nil => exact .nil
 | cons x r ih =>
  rw [List.pairwise_cons] at h ⊢
  rw [List.nodup_cons] at n
  refine ⟨fun y hy => ?_, ih h.2 n.2⟩
  have h1 := h.1 y hy
  have h2 : x ≠ y := fun e => n.1 (e ▸ hy)
  omega
def uptoN (m : Nat) : List Int := (List.range m).map fun k : Nat => 1 + (k : Int)
theorem uptoN_rise (m : Nat) (h : m ≤ 10) : Rise (uptoN m) ∧ ∀ x ∈ uptoN m, x < 2 ^ 96 := by
 have key : ∀ m : _root_.Fin 11, (uptoN m.val).Pairwise (· < ·) ∧ (∀ x ∈ uptoN m.val, 0 ≤ x) ∧ ∀ x ∈ uptoN m.val, x < 2 ^ 96 := by decide +kernel
 have k := key ⟨m, by omega⟩
 exact ⟨⟨k.1, k.2.1⟩, k.2.2⟩
theorem uptoN_is (n : Int) : ((List.range (n + 1 - 1).toNat).map fun k : Nat => V.int (1 + (k : Int))) = (uptoN n.toNat).map V.int := by
 have e : n + 1 - 1 = n := by omega
 rw [e]
 unfold uptoN
 rw [List.map_map]
 rfl
structure Bt3 (mg : Str → Option Value) : Prop extends Bt2 mg where
 enumerate : mg "enumerate" = none
abbrev sDs : Stmt := top 36
abbrev sTk : Stmt := top 37
structure BtA (mg : Str → Option Value) : Prop extends Bt3 mg where
 abs : mg "abs" = none
structure Sto (H : Hp) (d p : Addr) : Prop where
 at_ : ∃ c : Int, H d = some (.lst [.ref p, .int c])
 pl : ∃ xs : List Int, H p = some (.lst (xs.map V.int)) ∧ 0 < xs.length ∧ xs.length ≤ 1000 ∧ ∀ x ∈ xs, 0 ≤ x
theorem Sto.ne {H : Hp} {d p : Addr} (S : Sto H d p) : p ≠ d := fun e => by
 obtain ⟨c, hc⟩ := S.at_
 obtain ⟨xs, hx, h0, _⟩ := S.pl
 rw [e, hc] at hx
 cases xs with
 | nil => exact absurd h0 (by decide)
 | cons x r => cases hx
theorem Sto.ex {H H' : Hp} {d p : Addr} (S : Sto H d p) (g : Same H H') : Sto H' d p := ⟨let ⟨c, h⟩ := S.at_; ⟨c, g _ _ h⟩, let ⟨xs, h, r⟩ := S.pl; ⟨xs, g _ _ h, r⟩⟩
def OffD (d : Addr) (H H' : Hp) : Prop := ∀ b, b ≠ d → H' b = H b
theorem OffD.ex {d : Addr} {H H' : Hp} (o : OffD d H H') : Ex (· = d) H H' := fun b u n h => (o b n).trans h
def spTk : Sp := fun vs H Q _ => ∃ (d p : Addr) (many : Int), vs = [.ref d, .int many] ∧ Sto H d p ∧ 0 < many ∧ ∀ (r : Int) (H' : Hp), 0 ≤ r → r < many → Sto H' d p → OffD d H H' → Q (.int r) H'
def spDs (K : PySem.W.Frag) : Sp := fun vs H Q _ => ∃ (a : Addr) (ns : List Int), vs = [.ref a, .int 400] ∧ SqL K H a (ns.map V.int) ∧ ns.length ≤ 63 ∧
 ∀ (p : Addr) (xs : List Int) (H' : Hp), Same H H' → H p = none → H' p = some (.lst (xs.map V.int)) → 0 < xs.length → xs.length ≤ 1000 → (∀ x ∈ xs, 0 ≤ x) → Q (.ref p) H'
theorem cut63 (ns : List Int) (h : ns.length ≤ 63) : cutV (ns.map V.int) none (some 63) = ns.map V.int := by
 unfold cutV
 have h1 : HT.sIx (ns.map V.int).length 0 none = 0 := rfl
 have h2 : HT.sIx (ns.map V.int).length (ns.map V.int).length (some 63) = ns.length := by
  unfold HT.sIx
  rw [List.length_map]
  simp
  omega
 rw [h1, h2, List.drop_zero, Nat.sub_zero, ← List.length_map (f := V.int), List.take_length]
section
variable {f : Addr} {fd : FuncData}
theorem scTk : FnScope ["store", "many"] ["store", "many"] (defScope sTk) := ⟨rfl, rfl, rfl, by decide +kernel, rfl, by decide +kernel, by decide +kernel⟩
theorem ok_tk (F : Fun K "_law_take" "_law_take" sTk f fd) (B : Bt3 mg) : FnOk P w K mg base CX0 1 f fd ["store", "many"] spTk := by
 refine F.ok scTk (fun vs H Q E h => ?_) (fun cdv A outer s H vs Q E hr h => ?_)
 ·obtain ⟨d, p, many, rfl, _⟩ := h
  rfl
 obtain ⟨d, p, many, rfl, S, hm, q⟩ := h
 refine ⟨_, (@pss_cons _ _ _ _ _ (ps_asg (pe_op op_add (pe_ix ix_list (pv 0) pe_int (fun _ _ => rfl)) pe_int) (pg_sub (pv 0) pe_int set_list)) (@pss_one _ _ _ (ps_ret (pe_op op_mod (pe_ix ix_list (pe_ix ix_list (pv 0) pe_int (fun _ _ => rfl)) (pe_op op_mod (pe_op op_sub (pe_ix ix_list (pv 0) pe_int (fun _ _ => rfl)) pe_int) (pe_callB call_len_seq rfl B.len PySem.boot_len (pa_cons (pe_ix ix_list (pv 0) pe_int (fun _ _ => rfl)) pa_nil))) (fun _ _ => rfl)) (pv 1))))), ?_⟩
 obtain ⟨c, hd⟩ := S.at_
 obtain ⟨xs, hx, x0, x1000, xn⟩ := S.pl
 have pd := S.ne
 refine ⟨_, rfl, d, _, 1, _, rfl, rfl, SqL.of hd, rfl, _, _, rfl, rfl, _, rfl, d, _, 1, 1, rfl, rfl, hd, rfl, ?_⟩
 have hd1 : (upd H d (.lst [.ref p, .int (c + 1)])) d = some (.lst [.ref p, .int (c + 1)]) := upd_same
 have hx1 : (upd H d (.lst [.ref p, .int (c + 1)])) p = some (.lst (xs.map V.int)) := by rw [upd_ne pd]; exact hx
 have xml : (xs.map V.int).length = xs.length := List.length_map _
 have hpos : (0 : Int) < (((xs.map V.int).length : Nat) : Int) := by rw [xml]; omega
 have hr0 := Int.emod_nonneg (c + 1 - 1) (show (((xs.map V.int).length : Nat) : Int) ≠ 0 by omega)
 have hr1 := Int.emod_lt_of_pos (c + 1 - 1) hpos
 obtain ⟨x, ax, mx⟩ := pick_int xs (r := (c + 1 - 1) % (((xs.map V.int).length : Nat) : Int)) hr0 (by rw [xml] at hr1 ⊢; exact hr1)
 refine ⟨_, rfl, d, _, 0, _, rfl, rfl, SqL.of hd1, rfl, _, rfl, d, _, 1, _, rfl, rfl, SqL.of hd1, rfl, _, _, rfl, rfl, _, rfl, d, _, 0, _, rfl, rfl, SqL.of hd1, rfl, p, _, rfl, .inl (SqL.of hx1), _, _, rfl, rfl, hpos, p, _, _, _, rfl, rfl, SqL.of hx1, ax, _, rfl, _, _, rfl, rfl, hm, ?_⟩
 exact q _ _ (Int.emod_nonneg _ (by omega)) (Int.emod_lt_of_pos _ hm) ⟨⟨_, hd1⟩, ⟨xs, hx1, x0, x1000, xn⟩⟩ (fun b hb => upd_ne hb)
theorem scDs : FnScope ["script", "many", "drawn", "base", "k", "cell", "number", "one"] ["script", "many"] (defScope sDs) := ⟨rfl, rfl, rfl, by decide +kernel, rfl, by decide +kernel, by decide +kernel⟩
theorem ok_ds (F : Fun K "_law_draws" "_law_draws" sDs f fd) (B : BtA mg) : FnOk P w K mg base CX0 1 f fd ["script", "many"] (spDs K) := by
 refine F.ok scDs (fun vs H Q E h => ?_) (fun cdv A outer s H vs Q E hr h => ?_)
 ·obtain ⟨a, ns, rfl, _⟩ := h
  rfl
 obtain ⟨a, ns, rfl, hS, h63, q⟩ := h
 refine ⟨_, (@pss_cons _ _ _ _ _ (ps_set (i := 2) scDs.nd rfl (Or.inl rfl) (pe_lst pa_nil)) (@pss_cons _ _ _ _ _ (ps_set (i := 3) scDs.nd rfl (Or.inl rfl) pe_int) (@pss_cons _ _ _ _ _ (ps_for PassesOwn.never rfl (pi_enum rfl B.enumerate (pa_cons (pe_slice sl_list (pv 0) po_none (po_some pe_int)) pa_nil)) (pg_tup rfl (pgs_cons (pg_name (i := 4) scDs.nd rfl (Or.inl rfl)) (pgs_cons (pg_name (i := 5) scDs.nd rfl (Or.inl rfl)) pgs_nil))) (@pss_cons _ _ _ _ _ (ps_set (i := 6) scDs.nd rfl (Or.inl rfl) (pe_callB call_abs rfl B.abs boot_abs (pa_cons (pv 5) pa_nil))) (@pss_cons _ _ _ _ _ (ps_set (i := 3) scDs.nd rfl (Or.inl rfl) (pe_op op_mod (pe_op op_add (pe_op op_mul (pv 3) pe_int) (pv 6)) pe_int)) (@pss_one _ _ _ (ps_if (pt_cmpR op_ge (pv 6) (pe_op op_pow pe_int pe_int) (nomark _)) (@pss_one _ _ _ (ps_while PassesOwn.never (PW.pt (pw_and (pt_cmpR op_gt (pv 6) pe_int (nomark _)) (pw_and1 (pt_cmpR op_lt (pe_callB call_len_seq rfl B.len PySem.boot_len (pa_cons (pv 2) pa_nil)) (pv 1) (nomark _))))) (@pss_cons _ _ _ _ _ (ps_expr (pe_bm PySem.F.plainAttrs_list PySem.F.slot_list_append PySem.F.type_list_append mt_append (pv 2) (pa_cons (pe_op op_mod (pv 6) pe_int) pa_nil))) (@pss_one _ _ _ (ps_set (i := 6) scDs.nd rfl (Or.inl rfl) (pe_op op_fdiv (pv 6) pe_int)))))) (@pss_cons _ _ _ _ _ (ps_set (i := 7) scDs.nd rfl (Or.inl rfl) (pe_op op_mod (pe_op op_mul (pe_op op_add (pe_op op_add (pe_op op_mod (pv 6) pe_int) (pv 4)) pe_int) pe_int) pe_int)) (@pss_cons _ _ _ _ _ (ps_set (i := 7) scDs.nd rfl (Or.inl rfl) (pe_op op_mod (pe_op op_mul (pv 7) (pv 7)) pe_int)) (@pss_cons _ _ _ _ _ (ps_expr (pe_bm PySem.F.plainAttrs_list PySem.F.slot_list_append PySem.F.type_list_append mt_append (pv 2) (pa_cons (pe_op op_mod (pe_op op_fdiv (pv 7) pe_int) pe_int) pa_nil))) (@pss_cons _ _ _ _ _ (ps_set (i := 7) scDs.nd rfl (Or.inl rfl) (pe_op op_mod (pe_op op_add (pe_op op_add (pe_op op_mul (pv 7) pe_int) (pe_op op_mul pe_int (pv 4))) pe_int) pe_int)) (@pss_cons _ _ _ _ _ (ps_set (i := 7) scDs.nd rfl (Or.inl rfl) (pe_op op_mod (pe_op op_mul (pv 7) (pv 7)) pe_int)) (@pss_one _ _ _ (ps_expr (pe_bm PySem.F.plainAttrs_list PySem.F.slot_list_append PySem.F.type_list_append mt_append (pv 2) (pa_cons (pe_op op_mod (pe_op op_fdiv (pv 7) pe_int) pe_int) pa_nil)))))))))))))) (@pss_cons _ _ _ _ _ (ps_for PassesOwn.never rfl (pi_range1 rfl B.range (pa_cons (pe_op op_sub (pv 1) (pe_callB call_len_seq rfl B.len PySem.boot_len (pa_cons (pv 2) pa_nil))) pa_nil)) (pg_name (i := 4) scDs.nd rfl (Or.inl rfl)) (@pss_cons _ _ _ _ _ (ps_set (i := 7) scDs.nd rfl (Or.inl rfl) (pe_op op_mod (pe_op op_add (pe_op op_add (pv 3) (pe_op op_mul pe_int (pv 4))) pe_int) pe_int)) (@pss_cons _ _ _ _ _ (ps_set (i := 7) scDs.nd rfl (Or.inl rfl) (pe_op op_mod (pe_op op_mul (pv 7) (pv 7)) pe_int)) (@pss_cons _ _ _ _ _ (ps_set (i := 7) scDs.nd rfl (Or.inl rfl) (pe_op op_mod (pe_op op_add (pe_op op_mul (pv 7) pe_int) (pv 4)) pe_int)) (@pss_one _ _ _ (ps_expr (pe_bm PySem.F.plainAttrs_list PySem.F.slot_list_append PySem.F.type_list_append mt_append (pv 2) (pa_cons (pe_op op_mod (pe_op op_fdiv (pe_op op_mod (pe_op op_mul (pv 7) (pv 7)) pe_int) pe_int) pe_int) pa_nil)))))))) (@pss_one _ _ _ (ps_ret (pv 2))))))), ?_⟩
 refine ⟨(by show 0 ≤ sizeLine; decide), fun l hl => ?_⟩
 have g1 : Same H (upd H l (.lst [])) := Same.new hl _
 have e1 : (upd H l (.lst [])) l = some (.lst (([] : List Int).map V.int)) := upd_same
 generalize upd H l (.lst []) = H1 at g1 e1 ⊢
 refine ⟨_, rfl, 63, rfl, a, _, rfl, g1.seq hS, fun c hc => ?_⟩
 rw [cut63 ns h63]
 have g2 : Same H1 (upd H1 c (.lst (ns.map V.int))) := Same.new hc _
 have ec : (upd H1 c (.lst (ns.map V.int))) c = some (.lst (ns.map V.int)) := upd_same
 have lc : l ≠ c := ne_of_none e1 hc
 have e2 := g2 _ _ e1
 have gA := g1.trans g2
 generalize upd H1 c (.lst (ns.map V.int)) = H2 at g2 ec e2 gA ⊢
 have nml : (ns.map V.int).length = ns.length := List.length_map _
 refine ⟨c, _, rfl, ec, ?_⟩
 refine for_enum (xs := ns.map V.int) (fun i σ H' => ∃ (x4 x5 x6 x7 : Option V) (ds : List Int) (bs : Int), σ = [some (.ref a), some (.int 400), some (.ref l), some (.int bs), x4, x5, x6, x7] ∧ Ex (· = l) H2 H' ∧ H' l = some (.lst (ds.map V.int)) ∧ ds.length ≤ 400 + 2 * i ∧ (∀ x ∈ ds, 0 ≤ x) ∧ 0 ≤ bs ∧ bs < 2147483648)
  ⟨none, none, none, none, [], 7, rfl, Ex.refl, e2, Nat.zero_le _, (fun _ h => nomatch h), by decide, by decide⟩ (fun i σ H' _ ⟨_, _, _, _, _, _, _, ex, _⟩ => ex _ _ (Ne.symm lc) ec) ?_ ?_
 ·rintro i x σ H3 T hx ⟨x4, x5, x6, x7, ds, bs, rfl, ex, el, hlen, hnn, b0, b1⟩ hT
  have hi : i < ns.length := by rw [← nml]; exact (List.getElem?_eq_some_iff.mp hx).1
  rw [List.getElem?_map, List.getElem?_eq_getElem hi] at hx
  cases hx
  have gT : Same H3 (upd H3 T (.tup [.int (i : Int), .int ns[i]])) := Same.new hT _
  have exT := ex.trans (Ex.same gT)
  have elT := gT _ _ el
  have eT : (upd H3 T (.tup [.int (i : Int), .int ns[i]])) T = some (.tup [.int (i : Int), .int ns[i]]) := upd_same
  generalize upd H3 T (.tup [.int (i : Int), .int ns[i]]) = H4 at exT elT eT ⊢
  refine ⟨T, _, rfl, SqT.of eT, rfl, _, _, rfl, _, _, rfl, rfl, ?_⟩
  refine ⟨_, rfl, ns[i], rfl, ?_⟩
  obtain ⟨nu, enu, nu0⟩ : ∃ nu : Int, nu = (if ns[i] < 0 then -ns[i] else ns[i]) ∧ 0 ≤ nu := ⟨_, rfl, by split <;> omega⟩
  rw [← enu]
  refine ⟨_, rfl, _, _, rfl, rfl, .inl ⟨by omega, by omega⟩, _, rfl, _, _, rfl, rfl, _, _, rfl, rfl, (by show (0 : Int) < 2147483629; decide), ?_⟩
  obtain ⟨b2, eb2, b20, b21⟩ : ∃ b2 : Int, b2 = (bs * 31 + nu) % 2147483629 ∧ 0 ≤ b2 ∧ b2 < 2147483648 := ⟨_, rfl, by omega, by omega⟩
  dsimp only [gName, tSeq]
  rw [← eb2]
  have put : ∀ (x6' x7' : Option V) (ds' : List Int) (H' : Hp), Ex (· = l) H2 H' → H' l = some (.lst (ds'.map V.int)) → ds'.length ≤ 400 + 2 * (i + 1) → (∀ x ∈ ds', 0 ≤ x) → ∃ (y4 y5 y6 y7 : Option V) (es : List Int) (cs : Int), [some (V.ref a), some (.int 400), some (.ref l), some (.int b2), some (.int (i : Int)), some (.int ns[i]), x6', x7'] = [some (.ref a), some (.int 400), some (.ref l), some (.int cs), y4, y5, y6, y7] ∧ Ex (· = l) H2 H' ∧ H' l = some (.lst (es.map V.int)) ∧ es.length ≤ 400 + 2 * (i + 1) ∧ (∀ x ∈ es, 0 ≤ x) ∧ 0 ≤ cs ∧ cs < 2147483648 :=
   fun x6' x7' ds' H' h1 h2 h3 h4 => ⟨_, _, _, _, ds', b2, rfl, h1, h2, h3, h4, b20, b21⟩
  refine ⟨_, rfl, _, _, rfl, rfl, ⟨by decide, by decide, by decide⟩, _, _, rfl, rfl, _, rfl, ite2 (fun _ => ?_) (fun _ => ?_)⟩
  ·refine while_by2 (fun σ H' => ∃ (m : Int) (ds' : List Int), σ = [some (.ref a), some (.int 400), some (.ref l), some (.int b2), some (.int (i : Int)), some (.int ns[i]), some (.int m), x7] ∧ 0 ≤ m ∧ Ex (· = l) H2 H' ∧ H' l = some (.lst (ds'.map V.int)) ∧ ds'.length ≤ 400 + 2 * (i + 1) ∧ (∀ x ∈ ds', 0 ≤ x))
    (fun σ _ => slotN 6 σ) ⟨nu, ds, rfl, nu0, exT, elT, by omega, hnn⟩ ?_
   rintro σ H5 ⟨m, ds', rfl, m0, ex5, el5, hl5, hn5⟩
   have dml : (ds'.map V.int).length = ds'.length := List.length_map _
   refine ⟨_, rfl, _, _, rfl, rfl, _, rfl, ite2 (fun c1 => ?_) (fun c1 => ?_)⟩
   ·have m1 : 0 < m := of_decide_eq_true c1
    refine ⟨_, rfl, l, _, rfl, .inl (SqL.of el5), _, rfl, _, _, rfl, rfl, _, rfl, ite2 (fun c2 => ?_) (fun c2 => ?_)⟩
    ·have l300 : ds'.length < 400 := by
      have z := of_decide_eq_true c2
      rw [dml] at z
      omega
     refine next_by (H := H5) (μ := fun σ _ => slotN 6 σ) ?_
     refine ⟨_, rfl, .inl ⟨rfl, _, SqL.of el5⟩, _, rfl, _, _, rfl, rfl, (by show (0 : Int) < 10007; decide), l, _, _, rfl, rfl, el5, small1000 (by rw [dml]; omega), ?_⟩
     refine ⟨_, rfl, _, _, rfl, rfl, ⟨by decide, by decide⟩, ?_⟩
     refine ⟨⟨m / 10007, ds' ++ [m % 10007], rfl, by omega, fun c o hc ho => ?_, by rw [upd_same, List.map_append]; rfl, by rw [List.length_append]; show ds'.length + 1 ≤ _; omega, fun x hx => ?_⟩, ?_⟩
     ·rw [upd_ne hc]
      exact ex5 _ _ hc ho
     ·rcases List.mem_append.mp hx with z | z
      ·exact hn5 x z
      ·rw [List.mem_singleton.mp z]; omega
     ·show (m / 10007).toNat < m.toNat
      omega
    ·exact put _ _ ds' H5 ex5 el5 hl5 hn5
   ·exact iteF (put _ _ ds' H5 ex5 el5 hl5 hn5)
  ·have dml : (ds.map V.int).length = ds.length := List.length_map _
   have hi63 : i < 63 := by omega
   refine ⟨_, rfl, _, _, rfl, rfl, (by show (0 : Int) < 2147483647; decide), _, rfl, _, _, rfl, rfl, _, _, rfl, rfl, _, _, rfl, rfl, .inr ⟨by decide, by decide⟩, _, _, rfl, rfl, (by show (0 : Int) < 2147483647; decide), ?_⟩
   refine ⟨_, rfl, _, rfl, _, _, rfl, rfl, .inl ⟨by omega, by omega⟩, _, _, rfl, rfl, (by show (0 : Int) < 2147483629; decide), ?_⟩
   refine ⟨_, rfl, .inl ⟨rfl, _, SqL.of elT⟩, _, rfl, _, _, rfl, rfl, ⟨by decide, by decide⟩, _, _, rfl, rfl, (by show (0 : Int) < 10007; decide), l, _, _, rfl, rfl, elT, small1000 (by rw [dml]; omega), ?_⟩
   refine ⟨_, rfl, _, _, rfl, rfl, .inr ⟨by decide, by decide⟩, _, rfl, _, _, rfl, rfl, .inl ⟨by decide, by decide⟩, _, _, rfl, rfl, _, _, rfl, rfl, _, _, rfl, rfl, (by show (0 : Int) < 2147483563; decide), ?_⟩
   refine ⟨_, rfl, _, rfl, _, _, rfl, rfl, .inl ⟨by omega, by omega⟩, _, _, rfl, rfl, (by show (0 : Int) < 2147483647; decide), ?_⟩
   refine ⟨_, rfl, .inl ⟨rfl, _, SqL.of upd_same⟩, _, rfl, _, _, rfl, rfl, ⟨by decide, by decide⟩, _, _, rfl, rfl, (by show (0 : Int) < 10007; decide), l, _, _, rfl, rfl, upd_same, small1000 (by rw [List.length_append, dml]; show ds.length + 1 ≤ 1000; omega), ?_⟩
   rw [upd_upd]
   refine put _ _ (ds ++ [?v1] ++ [?v2]) _ (fun c o hc ho => ?ga) ?gb ?gc ?gd
   case gb =>
    rw [upd_same, List.map_append, List.map_append]
    rfl
   case ga =>
    rw [upd_ne hc]
    exact exT _ _ hc ho
   case gc =>
    rw [List.length_append, List.length_append]
    show ds.length + 1 + 1 ≤ _
    omega
   case gd =>
    intro x hx
    rcases List.mem_append.mp hx with z | z
    ·rcases List.mem_append.mp z with z | z
     ·exact hnn x z
     ·rw [List.mem_singleton.mp z]; omega
    ·rw [List.mem_singleton.mp z]; omega
 ·rintro σ H3 ⟨x4, x5, x6, x7, ds, bs, rfl, ex, el, hlen, hnn, b0, b1⟩
  have dml : (ds.map V.int).length = ds.length := List.length_map _
  rw [nml] at hlen
  refine ⟨_, rfl, _, rfl, l, _, rfl, .inl (SqL.of el), _, _, rfl, rfl, _, rfl, by rw [dml]; omega, by rw [dml]; omega, ?_⟩
  rw [dml]
  refine for_range (lo := 0) (n := ((400 : Int) - (ds.length : Int)).toNat) (fun i σ H' => ∃ (y4 y7 : Option V) (es : List Int), σ = [some (.ref a), some (.int 400), some (.ref l), some (.int bs), y4, x5, x6, y7] ∧ Ex (· = l) H2 H' ∧ H' l = some (.lst (es.map V.int)) ∧ es.length = ds.length + i ∧ (∀ x ∈ es, 0 ≤ x))
   ⟨_, _, ds, rfl, ex, el, rfl, hnn⟩ ?_ ?_
  ·rintro i σ H4 hi ⟨y4, y7, es, rfl, ex4, el4, hl4, hn4⟩
   have eml : (es.map V.int).length = es.length := List.length_map _
   rw [Int.zero_add]
   refine ⟨_, rfl, _, rfl, _, _, rfl, rfl, .inl ⟨by decide, by decide⟩, _, _, rfl, rfl, _, _, rfl, rfl, _, _, rfl, rfl, (by show (0 : Int) < 2147483629; decide), ?_⟩
   refine ⟨_, rfl, _, rfl, _, _, rfl, rfl, .inl ⟨by omega, by omega⟩, _, _, rfl, rfl, (by show (0 : Int) < 2147483647; decide), ?_⟩
   refine ⟨_, rfl, _, _, rfl, rfl, .inr ⟨by decide, by decide⟩, _, rfl, _, _, rfl, rfl, _, _, rfl, rfl, (by show (0 : Int) < 2147483563; decide), ?_⟩
   refine ⟨_, rfl, .inl ⟨rfl, _, SqL.of el4⟩, _, rfl, _, rfl, _, _, rfl, rfl, .inl ⟨by omega, by omega⟩, _, _, rfl, rfl, (by show (0 : Int) < 2147483629; decide), _, _, rfl, rfl, ⟨by decide, by decide⟩, _, _, rfl, rfl, (by show (0 : Int) < 10007; decide), l, _, _, rfl, rfl, el4, small1000 (by rw [eml]; omega), ?_⟩
   refine ⟨_, _, es ++ [?w1], rfl, fun c o hc ho => ?ha, ?hb, ?hc, ?hd⟩
   case hb =>
    rw [upd_same, List.map_append]
    rfl
   case ha =>
    rw [upd_ne hc]
    exact ex4 _ _ hc ho
   case hc =>
    rw [List.length_append, hl4]
    show ds.length + i + 1 = _
    omega
   case hd =>
    intro x hx
    rcases List.mem_append.mp hx with z | z
    ·exact hn4 x z
    ·rw [List.mem_singleton.mp z]; omega
  ·rintro σ H4 ⟨y4, y7, es, rfl, ex4, el4, hl4, hn4⟩
   have e300 : 0 < es.length := by omega
   exact ⟨_, rfl, q l es H4 (fun b o hb => ex4 _ _ (ne_of_none hb hl) (gA _ _ hb)) hl el4 e300 (by omega) hn4⟩
end
abbrev sNu : Stmt := top 38
def spNu : Sp := fun vs H Q _ => ∃ (d p : Addr) (many : Int), vs = [.ref d, .int many] ∧ Sto H d p ∧ 1 ≤ many ∧ many ≤ 10 ∧
 ∀ (l : Addr) (ns : List Int) (H' : Hp), Ex (· = d) H H' → Sto H' d p → H l = none → H' l = some (.lst (ns.map V.int)) → Rise ns → (ns.length : Int) = many → (∀ x ∈ ns, x < 2 ^ 95) → Q (.ref l) H'
theorem Sto.stay {H H' : Hp} {d p : Addr} (S : Sto H d p) (h : ∀ b o, (b = d ∨ b = p) → H b = some o → H' b = some o) : Sto H' d p :=
 ⟨let ⟨c, e⟩ := S.at_; ⟨c, h _ _ (.inl rfl) e⟩, let ⟨xs, e, r⟩ := S.pl; ⟨xs, h _ _ (.inr rfl) e, r⟩⟩
theorem Sto.out {H : Hp} {d p x : Addr} (S : Sto H d p) (h : H x = none) : x ≠ d := fun z => by
 obtain ⟨c, e⟩ := S.at_
 rw [z, e] at h
 cases h
theorem exN {d p x : Addr} {H H' : Hp} (S : Sto H' d p) (o : Ex (· = d) H H') (h : H' x = none) : H x = none := by
 cases e : H x with
 | none => rfl
 | some u =>
  have z := o x u (S.out h) e
  rw [h] at z; cases z
theorem rise_by {start step : Int} (h0 : 0 ≤ start) (h1 : 1 ≤ step) (n : Nat) : Rise ((List.range n).map fun k : Nat => start + step * (k : Int)) := by
 refine ⟨List.pairwise_map.mpr (List.pairwise_lt_range.imp fun {a b} h => ?_), fun x hx => ?_⟩
 ·have : step * (a : Int) < step * (b : Int) := Int.mul_lt_mul_of_pos_left (by omega) (by omega)
  omega
 ·obtain ⟨k, _, rfl⟩ := List.mem_map.mp hx
  have : 0 ≤ step * (k : Int) := Int.mul_nonneg (by omega) (by omega)
  omega
def NumsD (H : Hp) (fd : Addr) (n : Nat) : Prop := ∃ (kvs : List (Key × V)) (ks : List Int), H fd = some (.dK kvs) ∧ kvs.map (·.1) = ks.map Sum.inl ∧ ks.Nodup ∧ (∀ x ∈ ks, 0 ≤ x ∧ x < 10 ^ 25 + 100) ∧ ks.length = n
theorem valV_keys {kvs : List (Key × V)} {ks : List Int} (h : kvs.map (·.1) = ks.map Sum.inl) (x : Int) : (valV kvs (Sum.inl x)).isSome = decide (x ∈ ks) := by
 rw [← valV_any]
 have e1 : (kvs.any fun kv => decide (kv.1 = Sum.inl x)) = (kvs.map (·.1)).any fun k => decide (k = Sum.inl x) := by rw [List.any_map]; rfl
 rw [e1, h, List.any_map, Bool.eq_iff_iff, List.any_eq_true, decide_eq_true_iff]
 constructor
 ·rintro ⟨y, hy, e⟩
  have e' : (Sum.inl y : Key) = Sum.inl x := of_decide_eq_true e
  cases e'
  exact hy
 ·intro hx
  exact ⟨x, hx, decide_eq_true rfl⟩
def above (ks : List Int) (x : Int) : Nat := (ks.filter fun y => decide (x ≤ y)).length
theorem above_next {ks : List Int} {x : Int} (h : x ∈ ks) : above ks (x + 1) < above ks x := by
 unfold above
 induction ks with
 | nil => cases h
 | cons y r ih =>
  have mono : ∀ l : List Int, (l.filter fun y => decide (x + 1 ≤ y)).length ≤ (l.filter fun y => decide (x ≤ y)).length := by
   intro l
   induction l with
   | nil => exact Nat.le_refl _
   | cons z q ih2 =>
    rw [List.filter_cons, List.filter_cons]
    by_cases h1 : x + 1 ≤ z
    ·rw [decide_eq_true h1, decide_eq_true (by omega : x ≤ z), if_pos rfl, if_pos rfl, List.length_cons, List.length_cons]
     omega
    ·rw [decide_eq_false h1, if_neg Bool.false_ne_true]
     split
     ·rw [List.length_cons]; omega
     ·exact ih2
  rw [List.filter_cons, List.filter_cons]
  rcases List.mem_cons.mp h with z | z
  ·rw [decide_eq_false (by omega : ¬ x + 1 ≤ y), decide_eq_true (by omega : x ≤ y), if_neg Bool.false_ne_true, if_pos rfl, List.length_cons]
   have := mono r
   omega
  ·have := ih z
   by_cases h1 : x + 1 ≤ y
   ·rw [decide_eq_true h1, decide_eq_true (by omega : x ≤ y), if_pos rfl, if_pos rfl, List.length_cons, List.length_cons]
    omega
   ·rw [decide_eq_false h1, if_neg Bool.false_ne_true]
    split
    ·rw [List.length_cons]; omega
    ·exact this
theorem seq_post {t u : TS} {D : Ends} {σ : L2.St} {H : Hp} (R : L2.St → Hp → Prop) (ht : ∀ N : L2.St → Hp → Prop, (∀ σ' H', R σ' H' → N σ' H') → t { D with nx := N } σ H) (hu : ∀ σ' H', R σ' H' → u D σ' H') : tSeq t u D σ H := ht _ hu
def slotI (i : Nat) (σ : L2.St) : Int := match σ[i]? with
 | some (some (.int v)) => v
 | _ => 0
section
variable {f tk : Addr} {fd tkd : FuncData}
theorem scNu : FnScope ["store", "many", "way", "start", "step", "reach", "found", "k", "number"] ["store", "many"] (defScope sNu) := ⟨rfl, rfl, rfl, by decide +kernel, rfl, by decide +kernel, by decide +kernel⟩
theorem ok_nu (F : Fun K "_law_numbers" "_law_numbers" sNu f fd) (B : Bt3 mg)
  (GT : FnOk P w K mg base CX0 1 tk tkd ["store", "many"] spTk) (bT : Binds K tkd ["store", "many"] []) (kT : Kee K tk) (mT : mg "_law_take" = some (.ref tk)) : FnOk P w K mg base CX0 2 f fd ["store", "many"] spNu := by
 refine F.ok scNu (fun vs H Q E h => ?_) (fun cdv A outer s H vs Q E hr h => ?_)
 ·obtain ⟨d, p, many, rfl, _⟩ := h
  rfl
 obtain ⟨d, p, many, rfl, S0, m1, m10, q⟩ := h
 have hu := hu_of hr
 refine ⟨_, (@pss_cons _ _ _ _ _ (ps_set (i := 2) scNu.nd rfl (Or.inl rfl) (pe_call GT hr rfl mT kT bT .nil pass0 (pa_cons (pv 0) (pa_cons pe_int pa_nil)))) (@pss_cons _ _ _ _ _ (ps_if (pt_cmpR op_eq (pv 2) pe_int (nomark _)) (@pss_one _ _ _ (ps_ret (pe_list_range2 rfl rfl B.range rfl B.list (pa_cons pe_int (pa_cons (pe_op op_add (pv 1) pe_int) pa_nil))))) pss_nil) (@pss_cons _ _ _ _ _ (ps_if (pt_cmpR op_eq (pv 2) pe_int (nomark _)) (@pss_cons _ _ _ _ _ (ps_set (i := 3) scNu.nd rfl (Or.inr rfl) (pe_call GT hr rfl mT kT bT .nil pass0 (pa_cons (pv 0) (pa_cons pe_int pa_nil)))) (@pss_cons _ _ _ _ _ (ps_set (i := 4) scNu.nd rfl (Or.inr rfl) (pe_op op_add pe_int (pe_call GT hr rfl mT kT bT .nil pass0 (pa_cons (pv 0) (pa_cons pe_int pa_nil))))) (@pss_one _ _ _ (ps_ret (pe_comp ["k"] rfl (blk_ok (defScope sNu) ["store", "many", "way", "start", "step", "reach", "found", "k", "number"] rfl rfl (by decide +kernel)) (pi_range1 rfl B.range (pa_cons (pv 1) pa_nil)) (fun pins C fp s3 H3 => ⟨(pg_name (i := 0) (show (blkN ["k"] ["store", "many", "way", "start", "step", "reach", "found", "k", "number"]).Nodup by decide +kernel) rfl (Or.inl rfl)), pif_nil, (pe_op op_add (pv 4) (pe_op op_mul (pv 5) (pv 0)))⟩)))))) pss_nil) (@pss_cons _ _ _ _ _ (ps_set (i := 5) scNu.nd rfl (Or.inl rfl) (pe_ix ix_list (pe_lst (pa_cons pe_int (pa_cons pe_int (pa_cons (pe_op op_mul pe_int (pe_op op_pow pe_int pe_int)) pa_nil)))) (pe_op op_sub (pv 2) pe_int) (fun _ _ => rfl))) (@pss_cons _ _ _ _ _ (ps_set (i := 6) scNu.nd rfl (Or.inl rfl) pe_dnewK) (@pss_cons _ _ _ _ _ (ps_for PassesOwn.never rfl (pi_range1 rfl B.range (pa_cons (pv 1) pa_nil)) (pg_name (i := 7) scNu.nd rfl (Or.inl rfl)) (@pss_cons _ _ _ _ _ (ps_set (i := 8) scNu.nd rfl (Or.inl rfl) (pe_call GT hr rfl mT kT bT .nil pass0 (pa_cons (pv 0) (pa_cons pe_int pa_nil)))) (@pss_cons _ _ _ _ _ (ps_if (pt_cmpR op_gt (pv 5) (pe_op op_pow pe_int pe_int) (nomark _)) (@pss_one _ _ _ (ps_set (i := 8) scNu.nd rfl (Or.inl rfl) (pe_op op_add (pe_op op_mul (pv 8) (pe_op op_pow pe_int pe_int)) (pe_call GT hr rfl mT kT bT .nil pass0 (pa_cons (pv 0) (pa_cons pe_int pa_nil)))))) pss_nil) (@pss_cons _ _ _ _ _ (ps_set (i := 8) scNu.nd rfl (Or.inl rfl) (pe_op op_mod (pv 8) (pv 5))) (@pss_cons _ _ _ _ _ (ps_while PassesOwn.never (pt_cmp (pc_din hu (pv 8) (pv 6))) (@pss_one _ _ _ (ps_set (i := 8) scNu.nd rfl (Or.inl rfl) (pe_op op_add (pv 8) pe_int)))) (@pss_one _ _ _ (ps_dput hu (pv 6) (pv 8) pe_bl rfl))))))) (@pss_one _ _ _ (ps_ret (pe_callB (call_sorted_dict rfl) rfl B.sorted boot_sorted (pa_cons (pv 6) pa_nil)))))))))), ?_⟩
 refine ⟨_, rfl, d, p, 5, rfl, S0, by decide, fun way H1 w0 w1 S1 o1 => ?_⟩
 have E1 : Ex (· = d) H H1 := o1.ex
 refine ⟨_, rfl, rfl, _, rfl, ite2 (fun _ => ?_) (fun c0 => ?_)⟩
 ·refine ⟨_, rfl, _, _, rfl, rfl, _, _, rfl, ⟨by decide, by decide, by omega, by omega⟩, fun a ha => ?_⟩
  rw [uptoN_is]
  have s2 := Same.new ha (.lst ((uptoN many.toNat).map V.int))
  refine q a (uptoN many.toNat) _ (E1.trans (Ex.same s2)) (S1.ex s2) (exN S1 E1 ha) upd_same (uptoN_rise _ (by omega)).1 ?_ fun x hx => ?_
  ·unfold uptoN; rw [List.length_map, List.length_range]; omega
  ·unfold uptoN at hx
   obtain ⟨k, hk, rfl⟩ := List.mem_map.mp hx
   have := List.mem_range.mp hk
   omega
 have way0 : way ≠ 0 := fun z => c0 (by rw [z]; exact decide_eq_true rfl)
 refine ⟨_, rfl, rfl, _, rfl, ite2 (fun _ => ?_) (fun c1 => ?_)⟩
 ·refine ⟨_, rfl, d, p, 20, rfl, S1, by decide, fun start H2 a0 a1 S2 o2 => ?_⟩
  refine ⟨_, rfl, d, p, 4, rfl, S2, by decide, fun st H3 b0 b1 S3 o3 => ⟨_, _, rfl, rfl, ?_⟩⟩
  have E3 : Ex (· = d) H H3 := E1.trans (o2.ex.trans o3.ex)
  refine ⟨_, rfl, many, rfl, by omega, by omega, fun D hD => ?_⟩
  refine turns_range (lo := 0) (n := many.toNat) (σ := [some (.ref d), some (.int many), some (.int way), some (.int start), some (.int (1 + st)), none, none, none, none]) (fun _ => true) (fun k => .int (start + (1 + st) * (k : Int))) hD (by omega) (fun i H' hi g => tells_true) (fun i H' hi _ g P hP => ?_) fun H4 g4 e4 => ?_
  ·have e : start + (1 + st) * (0 + (i : Int)) = start + (1 + st) * (i : Int) := by rw [Int.zero_add]
   rw [← e] at hP
   exact ⟨_, rfl, _, rfl, _, rfl, _, _, rfl, rfl, .inl ⟨by omega, by omega⟩, _, _, rfl, rfl, hP _ Same.rfl'⟩
  refine q D ((List.range many.toNat).map fun k : Nat => start + (1 + st) * (k : Int)) H4 (E3.trans (Ex.same g4)) (S3.ex g4) (exN S3 E3 hD) (by rw [e4, fltT, List.map_map]; rfl) (rise_by a0 (by omega) _) (by rw [List.length_map, List.length_range]; omega) fun x hx => ?_
  obtain ⟨k, hk, rfl⟩ := List.mem_map.mp hx
  have hk' := List.mem_range.mp hk
  have h2 : (1 + st) * (k : Int) ≤ 4 * 10 := Int.mul_le_mul (by omega) (by omega) (by omega) (by omega)
  omega
 have way1 : way ≠ 1 := fun z => c1 (by rw [z]; exact decide_eq_true rfl)
 refine ⟨_, _, rfl, rfl, ⟨by decide, by decide, by decide⟩, _, _, rfl, rfl, .inl ⟨by decide, by decide⟩, (by show 3 ≤ sizeLine; decide), fun l hl => ?_⟩
 obtain ⟨rv, hrv, mrv⟩ := pick_int [16, 1000, 9 * 10 ^ (24 : Int).toNat] (r := way - 2) (by omega) (by show way - 2 < 3; omega)
 refine ⟨_, rfl, _, _, rfl, rfl, l, _, _, _, rfl, rfl, SqL.of upd_same, hrv, ?_⟩
 have rb : 16 ≤ rv ∧ rv ≤ 9000000000000000000000000 := by
  have e : (9 : Int) * 10 ^ (24 : Int).toNat = 9000000000000000000000000 := by decide
  rw [e] at mrv
  simp only [List.mem_cons, List.not_mem_nil, or_false] at mrv
  omega
 have s2 := Same.new hl (.lst [.int 16, .int 1000, .int (9 * 10 ^ (24 : Int).toNat)])
 have S2 := S1.ex s2
 have E2 : Ex (· = d) H (upd H1 l (.lst [.int 16, .int 1000, .int (9 * 10 ^ (24 : Int).toNat)])) := E1.trans (Ex.same s2)
 generalize upd H1 l (.lst [.int 16, .int 1000, .int (9 * 10 ^ (24 : Int).toNat)]) = H2 at S2 E2 ⊢
 refine fun fa hfa => ?_
 have s3 := Same.new hfa (.dK [])
 have S3 := S2.ex s3
 have hfH : H fa = none := exN S2 E2 hfa
 have fd_ne : fa ≠ d := S2.out hfa
 have E3 : Ex (· = d) H (upd H2 fa (.dK [])) := E2.trans (Ex.same s3)
 have e3 : (upd H2 fa (.dK [])) fa = some (.dK []) := upd_same
 generalize upd H2 fa (.dK []) = H3 at S3 E3 e3 ⊢
 refine ⟨_, rfl, many, rfl, by omega, by omega, ?_⟩
 refine for_range (lo := 0) (n := many.toNat) (fun i σ H' => ∃ (x7 x8 : Option V), σ = [some (.ref d), some (.int many), some (.int way), none, none, some (.int rv), some (.ref fa), x7, x8] ∧ Sto H' d p ∧ Ex (fun b => b = d ∨ b = fa) H3 H' ∧ NumsD H' fa i)
  ⟨_, _, rfl, S3, Ex.refl, [], [], e3, rfl, List.nodup_nil, (fun _ h => nomatch h), rfl⟩ ?_ ?_
 ·rintro i σ H4 hi ⟨x7, x8, rfl, S4, E4, N4⟩
  refine ⟨_, rfl, d, p, 10007, rfl, S4, by decide, fun r1 H5 a0 a1 S5 o5 => ?_⟩
  dsimp only [gName]
  refine seq_post (fun σ' H' => ∃ nu : Int, σ' = [some (.ref d), some (.int many), some (.int way), none, none, some (.int rv), some (.ref fa), some (.int (0 + (i : Int))), some (.int nu)] ∧ Sto H' d p ∧ Ex (· = d) H4 H') (fun N hN => ?_) ?_
  ·refine ⟨_, rfl, _, _, rfl, rfl, ⟨by decide, by decide, by decide⟩, _, _, rfl, rfl, _, rfl, ite2 (fun _ => ?_) (fun _ => hN _ _ ⟨r1, rfl, S5, o5.ex⟩)⟩
   refine ⟨_, rfl, _, _, rfl, rfl, ⟨by decide, by decide, by decide⟩, _, _, rfl, rfl, .inl ⟨by omega, by omega⟩, _, rfl, d, p, 7, rfl, S5, by decide, fun r2 H6 b0 b1 S6 o6 => ⟨_, _, rfl, rfl, hN _ _ ⟨_, rfl, S6, o5.ex.trans o6.ex⟩⟩⟩
  rintro σ' H6 ⟨nu, rfl, S6, E6⟩
  refine ⟨_, rfl, _, rfl, _, _, rfl, rfl, (by omega), ?_⟩
  obtain ⟨n0, en0, n00, n01⟩ : ∃ n0 : Int, n0 = nu % rv ∧ 0 ≤ n0 ∧ n0 < rv := ⟨_, rfl, Int.emod_nonneg _ (by omega), Int.emod_lt_of_pos _ (by omega)⟩
  dsimp only [gName, tSeq]
  obtain ⟨kvs, ks, k1, k2, k3, k4, k5⟩ := N4
  have k6 : H6 fa = some (.dK kvs) := E6 _ _ fd_ne k1
  have hkl : kvs.length = ks.length := by have := congrArg List.length k2; simpa using this
  rw [← en0]
  refine while_by2 (fun σ H' => ∃ m : Int, σ = [some (.ref d), some (.int many), some (.int way), none, none, some (.int rv), some (.ref fa), some (.int (0 + (i : Int))), some (.int m)] ∧ H' = H6 ∧ 0 ≤ m ∧ m + (above ks m : Int) ≤ n0 + (ks.length : Int))
   (fun σ _ => above ks (slotI 8 σ)) ⟨n0, rfl, rfl, n00, by unfold above; have := List.length_filter_le (fun y => decide (n0 ≤ y)) ks; omega⟩ ?_
  rintro σ H7 ⟨m, rfl, rfl, m0, mb⟩
  refine ⟨_, rfl, _, rfl, fa, _, rfl, DGet.k (k := Sum.inl m) k6, _, rfl, ?_⟩
  rw [valV_keys k2]
  refine ite2 (fun c => ?_) (fun c => ?_)
  ·have hm : m ∈ ks := of_decide_eq_true c
   have ab := above_next hm
   refine next_by (H := H7) (μ := fun σ _ => above ks (slotI 8 σ)) ⟨_, rfl, _, _, rfl, rfl, ⟨m + 1, rfl, rfl, by omega, by omega⟩, ab⟩
  ·have hm : m ∉ ks := fun z => c (decide_eq_true z)
   refine ⟨_, rfl, _, rfl, fa, _, rfl, DPut.k (k := Sum.inl m) k6 (small1000 (by omega)), ?_⟩
   refine ⟨_, _, rfl, S6.stay fun b o hb e => ?_, ?_, ⟨_, ks ++ [m], upd_same, by rw [putK_keys k2, if_neg hm], ?_, fun x hx => ?_, by rw [List.length_append, k5]; rfl⟩⟩
   ·have hne : b ≠ fa := fun z => by
     rcases hb with y | y
     ·exact fd_ne (z ▸ y)
     ·obtain ⟨xs, hx, h0, _⟩ := S6.pl
      rw [← y, z, k6] at hx
      cases hx
    rw [upd_ne hne]; exact e
   ·exact (E4.trans (E6.wide fun b h => .inl h)).trans (Ex.put _ (.inr rfl))
   ·exact List.nodup_append.mpr ⟨k3, List.nodup_cons.mpr ⟨(fun h => nomatch h), List.nodup_nil⟩, fun a ha b hb e => by rw [List.mem_singleton.mp hb] at e; exact hm (e ▸ ha)⟩
   ·rcases List.mem_append.mp hx with z | z
    ·exact k4 x z
    ·rw [List.mem_singleton.mp z]
     exact ⟨m0, by omega⟩
 ·rintro σ H4 ⟨x7, x8, rfl, S4, E4, kvs, ks, k1, k2, k3, k4, k5⟩
  refine ⟨_, rfl, fa, kvs, ks, rfl, k1, k2, by omega, fun l2 ys hl2 py ly => ?_⟩
  have s5 := Same.new hl2 (.lst (ys.map V.int))
  have EH : Ex (· = d) H H4 := fun c o nc hc => E4 c o (fun z => z.elim nc fun z => by rw [z, hfH] at hc; cases hc) (E3 c o nc hc)
  refine q l2 ys _ (EH.trans (Ex.same s5)) (S4.ex s5) (exN S4 EH hl2) upd_same ⟨strict ly (py.nodup_iff.mpr k3), fun x hx => (k4 x (py.mem_iff.mp hx)).1⟩ (by rw [py.length_eq, k5]; omega) fun x hx => ?_
  have := (k4 x (py.mem_iff.mp hx)).2
  omega
end
abbrev sSp : Stmt := top 39
def spSp : Sp := fun vs H Q _ => ∃ (d p : Addr), vs = [.ref d] ∧ Sto H d p ∧
 ∀ (t a b : Addr) (ns ss : List Int) (H' : Hp), Sto H' d p → Ex (· = d) H H' → H t = none → H a = none → H b = none → a ≠ b → H' t = some (.tup [.ref a, .ref b]) → H' a = some (.lst (ns.map V.int)) → H' b = some (.lst (ss.map V.int)) → PlanOk ns ss → (∀ x ∈ ns, x < 2 ^ 95) → (∀ x ∈ ss, x < 2 ^ 96) → Q (.ref t) H'
theorem Sto.outp {H : Hp} {d p x : Addr} (S : Sto H d p) (h : H x = none) : x ≠ p := fun z => by
 obtain ⟨xs, hx, _⟩ := S.pl
 rw [← z, h] at hx
 cases hx
theorem Sto.off2 {H : Hp} {d p x : Addr} {o : HO} (S : Sto H d p) (h1 : x ≠ d) (h2 : x ≠ p) : Sto (upd H x o) d p := S.stay fun b u hb e => by
 rw [upd_ne (fun z => by rcases hb with y | y; exact h1 (z ▸ y); exact h2 (z ▸ y))]
 exact e
theorem last_int {R : List Int} (h : R ≠ []) : ∃ x, atI (R.map V.int) (-1) = some (.int x) ∧ x ∈ R := by
 refine ⟨R.getLast h, ?_, List.getLast_mem h⟩
 have e : R = R.dropLast ++ [R.getLast h] := (List.dropLast_concat_getLast h).symm
 have e2 : R.map V.int = R.dropLast.map V.int ++ [.int (R.getLast h)] := by
  conv => lhs; rw [e, List.map_append]
  rfl
 rw [e2]
 exact atI_last _ _
section
variable {f tk nu : Addr} {fd tkd nud : FuncData}
theorem scSp : FnScope ["store", "x", "many", "numbers", "left", "row", "sums", "k", "one", "other"] ["store"] (defScope sSp) := ⟨rfl, rfl, rfl, by decide +kernel, rfl, by decide +kernel, by decide +kernel⟩
theorem ok_sp (F : Fun K "_law_plan" "_law_plan" sSp f fd) (B : Bt3 mg)
  (GT : FnOk P w K mg base CX0 2 tk tkd ["store", "many"] spTk) (bT : Binds K tkd ["store", "many"] []) (kT : Kee K tk) (mT : mg "_law_take" = some (.ref tk))
  (GN : FnOk P w K mg base CX0 2 nu nud ["store", "many"] spNu) (bN : Binds K nud ["store", "many"] []) (kN : Kee K nu) (mN : mg "_law_numbers" = some (.ref nu)) : FnOk P w K mg base CX0 3 f fd ["store"] spSp := by
 refine F.ok scSp (fun vs H Q E h => ?_) (fun cdv A outer s H vs Q E hr h => ?_)
 ·obtain ⟨d, p, rfl, _⟩ := h
  rfl
 obtain ⟨d, p, rfl, S0, q⟩ := h
 have hu := hu_of hr
 refine ⟨_, (@pss_cons _ _ _ _ _ (ps_set (i := 1) scSp.nd rfl (Or.inl rfl) (pe_call GT hr rfl mT kT bT .nil pass0 (pa_cons (pv 0) (pa_cons pe_int pa_nil)))) (@pss_cons _ _ _ _ _ (ps_set (i := 2) scSp.nd rfl (Or.inl rfl) (pe_ix ix_list (pe_lst (pa_cons (pe_op op_add pe_int (pe_op op_mod (pv 1) pe_int)) (pa_cons pe_int (pa_cons (pe_op op_add pe_int (pe_op op_mod (pv 1) pe_int)) (pa_cons (pe_op op_add pe_int (pe_op op_mod (pv 1) pe_int)) pa_nil))))) (pe_call GT hr rfl mT kT bT .nil pass0 (pa_cons (pv 0) (pa_cons pe_int pa_nil))) (fun _ _ => rfl))) (@pss_cons _ _ _ _ _ (ps_set (i := 3) scSp.nd rfl (Or.inl rfl) (pe_call GN hr rfl mN kN bN .nil pass0 (pa_cons (pv 0) (pa_cons (pv 2) pa_nil)))) (@pss_cons _ _ _ _ _ (ps_set (i := 4) scSp.nd rfl (Or.inr rfl) (pe_callTy call_list_of rfl B.list PyProof.Rows.boot_list (pa_cons (pv 3) pa_nil))) (@pss_cons _ _ _ _ _ (ps_comp ["one"] rfl (blk_ok (defScope sSp) ["store", "x", "many", "numbers", "left", "row", "sums", "k", "one", "other"] rfl rfl (by decide +kernel)) (pi_list (pv 3)) (fun pins C fp s3 H3 => ⟨(pg_name (i := 0) (show (blkN ["one"] ["store", "x", "many", "numbers", "left", "row", "sums", "k", "one", "other"]).Nodup by decide +kernel) rfl (Or.inl rfl)), pif_nil, (pe_bmK K PySem.F.plainAttrs_list PySem.F.slot_list_pop PySem.F.type_list_pop mt_popAt (pv 5) (pa_cons (pe_call GT hr rfl mT kT bT .nil pass0 (pa_cons (pv 1) (pa_cons (pe_callB (call_len_seqK K) rfl B.len PySem.boot_len (pa_cons (pv 5) pa_nil)) pa_nil))) pa_nil))⟩) (j := 5) scSp.nd rfl (Or.inl rfl) rfl) (@pss_cons _ _ _ _ _ (ps_set (i := 6) scSp.nd rfl (Or.inl rfl) pe_dnewK) (@pss_cons _ _ _ _ _ (ps_if (pt_cmpR op_eq (pe_call GT hr rfl mT kT bT .nil pass0 (pa_cons (pv 0) (pa_cons pe_int pa_nil))) pe_int (nomark _)) (@pss_one _ _ _ (ps_for PassesOwn.never rfl (pi_range2 rfl B.range (pa_cons pe_int (pa_cons (pv 2) pa_nil))) (pg_name (i := 7) scSp.nd rfl (Or.inl rfl)) (@pss_one _ _ _ (ps_dput hu (pv 6) (pe_op op_add (pe_ix ix_list (pv 5) (pe_op op_sub (pv 7) pe_int) (fun _ _ => rfl)) (pe_ix ix_list (pv 5) (pv 7) (fun _ _ => rfl))) pe_bl rfl)))) pss_nil) (@pss_cons _ _ _ _ _ (ps_if (PW.pt (pw_and (pt_cmpR op_eq (pe_call GT hr rfl mT kT bT .nil pass0 (pa_cons (pv 0) (pa_cons pe_int pa_nil))) pe_int (nomark _)) (pw_and1 (pt_cmpR op_gt (pv 2) pe_int (nomark _))))) (@pss_one _ _ _ (ps_dput hu (pv 6) (pe_op op_add (pe_ix ix_list (pv 5) pe_int (fun _ _ => rfl)) (pe_ix ix_list (pv 5) (pe_un un_neg pe_int) (fun _ _ => rfl))) pe_bl rfl)) pss_nil) (@pss_cons _ _ _ _ _ (ps_set (i := 1) scSp.nd rfl (Or.inl rfl) (pe_call GT hr rfl mT kT bT .nil pass0 (pa_cons (pv 0) (pa_cons pe_int pa_nil)))) (@pss_cons _ _ _ _ _ (ps_for PassesOwn.never rfl (pi_range1 rfl B.range (pa_cons (pe_ix ix_list (pe_lst (pa_cons pe_int (pa_cons (pe_op op_mod (pv 1) pe_int) (pa_cons (pe_op op_mod (pv 1) pe_int) pa_nil)))) (pe_call GT hr rfl mT kT bT .nil pass0 (pa_cons (pv 0) (pa_cons pe_int pa_nil))) (fun _ _ => rfl)) pa_nil)) (pg_name (i := 7) scSp.nd rfl (Or.inl rfl)) (@pss_cons _ _ _ _ _ (ps_set (i := 8) scSp.nd rfl (Or.inl rfl) (pe_ix ix_list (pv 3) (pe_call GT hr rfl mT kT bT .nil pass0 (pa_cons (pv 0) (pa_cons (pv 2) pa_nil))) (fun _ _ => rfl))) (@pss_cons _ _ _ _ _ (ps_set (i := 9) scSp.nd rfl (Or.inl rfl) (pe_ix ix_list (pv 3) (pe_call GT hr rfl mT kT bT .nil pass0 (pa_cons (pv 0) (pa_cons (pv 2) pa_nil))) (fun _ _ => rfl))) (@pss_cons _ _ _ _ _ (ps_if (pt_cmpR op_eq (pe_call GT hr rfl mT kT bT .nil pass0 (pa_cons (pv 0) (pa_cons pe_int pa_nil))) pe_int (nomark _)) (@pss_one _ _ _ (ps_set (i := 9) scSp.nd rfl (Or.inl rfl) (pe_call GT hr rfl mT kT bT .nil pass0 (pa_cons (pv 0) (pa_cons pe_int pa_nil))))) pss_nil) (@pss_one _ _ _ (ps_if (pt_cmpR op_lt (pe_callB call_lenD rfl B.len PySem.boot_len (pa_cons (pv 6) pa_nil)) pe_int (nomark _)) (@pss_one _ _ _ (ps_dput hu (pv 6) (pe_op op_add (pv 8) (pv 9)) pe_bl rfl)) pss_nil)))))) (@pss_one _ _ _ (ps_ret (pe_tup (pa_cons (pv 3) (pa_cons (pe_callB (call_sorted_dict rfl) rfl B.sorted boot_sorted (pa_cons (pv 6) pa_nil)) pa_nil))))))))))))))), ?_⟩
 refine ⟨_, rfl, d, p, 10007, rfl, S0, by decide, fun x H1 x0 x1 S1 o1 => ?_⟩
 refine ⟨_, rfl, _, _, rfl, rfl, (by show (0 : Int) < 10; decide), _, _, rfl, rfl, _, rfl, _, _, rfl, rfl, (by show (0 : Int) < 5; decide), _, _, rfl, rfl, _, rfl, _, _, rfl, rfl, (by show (0 : Int) < 5; decide), _, _, rfl, rfl, (by show 4 ≤ sizeLine; decide), fun l hl => ?_⟩
 refine ⟨_, rfl, d, p, 4, rfl, S1.ex (Same.new hl _), by decide, fun r2 H2 a2 b2 S2 o2 => ?_⟩
 obtain ⟨nv, hnv, mnv⟩ := pick_int [1 + x % 10, 10, 1 + x % 5, 6 + x % 5] a2 b2
 refine ⟨l, _, _, _, rfl, rfl, SqL.of ((o2 l (S1.out hl)).trans upd_same), hnv, ?_⟩
 have nb : 1 ≤ nv ∧ nv ≤ 10 := by
  simp only [List.mem_cons, List.not_mem_nil, or_false] at mnv
  omega
 have E2 : Ex (· = d) H H2 := o1.ex.trans ((Ex.new _ hl).trans o2.ex)
 clear o1 o2 hl hnv mnv S1 a2 b2 r2
 refine ⟨_, rfl, _, rfl, d, p, nv, rfl, S2, nb.1, nb.2, fun a ns H3 E3 S3 na ea rise hlen hbd => ?_⟩
 have EH3 : Ex (· = d) H H3 := E2.trans E3
 have naH : H a = none := exN S2 E2 na
 have oa : a ≠ d := S2.out na
 have nlen : ns.length = nv.toNat := by omega
 refine ⟨_, rfl, a, _, rfl, .inl (SqL.of ea), fun lf hlf => ?_⟩
 have olf : lf ≠ d := S3.out hlf
 have olp : lf ≠ p := S3.outp hlf
 have alf : a ≠ lf := ne_of_none ea hlf
 have s4 := Same.new hlf (.lst (ns.map V.int))
 have e4 : upd H3 lf (.lst (ns.map V.int)) lf = some (.lst (ns.map V.int)) := upd_same
 have ea4 := s4 _ _ ea
 have S4 := S3.ex s4
 have E4 : Ex (· = d) H3 (upd H3 lf (.lst (ns.map V.int))) := Ex.same s4
 generalize upd H3 lf (.lst (ns.map V.int)) = H4 at s4 e4 ea4 S4 E4 ⊢
 refine ⟨_, rfl, a, rfl, ⟨_, SqL.of ea4⟩, fun D hD => ?_⟩
 have oD : D ≠ d := S4.out hD
 have oDp : D ≠ p := S4.outp hD
 have lfD : lf ≠ D := ne_of_none e4 hD
 have aD : a ≠ D := ne_of_none ea4 hD
 have nml : (ns.map V.int).length = ns.length := List.length_map _
 refine turns_any (n := ns.length) (fun i σ' H' => ∃ (y : Option V) (rs ls : List Int), σ' = y :: [some (.ref d), some (.int x), some (.int nv), some (.ref a), some (.ref lf), none, none, none, none, none] ∧ Sto H' d p ∧
   Ex (fun b => b = d ∨ b = lf ∨ b = D) H4 H' ∧ H' lf = some (.lst (ls.map V.int)) ∧ H' D = some (.lst (rs.map V.int)) ∧ rs.length = i ∧ (rs ++ ls).Perm ns)
  ⟨none, [], ns, rfl, S4.ex (Same.new hD _), Ex.new _ hD, by rw [upd_ne lfD]; exact e4, upd_same, rfl, List.Perm.refl _⟩ ?_ ?_
 ·rintro i σ' HE hi ⟨y, rs, ls, rfl, SE, EE, lE, dE, hrs, hperm⟩
  have aE : HE a = some (.lst (ns.map V.int)) := EE _ _ (fun z => z.elim oa fun z => z.elim alf aD) ea4
  refine ⟨⟨_, .int ns[i], SqL.of aE, by rw [List.getElem?_map, List.getElem?_eq_getElem hi]; rfl⟩, fun x' H' yl => ?_⟩
  obtain ⟨rfl, _⟩ := yl
  refine comp_true ?_
  have hNl : rs.length + ls.length = ns.length := by
   have := hperm.length_eq
   rw [List.length_append] at this
   exact this
  have hml : (ls.map V.int).length = ls.length := List.length_map _
  refine ⟨_, rfl, .inl ⟨rfl, _, SqL.of lE⟩, _, rfl, _, rfl, lf, _, rfl, .inl (SqL.of lE), d, p, _, rfl, SE, by rw [hml]; omega, fun r HF r0 r1 SF oF => ?_⟩
  rw [hml] at r1
  have lF : HF lf = some (.lst (ls.map V.int)) := (oF lf olf).trans lE
  have dF : HF D = some (.lst (rs.map V.int)) := (oF D oD).trans dE
  have hrn : r.toNat < ls.length := by omega
  obtain ⟨wv, hwv⟩ : ∃ wv, wv = ls[r.toNat] := ⟨_, rfl⟩
  refine ⟨lf, _, r, r.toNat, .int wv, rfl, rfl, lF, by omega, by omega, by rw [hml]; exact seqIndex_of r0 (by omega), by rw [List.getElem?_map, List.getElem?_eq_getElem hrn, hwv]; rfl, ?_⟩
  rw [erase_map V.int ls r.toNat]
  refine ⟨rs.map V.int, by rw [upd_ne (Ne.symm lfD)]; exact dF, ?_, ?_⟩
  ·rw [List.length_map, hrs]; exact small1000 (by omega)
  ·refine ⟨_, rs ++ [wv], ls.eraseIdx r.toNat, rfl, ?_, ?_, ?_, ?_, by rw [List.length_append, List.length_singleton, hrs], ?_⟩
   ·exact (SF.off2 olf olp).off2 oD oDp
   ·exact EE.trans ((oF.ex.wide fun b h => .inl h).trans ((Ex.put _ (.inr (.inl rfl))).trans (Ex.put _ (.inr (.inr rfl)))))
   ·rw [upd_ne lfD, upd_same]
   ·rw [upd_same, List.map_append]; rfl
   ·refine List.Perm.trans ?_ hperm
    rw [List.append_assoc]
    refine List.Perm.append_left rs ?_
    show (wv :: ls.eraseIdx r.toNat).Perm ls
    rw [hwv]
    exact perm_erase hrn
 rintro σ' HE ⟨y, R, ls, rfl, SE, EE, _, dE, hrs, hperm⟩
 have aE : HE a = some (.lst (ns.map V.int)) := EE _ _ (fun z => z.elim oa fun z => z.elim alf aD) ea4
 refine ⟨⟨_, SqL.of aE, by rw [nml]; exact Nat.le_refl _⟩, ?_⟩
 have Rb : ∀ x ∈ R, 0 ≤ x ∧ x < 2 ^ 95 := fun x hx => by
  have hm := (hperm.mem_iff (a := x)).mp (List.mem_append_left _ hx)
  exact ⟨rise.bd x hm, hbd x hm⟩
 have Nb : ∀ x ∈ ns, 0 ≤ x ∧ x < 2 ^ 95 := fun x hm => ⟨rise.bd x hm, hbd x hm⟩
 have E34 : Ex (· = d) H3 HE := fun b o nb' hb => by
  have hbl : b ≠ lf := fun z => by rw [z, hlf] at hb; cases hb
  have h1 := E4 b o nb' hb
  have hbD : b ≠ D := fun z => by rw [z, hD] at h1; cases h1
  exact EE b o (fun z => z.elim nb' fun z => z.elim hbl hbD) h1
 have E9 : Ex (· = d) H HE := EH3.trans E34
 clear hperm EE E4 E34 s4 e4 ea4 lfD olf olp alf hlf
 refine fun sd hsd => ?_
 have oS : sd ≠ d := SE.out hsd
 have oSp : sd ≠ p := SE.outp hsd
 have hsH : H sd = none := exN SE E9 hsd
 have DS : D ≠ sd := ne_of_none dE hsd
 have aS : a ≠ sd := ne_of_none aE hsd
 have s10 := Same.new hsd (.dK [])
 have S10 := SE.ex s10
 have d10 := s10 _ _ dE
 have a10 := s10 _ _ aE
 have E10 : Ex (· = d) H (upd HE sd (.dK [])) := E9.trans (Ex.same s10)
 have so10 : SumsOk (upd HE sd (.dK [])) sd 0 := ⟨[], [], upd_same, rfl, List.nodup_nil, (fun _ h => nomatch h), Nat.le_refl _⟩
 generalize upd HE sd (.dK []) = HS at s10 S10 d10 a10 E10 so10 ⊢
 have exS : ∀ {H' : Hp}, Ex (fun b => b = d ∨ b = sd) HS H' → H' D = some (.lst (R.map V.int)) ∧ H' a = some (.lst (ns.map V.int)) := fun E' => ⟨E' _ _ (fun z => z.elim oD fun z => DS z) d10, E' _ _ (fun z => z.elim oa fun z => aS z) a10⟩
 dsimp only [gName]
 refine seq_post (fun σ' H' => ∃ x7, σ' = [some (.ref d), some (.int x), some (.int nv), some (.ref a), some (.ref lf), some (.ref D), some (.ref sd), x7, none, none] ∧ Sto H' d p ∧ Ex (fun b => b = d ∨ b = sd) HS H' ∧ SumsOk H' sd 9) (fun N hN => ?_) ?_
 ·refine ⟨_, rfl, d, p, 2, rfl, S10, by decide, fun r11 H11 _ _ S11 o11 => ⟨rfl, _, rfl, ?_⟩⟩
  have E11 : Ex (fun b => b = d ∨ b = sd) HS H11 := o11.ex.wide fun b h => .inl h
  have so11 : SumsOk H11 sd 0 := so10.stay fun h => (o11 _ oS).trans h
  refine ite2 (fun _ => ?_) (fun _ => hN _ _ ⟨none, rfl, S11, E11, so11.upto (by omega)⟩)
  refine ⟨_, rfl, 1, nv, rfl, ⟨by decide, by decide, by omega, by omega⟩, ?_⟩
  refine for_range (lo := 1) (n := (nv - 1).toNat) (fun i σ H' => ∃ x7, σ = [some (.ref d), some (.int x), some (.int nv), some (.ref a), some (.ref lf), some (.ref D), some (.ref sd), x7, none, none] ∧ Sto H' d p ∧ Ex (fun b => b = d ∨ b = sd) HS H' ∧ SumsOk H' sd i) ⟨_, rfl, S11, E11, so11⟩ ?_ ?_
  ·rintro i σ H1 hi ⟨x7, rfl, S12, E12, so12⟩
   have d2 := (exS E12).1
   obtain ⟨x1, h1, m1⟩ := pick_int R (r := 1 + (i : Int) - 1) (by omega) (by omega)
   obtain ⟨x2, h2, m2⟩ := pick_int R (r := 1 + (i : Int)) (by omega) (by omega)
   have b1 := Rb x1 m1
   have b2 := Rb x2 m2
   obtain ⟨kvs, e2, len2, so13⟩ := so12.put (x := x1 + x2) (by omega) (by omega)
   exact ⟨_, rfl, _, rfl, _, rfl, _, _, rfl, rfl, D, _, _, _, rfl, rfl, SqL.of d2, h1, _, rfl, _, rfl, D, _, _, _, rfl, rfl, SqL.of d2, h2, _, _, rfl, rfl, sd, _, rfl, DPut.k (k := Sum.inl (x1 + x2)) e2 (small1000 (by omega)), _, rfl, S12.off2 oS oSp, E12.trans (Ex.put _ (.inr rfl)), so13⟩
  ·rintro σ H1 ⟨x7, rfl, S12, E12, so12⟩
   exact hN _ _ ⟨_, rfl, S12, E12, so12.upto (by omega)⟩
 rintro σ' H12 ⟨x7, rfl, S12, E12, so12⟩
 refine seq_post (fun σ' H' => σ' = [some (.ref d), some (.int x), some (.int nv), some (.ref a), some (.ref lf), some (.ref D), some (.ref sd), x7, none, none] ∧ Sto H' d p ∧ Ex (fun b => b = d ∨ b = sd) HS H' ∧ SumsOk H' sd 10) (fun N hN => ?_) ?_
 ·refine ⟨_, rfl, d, p, 4, rfl, S12, by decide, fun r13 H13 _ _ S13 o13 => ⟨rfl, _, rfl, ?_⟩⟩
  have E13 : Ex (fun b => b = d ∨ b = sd) HS H13 := E12.trans (o13.ex.wide fun b h => .inl h)
  have so13 : SumsOk H13 sd 9 := so12.stay fun h => (o13 _ oS).trans h
  refine ite2 (fun _ => ?_) (fun _ => iteF (hN _ _ ⟨rfl, S13, E13, so13.more⟩))
  refine ⟨_, rfl, _, _, rfl, rfl, _, rfl, ite2 (fun _ => ?_) (fun _ => hN _ _ ⟨rfl, S13, E13, so13.more⟩)⟩
  have d2 := (exS E13).1
  have Rne : R ≠ [] := fun z => by rw [z] at hrs; simp at hrs; omega
  obtain ⟨x1, h1, m1⟩ := pick_int R (r := 0) (by omega) (by omega)
  obtain ⟨x2, h2, m2⟩ := last_int Rne
  have b1 := Rb x1 m1
  have b2 := Rb x2 m2
  obtain ⟨kvs, e2, len2, so14⟩ := so13.put (x := x1 + x2) (by omega) (by omega)
  exact ⟨_, rfl, _, rfl, D, _, _, _, rfl, rfl, SqL.of d2, h1, _, rfl, _, rfl, D, _, _, _, rfl, rfl, SqL.of d2, h2, _, _, rfl, rfl, sd, _, rfl, DPut.k (k := Sum.inl (x1 + x2)) e2 (small1000 (by omega)), hN _ _ ⟨rfl, S13.off2 oS oSp, E13.trans (Ex.put _ (.inr rfl)), so14⟩⟩
 rintro σ' H14 ⟨rfl, S14, E14, so14⟩
 refine ⟨_, rfl, d, p, 10007, rfl, S14, by decide, fun z H15 z0 z1 S15 o15 => ?_⟩
 have E15 : Ex (fun b => b = d ∨ b = sd) HS H15 := E14.trans (o15.ex.wide fun b h => .inl h)
 have so15 : SumsOk H15 sd 10 := so14.stay fun h => (o15 _ oS).trans h
 refine ⟨_, rfl, _, _, rfl, rfl, (by show (0 : Int) < 4; decide), _, rfl, _, _, rfl, rfl, (by show (0 : Int) < 11; decide), (by show 3 ≤ sizeLine; decide), fun l hl => ?_⟩
 have s16 := Same.new hl (.lst [.int 0, .int (z % 4), .int (z % 11)])
 refine ⟨_, rfl, d, p, 3, rfl, S15.ex s16, by decide, fun r17 H17 c0 c1 S17 o17 => ?_⟩
 obtain ⟨cv, hcv, mcv⟩ := pick_int [0, z % 4, z % 11] c0 c1
 have cb : 0 ≤ cv ∧ cv ≤ 10 := by
  simp only [List.mem_cons, List.not_mem_nil, or_false] at mcv
  omega
 refine ⟨l, _, _, .int cv, rfl, rfl, SqL.of ((o17 l (S15.out hl)).trans upd_same), hcv, _, rfl, by omega, by omega, ?_⟩
 have E17 : Ex (fun b => b = d ∨ b = sd) HS H17 := E15.trans ((Ex.trans (Ex.same s16) o17.ex).wide fun b h => .inl h)
 have so17 : SumsOk H17 sd 10 := (so15.stay fun h => s16 _ _ h).stay fun h => (o17 _ oS).trans h
 refine for_range (lo := 0) (n := cv.toNat) (fun i σ H' => ∃ (x7 x8 x9 : Option V), σ = [some (.ref d), some (.int z), some (.int nv), some (.ref a), some (.ref lf), some (.ref D), some (.ref sd), x7, x8, x9] ∧ Sto H' d p ∧ Ex (fun b => b = d ∨ b = sd) HS H' ∧ SumsOk H' sd 10)
  ⟨_, _, _, rfl, S17, E17, so17⟩ ?_ ?_
 ·rintro i σ H18 hi ⟨x7, x8, x9, rfl, S18, E18, so18⟩
  refine ⟨_, rfl, _, rfl, _, rfl, d, p, nv, rfl, S18, by omega, fun r1 H19 r10 r11 S19 o19 => ?_⟩
  have E19 : Ex (fun b => b = d ∨ b = sd) HS H19 := E18.trans (o19.ex.wide fun b h => .inl h)
  obtain ⟨x1, h1, m1⟩ := pick_int ns (r := r1) r10 (by omega)
  refine ⟨a, _, _, _, rfl, rfl, SqL.of (exS E19).2, h1, ?_⟩
  refine ⟨_, rfl, _, rfl, _, rfl, d, p, nv, rfl, S19, by omega, fun r2 H20 r20 r21 S20 o20 => ?_⟩
  have E20 : Ex (fun b => b = d ∨ b = sd) HS H20 := E19.trans (o20.ex.wide fun b h => .inl h)
  obtain ⟨x2, h2, m2⟩ := pick_int ns (r := r2) r20 (by omega)
  refine ⟨a, _, _, _, rfl, rfl, SqL.of (exS E20).2, h2, ?_⟩
  have b1 := Nb x1 m1
  have b2 := Nb x2 m2
  have so20 : SumsOk H20 sd 10 := (so18.stay fun h => (o19 _ oS).trans h).stay fun h => (o20 _ oS).trans h
  dsimp only [gName]
  refine seq_post (fun σ' H' => ∃ ov : Int, σ' = [some (.ref d), some (.int z), some (.int nv), some (.ref a), some (.ref lf), some (.ref D), some (.ref sd), some (.int (0 + (i : Int))), some (.int x1), some (.int ov)] ∧ 0 ≤ ov ∧ ov < 2 ^ 95 ∧ Sto H' d p ∧ Ex (fun b => b = d ∨ b = sd) HS H' ∧ SumsOk H' sd 10) (fun N hN => ?_) ?_
  ·refine ⟨_, rfl, d, p, 6, rfl, S20, by decide, fun r3 H21 _ _ S21 o21 => ⟨rfl, _, rfl, ?_⟩⟩
   have E21 : Ex (fun b => b = d ∨ b = sd) HS H21 := E20.trans (o21.ex.wide fun b h => .inl h)
   have so21 : SumsOk H21 sd 10 := so20.stay fun h => (o21 _ oS).trans h
   refine ite2 (fun _ => ?_) (fun _ => hN _ _ ⟨x2, rfl, b2.1, b2.2, S21, E21, so21⟩)
   exact ⟨_, rfl, d, p, 40, rfl, S21, by decide, fun r4 H22 r40 r41 S22 o22 => hN _ _ ⟨r4, rfl, r40, by omega, S22, E21.trans (o22.ex.wide fun b h => .inl h), so21.stay fun h => (o22 _ oS).trans h⟩⟩
  rintro σ' H23 ⟨ov, rfl, v0, v1, S23, E23, so23⟩
  obtain ⟨kvs, ks, k1, k2, k3, k4, k5⟩ := id so23
  have hkl : kvs.length = ks.length := by have := congrArg List.length k2; simpa using this
  refine ⟨_, rfl, sd, kvs, rfl, k1, _, _, rfl, rfl, _, rfl, ite2 (fun c => ?_) (fun _ => ⟨_, _, _, rfl, S23, E23, so23⟩)⟩
  have c' : (kvs.length : Int) < 10 := of_decide_eq_true c
  have so24 : SumsOk H23 sd 9 := ⟨kvs, ks, k1, k2, k3, k4, by omega⟩
  obtain ⟨kvs', e2, len2, so25⟩ := so24.put (x := x1 + ov) (by omega) (by omega)
  exact ⟨_, rfl, _, rfl, _, rfl, _, _, rfl, rfl, sd, _, rfl, DPut.k (k := Sum.inl (x1 + ov)) e2 (small1000 (by omega)), _, _, _, rfl, S23.off2 oS oSp, E23.trans (Ex.put _ (.inr rfl)), so25⟩
 ·rintro σ H18 ⟨x7, x8, x9, rfl, S18, E18, kvs, ks, k1, k2, k3, k4, k5⟩
  refine ⟨_, rfl, _, rfl, sd, kvs, ks, rfl, k1, k2, by omega, fun b ss hb ps ss' => ⟨two_le, fun t ht => ?_⟩⟩
  have sb := Same.new hb (.lst (ss.map V.int))
  have st := Same.new ht (.tup [.ref a, .ref b])
  have a18 := (exS E18).2
  have EH : Ex (· = d) H H18 := fun c o nc hc => E18 c o (fun z => z.elim nc fun z => by rw [z, hsH] at hc; cases hc) (E10 c o nc hc)
  have fr : ∀ x, H18 x = none → H x = none := fun x hx => exN S18 EH hx
  refine q t a b ns ss _ (S18.ex (sb.trans st)) (EH.trans (Ex.same (sb.trans st))) (fr t (none_of_same sb ht)) naH (fr b hb) (ne_of_none a18 hb) upd_same (st _ _ (sb _ _ a18)) (st _ _ upd_same) ⟨rise, ⟨strict ss' (ps.nodup_iff.mpr k3), fun x hx => (k4 x (ps.mem_iff.mp hx)).1⟩, by omega, by omega, by rw [ps.length_eq]; exact k5⟩ (fun x hx => (Nb x hx).2) fun x hx => (k4 x (ps.mem_iff.mp hx)).2
end
structure BtR (mg : Str → Option Value) : Prop extends Bt2 mg where
 repr : mg "repr" = none
abbrev sWhole : Stmt := top 17
abbrev sRise : Stmt := top 19
abbrev sIsP : Stmt := top 20
structure IsPl (H : Hp) (t a b : Addr) (ns ss : List Int) : Prop where
 t : H t = some (.tup [.ref a, .ref b])
 a : H a = some (.lst (ns.map V.int))
 b : H b = some (.lst (ss.map V.int))
 ok : PlanOk ns ss
theorem IsPl.same {H H' : Hp} {t a b : Addr} {ns ss : List Int} (h : IsPl H t a b ns ss) (g : Same H H') : IsPl H' t a b ns ss := ⟨g _ _ h.t, g _ _ h.a, g _ _ h.b, h.ok⟩
def spWholeD : Sp := fun vs H Q _ => ∃ v d, vs = [v] ∧ Dat H v d ∧ Q (.bl (isW d)) H
def spRiseD : Sp := fun vs H Q _ => ∃ v d few, vs = [v, .int few] ∧ Dat H v d ∧ Q (.bl (riseD few d)) H
def spIsPD : Sp := fun vs H Q _ => ∃ v d, vs = [v] ∧ Dat H v d ∧ Q (.bl (planD d)) H
theorem rise_step {ds : List PyData} {i : Nat} {d : PyData} {b : Int} (e : ds[i]? = some d) : riseGo b (ds.drop i) = riseGo b (d :: ds.drop (i + 1)) := by
 obtain ⟨hi, hv⟩ := List.getElem?_eq_some_iff.mp e
 rw [List.drop_eq_getElem_cons hi, hv]
theorem rise_ints : ∀ {xs : List Int} {b : Int}, xs.Pairwise (· < ·) → (∀ x ∈ xs, b < x) → riseGo b (xs.map PyData.int) = true
 | [], _, _, _ => rfl
 | x :: r, b, h, hb => by
  rw [List.pairwise_cons] at h
  show (decide (b < x) && riseGo x (r.map PyData.int)) = true
  rw [decide_eq_true (hb x List.mem_cons_self), rise_ints h.2 h.1]
  rfl
theorem rise_of {xs : List Int} (h : Rise xs) {few : Int} (l1 : few ≤ (xs.length : Int)) (l2 : xs.length ≤ 10) : riseD few (.list (xs.map PyData.int)) = true := by
 show (decide (few ≤ (((xs.map PyData.int).length : Nat) : Int)) && (decide ((xs.map PyData.int).length ≤ 10) && riseGo (-1) (xs.map PyData.int))) = true
 rw [List.length_map, decide_eq_true l1, decide_eq_true l2, rise_ints h.up fun x hx => by have := h.bd x hx; omega]
 rfl
theorem IsPl.dat {H : Hp} {t a b : Addr} {ns ss : List Int} (h : IsPl H t a b ns ss) : ∃ d, Dat H (.ref t) d ∧ planD d = true := by
 refine ⟨_, .tup h.t (.cons (.lst h.a (DatAll.ints ns)) (.cons (.lst h.b (DatAll.ints ss)) .nil)), ?_⟩
 show (riseD 1 (.list (ns.map PyData.int)) && riseD 0 (.list (ss.map PyData.int))) = true
 have n1 := h.ok.n1
 rw [rise_of h.ok.n (by omega) h.ok.n2, rise_of h.ok.s (by omega) h.ok.s2]
 rfl
section
variable {f wh ri : Addr} {fd whd rid : FuncData} {t10 : Tok}
theorem scWhole : FnScope ["thing"] ["thing"] (defScope sWhole) := ⟨rfl, rfl, rfl, by decide +kernel, rfl, by decide +kernel, by decide +kernel⟩
theorem ok_wholeD (F : Fun K "is_whole" "is_whole" sWhole f fd) (B : Bt2 mg) : FnOk P w K mg base CX0 1 f fd ["thing"] spWholeD := by
 refine F.ok scWhole (fun vs H Q E h => ?_) (fun cdv A outer s H vs Q E hr h => ?_)
 ·obtain ⟨v, d, rfl, _⟩ := h
  rfl
 obtain ⟨v, d, rfl, hd, q⟩ := h
 refine ⟨_, (@pss_one _ _ _ (ps_ret (pe_and (pe_callB (call_isi "int") rfl B.isinstance boot_isinstance (pa_cons (pv 0) (pa_cons (pe_bltn (v := .ty "int") rfl B.int PyProof.Rows.boot_int rfl) pa_nil))) (pe_one (pe_not (pe_callB (call_isi "bool") rfl B.isinstance boot_isinstance (pa_cons (pv 0) (pa_cons (pe_bltn (v := .ty "bool") rfl B.bool PyProof.Rows.boot_bool rfl) pa_nil)))))))), ?_⟩
 refine ⟨_, rfl, _, _, isI d, rfl, hd.ty, kit_i _ d, _, rfl, ite2 (fun c => ?_) (fun c => ?_)⟩
 ·refine ⟨_, rfl, _, _, isB d, rfl, hd.ty, kit_b _ d, _, rfl, ?_⟩
  have e : (!isB d) = isW d := by cases d <;> first | rfl | cases c
  rw [← e] at q
  exact q
 ·have e : isW d = false := by cases d <;> first | rfl | exact absurd rfl c
  rw [e] at q
  exact q
theorem scRise : FnScope ["thing", "fewest", "below", "number"] ["thing", "fewest"] (defScope sRise) := ⟨rfl, rfl, rfl, by decide +kernel, rfl, by decide +kernel, by decide +kernel⟩
theorem ok_riseD (F : Fun K "is_rising_list" "is_rising_list" sRise f fd) (B : Bt2 mg) (m10 : mg "MOST" = some (.int 10 t10))
  (GW : FnOk P w K mg base CX0 1 wh whd ["thing"] spWholeD) (bW : Binds K whd ["thing"] []) (kW : Kee K wh) (mW : mg "is_whole" = some (.ref wh)) : FnOk P w K mg base CX0 2 f fd ["thing", "fewest"] spRiseD := by
 refine F.ok scRise (fun vs H Q E h => ?_) (fun cdv A outer s H vs Q E hr h => ?_)
 ·obtain ⟨v, d, few, rfl, _⟩ := h
  rfl
 obtain ⟨v, d, few, rfl, hd, q⟩ := h
 refine ⟨_, (@pss_cons _ _ _ _ _ (ps_if (PW.pt (pw_or (pt_not (pt_val (pe_callB (call_isi "list") rfl B.isinstance boot_isinstance (pa_cons (pv 0) (pa_cons (pe_bltn (v := .ty "list") rfl B.list PyProof.Rows.boot_list rfl) pa_nil))))) (pw_or1 (pt_not (pt_chain op_le op_le (pv 1) (pe_callB call_len_seq rfl B.len PySem.boot_len (pa_cons (pv 0) pa_nil)) (pe_glob (v := .int 10) rfl m10 ⟨_, rfl⟩)))))) (@pss_one _ _ _ (ps_ret pe_bl)) pss_nil) (@pss_cons _ _ _ _ _ (ps_set (i := 2) scRise.nd rfl (Or.inl rfl) (pe_un un_neg pe_int)) (@pss_cons _ _ _ _ _ (ps_for PassesOwn.never rfl (pi_list (pv 0)) (pg_name (i := 3) scRise.nd rfl (Or.inl rfl)) (@pss_cons _ _ _ _ _ (ps_if (PW.pt (pw_or (pt_not (pt_val (pe_call GW hr rfl mW kW bW .nil pass0 (pa_cons (pv 3) pa_nil)))) (pw_or1 (pt_cmpR op_le (pv 3) (pv 2) (nomark _))))) (@pss_one _ _ _ (ps_ret pe_bl)) pss_nil) (@pss_one _ _ _ (ps_set (i := 2) scRise.nd rfl (Or.inl rfl) (pv 3))))) (@pss_one _ _ _ (ps_ret pe_bl))))), ?_⟩
 refine ⟨_, rfl, _, _, isL d, rfl, hd.ty, kit_l _ d, _, rfl, ite2 (fun c => ?_) (fun c => ?_)⟩
 ·have e : riseD few d = false := by cases d <;> first | rfl | cases c
  rw [e] at q
  exact q
 cases hd with
 | lst ha hx =>
  rename_i a xs ds
  have hl := hx.len
  have eq : riseD few (.list ds) = (decide (few ≤ (ds.length : Int)) && (decide (ds.length ≤ 10) && riseGo (-1) ds)) := rfl
  rw [eq] at q
  refine ⟨_, rfl, _, rfl, a, _, rfl, .inl (SqL.of ha), _, _, rfl, rfl, _, rfl, ite2 (fun c1 => ?_) (fun c1 => ?_)⟩
  ·refine ⟨_, _, rfl, rfl, _, rfl, ite2 (fun c2 => ?_) (fun c2 => ?_)⟩
   ·have e : decide (ds.length ≤ 10) = false := by
     have c3 : (!decide (((xs.length : Nat) : Int) ≤ 10)) = true := c2
     rw [Bool.not_eq_true', decide_eq_false_iff_not] at c3
     exact decide_eq_false (by omega)
    rw [e, Bool.false_and, Bool.and_false] at q
    exact q
   ·have e1 : decide (few ≤ (ds.length : Int)) = true := by rw [← hl]; exact c1
    have e2 : decide (ds.length ≤ 10) = true := by
     have c3 : ¬ (!decide (((xs.length : Nat) : Int) ≤ 10)) = true := c2
     rw [Bool.not_eq_true', decide_eq_false_iff_not] at c3
     exact decide_eq_true (by omega)
    rw [e1, e2, Bool.true_and, Bool.true_and] at q
    refine ⟨_, rfl, _, rfl, a, rfl, ⟨_, SqL.of ha⟩, ?_⟩
    refine for_list (xs := xs) (fun i σ H' => ∃ (bl : Int) (y : Option V), σ = [some (.ref a), some (.int few), some (.int bl), y] ∧ H' = H ∧ riseGo bl (ds.drop i) = riseGo (-1) ds)
     ⟨-1, none, rfl, rfl, rfl⟩ (fun i σ H' _ ⟨_, _, _, e, _⟩ => by rw [e]; exact SqL.of ha) ?_ ?_
    ·rintro i x σ H' hxi ⟨bl, y, rfl, rfl, hb⟩
     obtain ⟨d', ed, hd'⟩ := hx.at hxi
     rw [rise_step ed] at hb
     refine ⟨_, rfl, x, d', rfl, hd', _, rfl, ite2 (fun c3 => ?_) (fun c3 => ?_)⟩
     ·have e : riseGo bl (d' :: ds.drop (i + 1)) = false := by cases d' <;> first | rfl | cases c3
      rw [← hb, e] at q
      exact q
     ·cases d' with
      | int n =>
       cases hd'
       refine ⟨_, rfl, _, rfl, _, _, rfl, rfl, _, rfl, ite2 (fun c4 => ?_) (fun c4 => ?_)⟩
       ·have e : riseGo bl (.int n :: ds.drop (i + 1)) = false := by
         have c5 : n ≤ bl := of_decide_eq_true c4
         show (decide (bl < n) && riseGo n (ds.drop (i + 1))) = false
         rw [decide_eq_false (by omega), Bool.false_and]
        rw [← hb, e] at q
        exact q
       ·refine ⟨_, rfl, n, _, rfl, rfl, ?_⟩
        rw [← hb]
        have c5 : ¬ n ≤ bl := fun z => c4 (decide_eq_true z)
        show riseGo n (ds.drop (i + 1)) = (decide (bl < n) && riseGo n (ds.drop (i + 1)))
        rw [decide_eq_true (by omega), Bool.true_and]
      | _ => exact absurd rfl c3
    ·rintro σ H' ⟨bl, y, rfl, rfl, hb⟩
     rw [← hb, hl, List.drop_length] at q
     exact q
  ·have e : decide (few ≤ (ds.length : Int)) = false := by
    rw [← hl]
    exact Bool.eq_false_iff.mpr c1
   rw [e, Bool.false_and] at q
   exact ⟨_, rfl, q⟩
 | _ => exact absurd rfl c
theorem scIsP : FnScope ["thing"] ["thing"] (defScope sIsP) := ⟨rfl, rfl, rfl, by decide +kernel, rfl, by decide +kernel, by decide +kernel⟩
theorem two_of {H : Hp} {xs : List V} {ds : List PyData} (h : DatAll H xs ds) (e : xs.length = 2) : ∃ x y dx dy, xs = [x, y] ∧ ds = [dx, dy] ∧ Dat H x dx ∧ Dat H y dy := by
 cases h with
 | nil => cases e
 | cons h1 h2 =>
  cases h2 with
  | nil => cases e
  | cons h3 h4 =>
   cases h4 with
   | nil => exact ⟨_, _, _, _, rfl, rfl, h1, h3⟩
   | cons _ _ => simp at e
theorem plan_no {ds : List PyData} (e : ds.length ≠ 2) : planD (.tuple ds) = false := by
 match ds with
 | [] => rfl
 | [_] => rfl
 | [_, _] => exact absurd rfl e
 | _ :: _ :: _ :: _ => rfl
theorem ok_isPD (F : Fun K "is_plan" "is_plan" sIsP f fd) (B : Bt2 mg) (GI : FnOk P w K mg base CX0 2 ri rid ["thing", "fewest"] spRiseD) (bI : Binds K rid ["thing", "fewest"] []) (kI : Kee K ri) (mI : mg "is_rising_list" = some (.ref ri)) : FnOk P w K mg base CX0 3 f fd ["thing"] spIsPD := by
 refine F.ok scIsP (fun vs H Q E h => ?_) (fun cdv A outer s H vs Q E hr h => ?_)
 ·obtain ⟨v, d, rfl, _⟩ := h
  rfl
 obtain ⟨v, d, rfl, hd, q⟩ := h
 refine ⟨_, (@pss_cons _ _ _ _ _ (ps_if (PW.pt (pw_or (pt_not (pt_val (pe_callB (call_isi "tuple") rfl B.isinstance boot_isinstance (pa_cons (pv 0) (pa_cons (pe_bltn (v := .ty "tuple") rfl B.tuple PyProof.Rows.boot_tuple rfl) pa_nil))))) (pw_or1 (pt_cmpR op_ne (pe_callB call_len_seq rfl B.len PySem.boot_len (pa_cons (pv 0) pa_nil)) pe_int (nomark _))))) (@pss_one _ _ _ (ps_ret pe_bl)) pss_nil) (@pss_one _ _ _ (ps_ret (pe_and (pe_call GI hr rfl mI kI bI .nil pass0 (pa_cons (pe_ix ix_tup (pv 0) pe_int (fun _ _ => rfl)) (pa_cons pe_int pa_nil))) (pe_one (pe_call GI hr rfl mI kI bI .nil pass0 (pa_cons (pe_ix ix_tup (pv 0) pe_int (fun _ _ => rfl)) (pa_cons pe_int pa_nil)))))))), ?_⟩
 refine ⟨_, rfl, _, _, isT d, rfl, hd.ty, kit_t _ d, _, rfl, ite2 (fun c => ?_) (fun c => ?_)⟩
 ·have e : planD d = false := by cases d <;> first | rfl | cases c
  rw [e] at q
  exact q
 cases hd with
 | tup ha hx =>
  rename_i a xs ds
  have hl := hx.len
  refine ⟨_, rfl, a, _, rfl, .inr (SqT.of ha), rfl, _, rfl, ite2 (fun c1 => ?_) (fun c1 => ?_)⟩
  ·have e : planD (.tuple ds) = false := plan_no fun z => by
    have c2 : (!decide (V.int ((xs.length : Nat) : Int) = V.int 2)) = true := c1
    rw [hl, z] at c2
    exact absurd c2 (by decide)
   rw [e] at q
   exact q
  ·have c2 : ¬ (!decide (V.int ((xs.length : Nat) : Int) = V.int 2)) = true := c1
   rw [Bool.not_eq_true', decide_eq_false_iff_not, Decidable.not_not] at c2
   have c3 := V.int.inj c2
   obtain ⟨x, y, dx, dy, rfl, rfl, h1, h2⟩ := two_of hx (by omega)
   have e : planD (.tuple [dx, dy]) = (riseD 1 dx && riseD 0 dy) := rfl
   rw [e] at q
   refine ⟨_, rfl, a, _, 0, _, rfl, rfl, SqT.of ha, rfl, x, dx, 1, rfl, h1, _, rfl, ite2 (fun c4 => ?_) (fun c4 => ?_)⟩
   ·rw [c4, Bool.true_and] at q
    exact ⟨_, rfl, a, _, 1, _, rfl, rfl, SqT.of ha, rfl, y, dy, 0, rfl, h2, q⟩
   ·rw [Bool.eq_false_iff.mpr c4, Bool.false_and] at q
    exact q
 | _ => exact absurd rfl c
end
structure Bt4 (mg : Str → Option Value) : Prop extends Bt3 mg where
 zip : mg "zip" = none
 sum : mg "sum" = none
abbrev sCkP : Stmt := top 21
abbrev sAdd : Stmt := top 22
abbrev bmV : List Value := [.type "ValueError", .type "Exception", .type "BaseException", .type "object"]
def addUp (ss : List Int) (x y : Int) : Bool := decide (x ≠ y) && ss.contains (x + y)
def spAdd : Sp := fun vs H Q _ => ∃ (t a b : Addr) (ns ss : List Int) (x y : Int), vs = [.ref t, .int x, .int y] ∧ IsPl H t a b ns ss ∧ Q (.bl (addUp ss x y)) H
abbrev sNb : Stmt := top 28
abbrev sLw : Stmt := top 18
abbrev sHo : Stmt := top 29
abbrev sIsR : Stmt := top 30
def nbB (ss : List Int) (zs : List Int) : Bool := (List.range (zs.length - 1)).all fun i => addUp ss (zs.getD i 0) (zs.getD (i + 1) 0)
def rowB (ns ss zs : List Int) : Bool := zs.isPerm ns && nbB ss zs
def spNb : Sp := fun vs H Q _ => ∃ (t a b p : Addr) (ns ss zs : List Int), vs = [.ref t, .ref p] ∧ IsPl H t a b ns ss ∧ H p = some (.lst (zs.map V.int)) ∧ zs.length < 64 ∧ ∀ H', Same H H' → Q (.bl (nbB ss zs)) H'
theorem cut1 (zs : List Int) : cutV (zs.map V.int) (some 1) none = (zs.drop 1).map V.int := by
 unfold cutV
 have h1 : HT.sIx (zs.map V.int).length 0 (some 1) = min 1 zs.length := by
  unfold HT.sIx
  rw [List.length_map]
  simp
 have h2 : HT.sIx (zs.map V.int).length (zs.map V.int).length none = zs.length := by
  unfold HT.sIx
  rw [List.length_map]
 rw [h1, h2]
 cases zs with
 | nil => rfl
 | cons x r =>
  have e : min 1 (x :: r).length = 1 := by rw [List.length_cons]; omega
  rw [e, List.map_cons, List.drop_succ_cons, List.drop_zero, List.drop_succ_cons, List.drop_zero, List.length_cons, Nat.add_sub_cancel, ← List.length_map (f := V.int), List.take_length]
theorem sorted_uniq : ∀ {xs ys : List Int}, xs.Perm ys → xs.Pairwise (· ≤ ·) → ys.Pairwise (· ≤ ·) → xs = ys
 | [], ys, h, _, _ => by rw [List.nil_perm.mp h]
 | x :: xs, ys, h, hx, hy => by
  cases ys with
  | nil => exact absurd h.length_eq (by simp)
  | cons y ys =>
   have hx' := List.pairwise_cons.mp hx
   have hy' := List.pairwise_cons.mp hy
   have e : x = y := by
    have m1 : y ∈ x :: xs := h.mem_iff.mpr List.mem_cons_self
    have m2 : x ∈ y :: ys := h.mem_iff.mp List.mem_cons_self
    rcases List.mem_cons.mp m1 with z | z
    ·exact z.symm
    ·rcases List.mem_cons.mp m2 with z' | z'
     ·exact z'
     ·have := hx'.1 y z
      have := hy'.1 x z'
      omega
   subst e
   rw [sorted_uniq h.cons_inv hx'.2 hy'.2]
theorem sort_is {ns zs ys : List Int} (hn : ns.Pairwise (· < ·)) (hp : ys.Perm zs) (hs : ys.Pairwise (· ≤ ·)) : (ys == ns) = zs.isPerm ns := by
 rw [Bool.eq_iff_iff, beq_iff_eq, List.isPerm_iff]
 constructor
 ·intro e
  rw [← e]
  exact hp.symm
 ·intro h
  exact sorted_uniq (hp.trans h) hs (hn.imp fun h => Int.le_of_lt h)
def intsL : List PyData → Option (List Int)
 | [] => some []
 | .int n :: r => (intsL r).map (n :: ·)
 | _ :: _ => none
def intsD : PyData → Option (List Int)
 | .list ds => intsL ds
 | _ => none
theorem intsL_all : ∀ ds : List PyData, (intsL ds).isSome = ds.all isW
 | [] => rfl
 | .int n :: r => by
  show ((intsL r).map (n :: ·)).isSome = (true && r.all isW)
  rw [Option.isSome_map, intsL_all r, Bool.true_and]
 | .none :: _ => rfl
 | .bool _ :: _ => rfl
 | .str _ :: _ => rfl
 | .list _ :: _ => rfl
 | .tuple _ :: _ => rfl
 | .dict _ :: _ => rfl
theorem intsL_vals {H : Hp} : ∀ {xs : List V} {ds : List PyData} {zs : List Int}, DatAll H xs ds → intsL ds = some zs → xs = zs.map V.int
 | _, _, _, .nil, e => by cases e; rfl
 | _, _, zs, .cons (d := d) (ds := ds) h t, e => by
  cases h with
  | int n =>
   change (intsL ds).map (n :: ·) = some zs at e
   cases hh : intsL ds with
   | none => rw [hh] at e; cases e
   | some ys =>
    rw [hh] at e
    cases e
    rw [intsL_vals t hh]
    rfl
  | _ => cases e
def rowD (ns ss : List Int) (d : PyData) : Bool := match intsD d with
 | some zs => rowB ns ss zs
 | none => false
def holdD (ns : List Int) (d : PyData) : Bool := match intsD d with
 | some zs => zs.isPerm ns
 | none => false
def shortD : PyData → Prop
 | .list ds => ds.length < 64
 | _ => True
def spLwD : Sp := fun vs H Q _ => ∃ v d, vs = [v] ∧ Dat H v d ∧ shortD d ∧ ∀ H', Same H H' → Q (.bl (intsD d).isSome) H'
def spHoD : Sp := fun vs H Q _ => ∃ (t a b : Addr) (ns ss : List Int) (v : V) (d : PyData), vs = [.ref t, v] ∧ IsPl H t a b ns ss ∧ Dat H v d ∧ shortD d ∧ ∀ H', Same H H' → Q (.bl (holdD ns d)) H'
theorem ints_of {H : Hp} {v : V} {d : PyData} {zs : List Int} (h : Dat H v d) (sh : shortD d) (e : intsD d = some zs) : ∃ p, v = .ref p ∧ H p = some (.lst (zs.map V.int)) ∧ zs.length < 64 := by
 cases h with
 | lst ha hx =>
  have e1 := intsL_vals hx e
  have e2 := hx.len
  change _ < 64 at sh
  rw [e1] at ha e2
  refine ⟨_, rfl, ha, ?_⟩
  rw [List.length_map] at e2
  omega
 | _ => cases e
def intsOf : PyData → List Int
 | .list ds => ds.filterMap fun d => match d with | .int n => some n | _ => none
 | _ => []
def numsD : PyData → List Int
 | .tuple [x, _] => intsOf x
 | _ => []
theorem rise_back {H : Hp} : ∀ {xs : List V} {ds : List PyData} {b : Int}, DatAll H xs ds → riseGo b ds = true → ∃ ns : List Int, xs = ns.map V.int ∧ ds = ns.map PyData.int ∧ ns.Pairwise (· < ·) ∧ ∀ x ∈ ns, b < x
 | _, _, _, .nil, _ => ⟨[], rfl, rfl, List.Pairwise.nil, fun x hx => nomatch hx⟩
 | _, _, b, .cons (d := d) (ds := ds) h t, e => by
  cases h with
  | int n =>
   change (decide (b < n) && riseGo n ds) = true at e
   rw [Bool.and_eq_true, decide_eq_true_eq] at e
   obtain ⟨ns, rfl, rfl, up, lo⟩ := rise_back t e.2
   refine ⟨n :: ns, rfl, rfl, List.pairwise_cons.mpr ⟨lo, up⟩, fun x hx => ?_⟩
   rcases List.mem_cons.mp hx with z | z
   ·rw [z]; exact e.1
   ·have := lo x z; omega
  | _ => cases e
theorem riseD_back {H : Hp} {v : V} {d : PyData} {few : Int} (hd : Dat H v d) (e : riseD few d = true) : ∃ (a : Addr) (ns : List Int), v = .ref a ∧ H a = some (.lst (ns.map V.int)) ∧ d = .list (ns.map PyData.int) ∧ Rise ns ∧ few ≤ (ns.length : Int) ∧ ns.length ≤ 10 := by
 cases hd with
 | lst ha hx =>
  rename_i a xs ds
  change (decide (few ≤ (ds.length : Int)) && (decide (ds.length ≤ 10) && riseGo (-1) ds)) = true at e
  rw [Bool.and_eq_true, Bool.and_eq_true, decide_eq_true_eq, decide_eq_true_eq] at e
  obtain ⟨ns, rfl, rfl, up, lo⟩ := rise_back hx e.2.2
  rw [List.length_map] at e
  exact ⟨a, ns, rfl, ha, rfl, ⟨up, fun x hx => by have := lo x hx; omega⟩, e.1, e.2.1⟩
 | _ => cases e
theorem intsOf_ints (ns : List Int) : intsOf (.list (ns.map PyData.int)) = ns := by
 induction ns with
 | nil => rfl
 | cons n r ih => exact congrArg (n :: ·) ih
theorem plan_back {H : Hp} {v : V} {d : PyData} (hd : Dat H v d) (e : planD d = true) : ∃ (t a b : Addr) (ns ss : List Int), v = .ref t ∧ IsPl H t a b ns ss ∧ numsD d = ns := by
 cases hd with
 | tup ht hx =>
  rename_i t xs ds
  match ds, hx, e with
  | [x, y], .cons h1 (.cons h2 .nil), e =>
   change (riseD 1 x && riseD 0 y) = true at e
   rw [Bool.and_eq_true] at e
   obtain ⟨a, ns, rfl, ha, rfl, rn, n1, n2⟩ := riseD_back h1 e.1
   obtain ⟨b, ss, rfl, hb, rfl, rs, s1, s2⟩ := riseD_back h2 e.2
   exact ⟨t, a, b, ns, ss, rfl, ⟨ht, ha, hb, ⟨rn, rs, by omega, n2, s2⟩⟩, intsOf_ints ns⟩
  | [], _, e => cases e
  | [_], _, e => cases e
  | _ :: _ :: _ :: _, _, e => cases e
 | _ => cases e
def spCkX (XP : Addr) : Sp := fun vs H Q E => ∃ v d, vs = [v] ∧ Dat H v d ∧ (planD d = true → Q .non H) ∧ (planD d = false → E (.ref XP) none H)
def spIsRX (XP : Addr) : Sp := fun vs H Q E => ∃ (v0 : V) (d0 : PyData) (v : V) (d : PyData), vs = [v0, v] ∧ Dat H v0 d0 ∧ Dat H v d ∧ shortD d ∧ (planD d0 = true → ∀ (t a b : Addr) (ns ss : List Int), v0 = .ref t → IsPl H t a b ns ss → ∀ H', Same H H' → Q (.bl (rowD ns ss d)) H') ∧ (planD d0 = false → E (.ref XP) none H)
section
variable {f g1 g2 g3 ip XP : Addr} {fd gd1 gd2 gd3 ipd : FuncData} {t3 : Tok}
theorem scCkP : FnScope ["plan"] ["plan"] (defScope sCkP) := ⟨rfl, rfl, rfl, by decide +kernel, rfl, by decide +kernel, by decide +kernel⟩
theorem ok_ckX (F : Fun K "check_plan" "check_plan" sCkP f fd) (eXP : PySem.W.excIn K XP bmV "ValueError.__new__" = true) (mXP : mg "NoPlan" = some (.ref XP))
  (GP : FnOk P w K mg base CX0 3 ip ipd ["thing"] spIsPD) (bP : Binds K ipd ["thing"] []) (kP : Kee K ip) (mP : mg "is_plan" = some (.ref ip)) : FnOk P w K mg base (CX1 P w) 4 f fd ["plan"] (spCkX XP) := by
 refine F.ok1 scCkP (fun vs H Q E h => ?_) (fun cdv A outer s H vs Q E hr h => ?_)
 ·obtain ⟨v, d, rfl, _⟩ := h
  rfl
 obtain ⟨v, d, rfl, hd, q, qe⟩ := h
 refine ⟨_, (@pss_one _ _ _ (ps_if (pt_not (pt_val (pe_call GP hr rfl mP kP bP .nil pass0 (pa_cons (pv 0) pa_nil)))) (@pss_one _ _ _ (ps_raise raises1 rfl PySem.F.excBase_ValueError eXP rfl mXP (pa_cons pe_str pa_nil))) pss_nil)), ?_⟩
 refine ⟨_, rfl, v, d, rfl, hd, _, rfl, ?_⟩
 cases c : planD d with
 | true => exact iteF (q c)
 | false => exact iteT ⟨by decide, qe c⟩
theorem scAdd : FnScope ["plan", "one", "other"] ["plan", "one", "other"] (defScope sAdd) := ⟨rfl, rfl, rfl, by decide +kernel, rfl, by decide +kernel, by decide +kernel⟩
theorem ok_add (F : Fun K "add_up" "add_up" sAdd f fd) : FnOk P w K mg base CX0 1 f fd ["plan", "one", "other"] spAdd := by
 refine F.ok scAdd (fun vs H Q E h => ?_) (fun cdv A outer s H vs Q E hr h => ?_)
 ·obtain ⟨t, a, b, ns, ss, x, y, rfl, _⟩ := h
  rfl
 obtain ⟨t, a, b, ns, ss, x, y, rfl, pl, q⟩ := h
 refine ⟨_, (@pss_one _ _ _ (ps_ret (pe_and (pe_cmpR op_ne (pv 1) (pv 2) (nomark _)) (pe_one (pe_cmpR (op_inI K) (pe_op op_add (pv 1) (pv 2)) (pe_ix ix_tup (pv 0) pe_int (fun _ _ => rfl)) rfl))))), ?_⟩
 have e1 : (!decide (V.int x = V.int y)) = decide (x ≠ y) := by
  rw [← decide_not]
  exact decide_eq_decide.mpr (not_congr ⟨fun h => V.int.inj h, fun h => by rw [h]⟩)
 unfold addUp at q
 refine ⟨_, rfl, _, rfl, rfl, _, rfl, ?_⟩
 rw [e1]
 refine ite2 (fun c => ?_) (fun c => ?_)
 ·rw [c, Bool.true_and] at q
  exact ⟨_, rfl, _, rfl, _, _, rfl, rfl, _, rfl, t, _, 1, _, rfl, rfl, SqT.of pl.t, rfl, b, x + y, ss, rfl, rfl, SqL.of pl.b, q⟩
 ·rw [Bool.eq_false_iff.mpr c, Bool.false_and] at q
  exact q
theorem scNb : FnScope ["plan", "numbers"] ["plan", "numbers"] (defScope sNb) := ⟨rfl, rfl, rfl, by decide +kernel, rfl, by decide +kernel, by decide +kernel⟩
theorem ok_nb (F : Fun K "are_neighbours" "are_neighbours" sNb f fd) (B : Bt4 mg)
  (GA : FnOk P w K mg base CX0 1 g1 gd1 ["plan", "one", "other"] spAdd) (bA : Binds K gd1 ["plan", "one", "other"] []) (kA : Kee K g1) (mA : mg "add_up" = some (.ref g1)) : FnOk P w K mg base CX0 2 f fd ["plan", "numbers"] spNb := by
 refine F.ok scNb (fun vs H Q E h => ?_) (fun cdv A outer s H vs Q E hr h => ?_)
 ·obtain ⟨t, a, b, p, ns, ss, zs, rfl, _⟩ := h
  rfl
 obtain ⟨t, a, b, p, ns, ss, zs, rfl, pl, hp, h64, q⟩ := h
 refine ⟨_, (@pss_one _ _ _ (ps_ret (pe_callB (call_allB rfl) rfl B.all boot_all (pa_cons (pe_comp ["one", "other"] rfl (blk_ok (defScope sNb) ["plan", "numbers"] rfl rfl (by decide +kernel)) (pi_zip rfl B.zip (pa_cons (pv 1) (pa_cons (pe_slice sl_list (pv 1) (po_some pe_int) po_none) pa_nil))) (fun pins C fp s3 H3 => ⟨(pg_tupK (n := 2) K rfl (pgs_cons (pg_name (i := 0) (show (blkN ["one", "other"] ["plan", "numbers"]).Nodup by decide +kernel) rfl (Or.inl rfl)) (pgs_cons (pg_name (i := 1) (show (blkN ["one", "other"] ["plan", "numbers"]).Nodup by decide +kernel) rfl (Or.inl rfl)) pgs_nil))), pif_nil, (pe_call GA hr rfl mA kA bA .nil pass0 (pa_cons (pv 2) (pa_cons (pv 0) (pa_cons (pv 1) pa_nil))))⟩)) pa_nil)))), ?_⟩
 refine ⟨_, rfl, _, rfl, 1, rfl, p, _, rfl, SqL.of hp, fun l2 hl2 => ?_⟩
 rw [cut1]
 have g2 : Same H (upd H l2 (.lst ((zs.drop 1).map V.int))) := Same.new hl2 _
 have e2 : (upd H l2 (.lst ((zs.drop 1).map V.int))) l2 = some (.lst ((zs.drop 1).map V.int)) := upd_same
 generalize upd H l2 (.lst ((zs.drop 1).map V.int)) = H2 at g2 e2 ⊢
 refine ⟨p, l2, _, _, rfl, g2 _ _ hp, e2, fun D hD => ?_⟩
 refine turns_zip (n := zs.length - 1) (σ := [some (.ref t), some (.ref p)]) (xs := zs.map V.int) (ys := (zs.drop 1).map V.int) (fun _ => true) (fun i => .bl (addUp ss (zs.getD i 0) (zs.getD (i + 1) 0))) (g2 _ _ hp) e2 (by rw [List.length_map, List.length_map, List.length_drop]; omega) hD (by omega) (fun i H' hi g P hP => ?_) (fun i H' hi _ g P hP => ?_) fun H3 g3 e3 => ?_
 ·exact hP _ Same.rfl'
 ·have d1 : (zs.map V.int).getD i .non = .int (zs.getD i 0) := getD_map_int _ (by omega)
  have d2 : ((zs.drop 1).map V.int).getD i .non = .int (zs.getD (i + 1) 0) := by
   rw [getD_map_int _ (by rw [List.length_drop]; omega)]
   congr 1
   rw [List.getD_eq_getElem?_getD, List.getD_eq_getElem?_getD, List.getElem?_drop, Nat.add_comm]
  rw [d1, d2]
  exact ⟨_, rfl, _, rfl, _, rfl, t, a, b, ns, ss, _, _, rfl, (pl.same g2).same g, hP _ Same.rfl'⟩
 ·refine ⟨D, (List.range (zs.length - 1)).map fun i => addUp ss (zs.getD i 0) (zs.getD (i + 1) 0), rfl, SqL.of (by rw [e3, fltT, List.map_map]; rfl), ?_⟩
  have e : ((List.range (zs.length - 1)).map fun i => addUp ss (zs.getD i 0) (zs.getD (i + 1) 0)).all id = nbB ss zs := by
   unfold nbB
   rw [List.all_map]
   rfl
  rw [e]
  exact q H3 (g2.trans g3)
theorem scLw : FnScope ["thing"] ["thing"] (defScope sLw) := ⟨rfl, rfl, rfl, by decide +kernel, rfl, by decide +kernel, by decide +kernel⟩
theorem ok_lwD (F : Fun K "is_list_of_wholes" "is_list_of_wholes" sLw f fd) (B : Bt2 mg)
  (GW : FnOk P w K mg base CX0 1 g1 gd1 ["thing"] spWholeD) (bW : Binds K gd1 ["thing"] []) (kW : Kee K g1) (mW : mg "is_whole" = some (.ref g1)) : FnOk P w K mg base CX0 2 f fd ["thing"] spLwD := by
 refine F.ok scLw (fun vs H Q E h => ?_) (fun cdv A outer s H vs Q E hr h => ?_)
 ·obtain ⟨v, d, rfl, _⟩ := h
  rfl
 obtain ⟨v, d, rfl, hd, sh, q⟩ := h
 refine ⟨_, (@pss_one _ _ _ (ps_ret (pe_and (pe_callB (call_isi "list") rfl B.isinstance boot_isinstance (pa_cons (pv 0) (pa_cons (pe_bltn (v := .ty "list") rfl B.list PyProof.Rows.boot_list rfl) pa_nil))) (pe_one (pe_callB (call_allB rfl) rfl B.all boot_all (pa_cons (pe_comp ["number"] rfl (blk_ok (defScope sLw) ["thing"] rfl rfl (by decide +kernel)) (pi_list (pv 0)) (fun pins C fp s3 H3 => ⟨(pg_name (i := 0) (show (blkN ["number"] ["thing"]).Nodup by decide +kernel) rfl (Or.inl rfl)), pif_nil, (pe_call GW hr rfl mW kW bW .nil pass0 (pa_cons (pv 0) pa_nil))⟩)) pa_nil)))))), ?_⟩
 refine ⟨_, rfl, _, _, isL d, rfl, hd.ty, kit_l _ d, _, rfl, ite2 (fun c => ?_) (fun c => ?_)⟩
 ·cases hd with
  | lst ha hx =>
   rename_i p xs ds
   have hl := hx.len
   change ds.length < 64 at sh
   refine ⟨_, rfl, p, rfl, ⟨_, SqL.of ha⟩, fun D hD => ?_⟩
   refine turns_list (σ := [some (.ref p)]) (xs := xs) (fun _ => true) (fun i => .bl (isW (ds.getD i .none))) (SqL.of ha) hD (by omega) (fun i H' hi g P hP => ?_) (fun i H' hi _ g P hP => ?_) fun H2 g2 e2 => ?_
   ·exact hP _ Same.rfl'
   ·have ex : xs[i]? = some (xs.getD i .non) := by rw [List.getD_eq_getElem?_getD, List.getElem?_eq_getElem hi]; rfl
    obtain ⟨d', ed, hd'⟩ := hx.at ex
    have e3 : ds.getD i .none = d' := by rw [List.getD_eq_getElem?_getD, ed]; rfl
    have hP' := hP
    rw [e3] at hP'
    exact ⟨_, rfl, _, d', rfl, hd'.same g, hP' _ Same.rfl'⟩
   refine ⟨D, (List.range ds.length).map fun i => isW (ds.getD i .none), rfl, SqL.of (by rw [e2, fltT, List.map_map, hl]; rfl), ?_⟩
   have et : ((List.range ds.length).map fun i => isW (ds.getD i .none)).all id = (intsD (.list ds)).isSome := by
    show _ = (intsL ds).isSome
    rw [intsL_all, List.all_map, Bool.eq_iff_iff, List.all_eq_true, List.all_eq_true]
    constructor
    ·intro h x hx
     obtain ⟨i, hi, e⟩ := List.mem_iff_getElem.mp hx
     have z := h i (List.mem_range.mpr hi)
     change isW (ds.getD i .none) = true at z
     rw [List.getD_eq_getElem?_getD, List.getElem?_eq_getElem hi, e] at z
     exact z
    ·intro h i hi
     have hi' := List.mem_range.mp hi
     show isW (ds.getD i .none) = true
     rw [List.getD_eq_getElem?_getD, List.getElem?_eq_getElem hi']
     exact h _ (List.getElem_mem hi')
   rw [et]
   exact q _ g2
  | _ => cases c
 ·have e : (intsD d).isSome = false := by cases d <;> first | rfl | exact absurd rfl c
  rw [e] at q
  exact q _ Same.rfl'
theorem scHo : FnScope ["plan", "thing"] ["plan", "thing"] (defScope sHo) := ⟨rfl, rfl, rfl, by decide +kernel, rfl, by decide +kernel, by decide +kernel⟩
theorem ok_hoD (F : Fun K "holds_all" "holds_all" sHo f fd) (B : Bt2 mg)
  (GL : FnOk P w K mg base CX0 2 g1 gd1 ["thing"] spLwD) (bL : Binds K gd1 ["thing"] []) (kL : Kee K g1) (mL : mg "is_list_of_wholes" = some (.ref g1)) : FnOk P w K mg base CX0 3 f fd ["plan", "thing"] spHoD := by
 refine F.ok scHo (fun vs H Q E h => ?_) (fun cdv A outer s H vs Q E hr h => ?_)
 ·obtain ⟨t, a, b, ns, ss, v, d, rfl, _⟩ := h
  rfl
 obtain ⟨t, a, b, ns, ss, v, d, rfl, pl, hd, sh, q⟩ := h
 refine ⟨_, (@pss_one _ _ _ (ps_ret (pe_and (pe_call GL hr rfl mL kL bL .nil pass0 (pa_cons (pv 1) pa_nil)) (pe_one (pe_cmpR (op_eqD hr.units) (pe_callB call_sorted rfl B.sorted boot_sorted (pa_cons (pv 1) pa_nil)) (pe_ix ix_tup (pv 0) pe_int (fun _ _ => rfl)) (nomark _)))))), ?_⟩
 refine ⟨_, rfl, v, d, rfl, hd, sh, fun H2 g2 => ⟨_, rfl, ite2 (fun c => ?_) (fun c => ?_)⟩⟩
 ·obtain ⟨zs, ez⟩ := Option.isSome_iff_exists.mp c
  obtain ⟨p, rfl, hp, h64⟩ := ints_of hd sh ez
  have eh : holdD ns d = zs.isPerm ns := by unfold holdD; rw [ez]
  rw [eh] at q
  refine ⟨_, rfl, p, zs, rfl, SqL.of (g2 _ _ hp), h64, fun l ys hl hperm hle => ?_⟩
  have g3 : Same H2 (upd H2 l (.lst (ys.map V.int))) := Same.new hl _
  have px := (pl.same g2).same g3
  refine ⟨_, rfl, t, _, 0, _, rfl, rfl, SqT.of px.t, rfl, _, rcv_ints (SqL.of upd_same) (SqL.of px.a), ?_⟩
  rw [sort_is pl.ok.n.up hperm hle]
  exact q _ (g2.trans g3)
 ·have e : holdD ns d = false := by
   unfold holdD
   cases hh : intsD d with
   | none => rfl
   | some zs => rw [hh] at c; exact absurd rfl c
  rw [e] at q
  exact q _ g2
theorem scIsR : FnScope ["plan", "thing"] ["plan", "thing"] (defScope sIsR) := ⟨rfl, rfl, rfl, by decide +kernel, rfl, by decide +kernel, by decide +kernel⟩
theorem ok_isRX (F : Fun K "is_row" "is_row" sIsR f fd)
  (GC : FnOk P w K mg base (CX1 P w) 4 g1 gd1 ["plan"] (spCkX XP)) (bC : Binds K gd1 ["plan"] []) (kC : Kee K g1) (mC : mg "check_plan" = some (.ref g1))
  (GH : FnOk P w K mg base CX0 4 g2 gd2 ["plan", "thing"] spHoD) (bH : Binds K gd2 ["plan", "thing"] []) (kH : Kee K g2) (mH : mg "holds_all" = some (.ref g2))
  (GN : FnOk P w K mg base CX0 4 g3 gd3 ["plan", "numbers"] spNb) (bN : Binds K gd3 ["plan", "numbers"] []) (kN : Kee K g3) (mN : mg "are_neighbours" = some (.ref g3)) : FnOk P w K mg base (CX1 P w) 5 f fd ["plan", "thing"] (spIsRX XP) := by
 refine F.ok1 scIsR (fun vs H Q E h => ?_) (fun cdv A outer s H vs Q E hr h => ?_)
 ·obtain ⟨v0, d0, v, d, rfl, _⟩ := h
  rfl
 obtain ⟨v0, d0, v, d, rfl, hd0, hd, sh, q, qe⟩ := h
 refine ⟨_, (@pss_cons _ _ _ _ _ (ps_expr (pe_call GC hr rfl mC kC bC .nil pass1 (pa_cons (pv 0) pa_nil))) (@pss_one _ _ _ (ps_ret (pe_and (pe_call GH hr rfl mH kH bH .nil pass0 (pa_cons (pv 0) (pa_cons (pv 1) pa_nil))) (pe_one (pe_call GN hr rfl mN kN bN .nil pass0 (pa_cons (pv 0) (pa_cons (pv 1) pa_nil)))))))), ?_⟩
 refine ⟨_, rfl, v0, d0, rfl, hd0, fun c0 => ?_, qe⟩
 obtain ⟨t, a, b, ns, ss, rfl, pl, _⟩ := plan_back hd0 c0
 have q := q c0 t a b ns ss rfl pl
 refine ⟨_, rfl, _, rfl, t, a, b, ns, ss, v, d, rfl, pl, hd, sh, fun H1 g1 => ⟨_, rfl, ite2 (fun c => ?_) (fun c => ?_)⟩⟩
 ·unfold holdD at c
  cases ez : intsD d with
  | none => rw [ez] at c; cases c
  | some zs =>
   rw [ez] at c
   change zs.isPerm ns = true at c
   obtain ⟨p, rfl, hp, h64⟩ := ints_of hd sh ez
   refine ⟨_, rfl, _, rfl, t, a, b, p, ns, ss, zs, rfl, pl.same g1, g1 _ _ hp, h64, fun H2 g2 => ?_⟩
   have e : rowD ns ss d = nbB ss zs := by
    unfold rowD
    rw [ez]
    show rowB ns ss zs = _
    unfold rowB
    rw [c]
    rfl
   rw [← e]
   exact q _ (g1.trans g2)
 ·have e : rowD ns ss d = false := by
   unfold rowD
   unfold holdD at c
   cases ez : intsD d with
   | none => rfl
   | some zs =>
    rw [ez] at c
    change ¬ zs.isPerm ns = true at c
    show rowB ns ss zs = false
    unfold rowB
    rw [Bool.eq_false_iff.mpr c]
    rfl
  rw [e] at q
  exact q _ g1
end
def cnt (m : Nat) : Nat := ((List.range 10).filter fun k => m.testBit k).length
theorem cnt_dec : ∀ m < 1024, ∀ k < 10, m.testBit k = true → cnt (m - 2 ^ k) + 1 = cnt m ∧ m - 2 ^ k < m ∧ (m - 2 ^ k).testBit k = false := by decide +kernel
theorem cnt_zero : ∀ m < 1024, cnt m = 0 → m = 0 := by decide +kernel
theorem cnt_le : ∀ m < 1024, cnt m ≤ 10 := by decide +kernel
theorem bit_lt {n m k : Nat} (h : m < 2 ^ n) (hb : m.testBit k = true) : k < n := by
 rcases Nat.lt_or_ge k n with z | z
 ·exact z
 ·rw [Nat.testBit_lt_two_pow (Nat.lt_of_lt_of_le h (Nat.pow_le_pow_right (by decide) z))] at hb
  cases hb
theorem whole_bit {n k : Nat} (h : k < n) : (2 ^ n - 1).testBit k = true := by rw [Nat.testBit_two_pow_sub_one]; exact decide_eq_true h
theorem pow_le : ∀ n < 11, 2 ^ n ≤ 1024 := by decide +kernel
theorem bits_and : ∀ m < 1024, ∀ k < 10, ((m &&& 2 ^ k) != 0) = m.testBit k := by decide +kernel
section
variable (near : Nat → List Nat) (ends : Nat → Bool)
structure NearOk (n : Nat) : Prop where
 n10 : n ≤ 10
 lt : ∀ e ≤ n, ∀ k ∈ near e, k < n
 up : ∀ e ≤ n, (near e).Pairwise (· < ·)
variable {near ends}
end
theorem pigeon : ∀ (N : Nat) (l : List Nat), l.Nodup → (∀ x ∈ l, x < N) → l.length ≤ N
 | 0, l, _, h => by
  cases l with
  | nil => exact Nat.le_refl _
  | cons a r => exact absurd (h a List.mem_cons_self) (Nat.not_lt_zero _)
 | N + 1, l, nd, h => by
  by_cases hm : N ∈ l
  ·have h1 := pigeon N (l.erase N) (nd.erase N) fun x hx => by
    have hx' := (List.Nodup.mem_erase_iff nd).mp hx
    have := h x hx'.2
    have hne := hx'.1
    omega
   rw [List.length_erase_of_mem hm] at h1
   omega
  ·have h1 := pigeon N l nd fun x hx => by
    have := h x hx
    have hne : x ≠ N := fun e => hm (e ▸ hx)
    omega
   omega
abbrev sNear : Stmt := top 25
abbrev sIni0 : Stmt := inClass (top 26) 0
abbrev sSteps : Stmt := inClass (top 26) 1
def iv (l : List Nat) : List Int := l.map fun k : Nat => (k : Int)
theorem iv_len (l : List Nat) : (iv l).length = l.length := List.length_map _
theorem iv_V (l : List Nat) : (iv l).map V.int = l.map fun k : Nat => V.int (k : Int) := List.map_map
theorem iv_contains (l : List Nat) (e : Nat) : (iv l).contains (e : Int) = l.contains e := by
 rw [Bool.eq_iff_iff, List.contains_iff_mem, List.contains_iff_mem]
 unfold iv
 rw [List.mem_map]
 constructor
 ·rintro ⟨k, hk, h⟩
  have h' : k = e := by omega
  exact h' ▸ hk
 ·exact fun h => ⟨e, h, rfl⟩
def nearP (ns ss : List Int) (x : Int) : List Nat := (List.range ns.length).filter fun k => addUp ss x (ns.getD k 0)
def nearX (ns ss : List Int) (fs : List Nat) (e : Nat) : List Nat := if e < ns.length then nearP ns ss (ns.getD e 0) else fs
def spNear : Sp := fun vs H Q _ => ∃ (t a b : Addr) (ns ss : List Int) (x : Int), vs = [.ref t, .int x] ∧ IsPl H t a b ns ss ∧ ∀ (l : Addr) (H' : Hp), Same H H' → H l = none → H' l = some (.lst ((iv (nearP ns ss x)).map V.int)) → Q (.ref l) H'
def NearAt (H : Hp) (nr : Addr) (n : Nat) (near : Nat → List Nat) : Prop := ∃ rs : List Addr, rs.length = n + 1 ∧ H nr = some (.lst (rs.map V.ref)) ∧ ∀ e ≤ n, ∃ r, rs[e]? = some r ∧ H r = some (.lst ((iv (near e)).map V.int))
structure SrT (K : PySem.W.Frag) (C : Addr) : Prop where
 cl : Cls K C
 nA : NoAttr K C "ahead"
 nN : NoAttr K C "near"
 nW : NoAttr K C "whole"
def fs0 (n : Nat) (nr : Addr) : List (Str × V) := [("ahead", .int n), ("near", .ref nr), ("whole", .int ((2 ^ n - 1 : Nat) : Int))]
def spIni0 (C : Addr) : Sp := fun vs H Q _ => ∃ (s t a b fp dx : Addr) (ns ss : List Int) (fs : List Nat), vs = [.ref s, .ref t, .ref fp] ∧ H s = some (.ins C dx []) ∧ IsPl H t a b ns ss ∧ H fp = some (.lst ((iv fs).map V.int)) ∧
 ∀ (nr : Addr) (H' : Hp), Ex (· = s) H H' → H' s = some (.ins C dx (fs0 ns.length nr)) → NearAt H' nr ns.length (nearX ns ss fs) → Q .non H'
def spSteps (C : Addr) : Sp := fun vs H Q _ => ∃ (s dx nr : Addr) (fs : List (Str × V)) (n : Nat) (near : Nat → List Nat) (left e : Nat), vs = [.ref s, .int left, .int e] ∧ H s = some (.ins C dx fs) ∧ fs.lookup ("near" : Str) = some (.ref nr) ∧ NearAt H nr n near ∧ NearOk near n ∧ e ≤ n ∧ left < 1024 ∧
 ∀ (l : Addr) (H' : Hp), Same H H' → H l = none → H' l = some (.lst ((iv ((near e).filter fun k => left.testBit k)).map V.int)) → Q (.ref l) H'
theorem near_ok {ns ss : List Int} {fs : List Nat} (ok : PlanOk ns ss) (h1 : ∀ k ∈ fs, k < ns.length) (h2 : fs.Pairwise (· < ·)) : NearOk (nearX ns ss fs) ns.length where
 n10 := ok.n2
 lt := fun e _ k hk => by
  unfold nearX at hk
  split at hk
  ·exact List.mem_range.mp (List.mem_filter.mp hk).1
  ·exact h1 k hk
 up := fun e _ => by
  unfold nearX
  split
  ·exact List.Pairwise.filter _ List.pairwise_lt_range
  ·exact h2
theorem near_len {near : Nat → List Nat} {n e : Nat} (N : NearOk near n) (he : e ≤ n) : (near e).length ≤ n :=
 pigeon n _ ((N.up e he).imp fun h => Nat.ne_of_lt h) (N.lt e he)
theorem bit_V (left k : Nat) (h : left < 1024) (hk : k < 10) : (Builtin.bitAnd (left : Int) (1 * 2 ^ ((k : Int)).toNat) != 0) = left.testBit k := by
 have e : (1 * 2 ^ ((k : Int)).toNat : Int) = ((2 ^ k : Nat) : Int) := by rw [Int.one_mul, Int.toNat_natCast]; simp
 rw [e, ← bits_and left h k hk]
 unfold Builtin.bitAnd
 simp only [Int.natCast_nonneg, decide_true, Int.toNat_natCast]
 rw [Bool.eq_iff_iff]
 simp only [bne_iff_ne, ne_eq]
 exact not_congr (by omega)
theorem sub_V (left k : Nat) (h : 2 ^ k ≤ left) : ((left : Int) - 1 * 2 ^ ((k : Int)).toNat) = ((left - 2 ^ k : Nat) : Int) := by
 have e : (1 * 2 ^ ((k : Int)).toNat : Int) = ((2 ^ k : Nat) : Int) := by rw [Int.one_mul, Int.toNat_natCast]; simp
 rw [e]; omega
theorem bit_le {left k : Nat} (h : left.testBit k = true) : 2 ^ k ≤ left := Nat.ge_two_pow_of_testBit h
theorem nat_at {l : List Nat} {i k : Nat} (h : l[i]? = some k) : ((iv l).map V.int)[i]? = some (.int (k : Int)) := by rw [iv_V, List.getElem?_map, h]; rfl
section
variable {f ad nf C : Addr} {fd add nfd : FuncData}
theorem scNear : FnScope ["plan", "number"] ["plan", "number"] (defScope sNear) := ⟨rfl, rfl, rfl, by decide +kernel, rfl, by decide +kernel, by decide +kernel⟩
theorem ok_near (F : Fun K "near_places" "near_places" sNear f fd) (B : Bt3 mg)
  (GA : FnOk P w K mg base CX0 1 ad add ["plan", "one", "other"] spAdd) (bA : Binds K add ["plan", "one", "other"] []) (kA : Kee K ad) (mA : mg "add_up" = some (.ref ad)) : FnOk P w K mg base CX0 2 f fd ["plan", "number"] spNear := by
 refine F.ok scNear (fun vs H Q E h => ?_) (fun cdv A outer s H vs Q E hr h => ?_)
 ·obtain ⟨t, a, b, ns, ss, x, rfl, _⟩ := h
  rfl
 obtain ⟨t, a, b, ns, ss, x, rfl, pl, q⟩ := h
 refine ⟨_, (@pss_one _ _ _ (ps_ret (pe_comp ["place", "other"] rfl (blk_ok (defScope sNear) ["plan", "number"] rfl rfl (by decide +kernel)) (pi_enum rfl B.enumerate (pa_cons (pe_ix ix_tup (pv 0) pe_int (fun _ _ => rfl)) pa_nil)) (fun pins C fp s3 H3 => ⟨(pg_tupK (n := 2) K rfl (pgs_cons (pg_name (i := 0) (show (blkN ["place", "other"] ["plan", "number"]).Nodup by decide +kernel) rfl (Or.inl rfl)) (pgs_cons (pg_name (i := 1) (show (blkN ["place", "other"] ["plan", "number"]).Nodup by decide +kernel) rfl (Or.inl rfl)) pgs_nil))), (pif_one (pt_val (pe_call GA hr rfl mA kA bA .nil pass0 (pa_cons (pv 2) (pa_cons (pv 3) (pa_cons (pv 1) pa_nil)))))), (pv 0)⟩)))), ?_⟩
 have n2 := pl.ok.n2
 have hml : (ns.map V.int).length = ns.length := List.length_map _
 refine ⟨_, rfl, t, _, 0, _, rfl, rfl, SqT.of pl.t, rfl, a, _, rfl, pl.a, fun D hD => ?_⟩
 refine turns_enum (σ := [some (.ref t), some (.int x)]) (xs := ns.map V.int) (fun i => addUp ss x (ns.getD i 0)) (fun i => .int (i : Int)) pl.a hD (by omega) (fun i H' hi g P hP => ?_) (fun i H' hi _ g P hP => ?_) fun H2 g2 e2 => ?_
 ·rw [getD_map_int _ (by rw [hml] at hi; exact hi)]
  exact ⟨_, rfl, _, rfl, _, rfl, t, a, b, ns, ss, x, _, rfl, pl.same g, _, rfl, hP _ Same.rfl'⟩
 ·exact ⟨_, rfl, hP _ Same.rfl'⟩
 ·refine q D H2 g2 hD ?_
  rw [e2, hml, iv_V]
  rfl
theorem scIni0 : FnScope ["self", "plan", "first_places"] ["self", "plan", "first_places"] (defScope sIni0) := ⟨rfl, rfl, rfl, by decide +kernel, rfl, by decide +kernel, by decide +kernel⟩
theorem ok_ini0 (F : Fun K "__init__" "Steps.__init__" sIni0 f fd) (B : Bt3 mg) (T : SrT K C)
  (GN : FnOk P w K mg base CX0 2 nf nfd ["plan", "number"] spNear) (bN : Binds K nfd ["plan", "number"] []) (kN : Kee K nf) (mN : mg "near_places" = some (.ref nf)) : FnOk P w K mg base CX0 3 f fd ["self", "plan", "first_places"] (spIni0 C) := by
 refine F.ok scIni0 (fun vs H Q E h => ?_) (fun cdv A outer s H vs Q E hr h => ?_)
 ·obtain ⟨s, t, a, b, fp, dx, ns, ss, fs, rfl, _⟩ := h
  rfl
 obtain ⟨s, t, a, b, fp, dx, ns, ss, fs, rfl, hs, pl, hfp, q⟩ := h
 refine ⟨_, (@pss_cons _ _ _ _ _ (ps_fld (pv 0) (pe_callB call_len_seq rfl B.len PySem.boot_len (pa_cons (pe_ix ix_tup (pv 1) pe_int (fun _ _ => rfl)) pa_nil)) rfl) (@pss_cons _ _ _ _ _ (ps_fld (pv 0) (pe_op op_cat (pe_comp ["number"] rfl (blk_ok (defScope sIni0) ["self", "plan", "first_places"] rfl rfl (by decide +kernel)) (pi_list (pe_ix ix_tup (pv 1) pe_int (fun _ _ => rfl))) (fun pins C fp s3 H3 => ⟨(pg_name (i := 0) (show (blkN ["number"] ["self", "plan", "first_places"]).Nodup by decide +kernel) rfl (Or.inl rfl)), pif_nil, (pe_call GN hr rfl mN kN bN .nil pass0 (pa_cons (pv 2) (pa_cons (pv 0) pa_nil)))⟩)) (pe_lst (pa_cons (pe_callTy call_list_of rfl B.list PyProof.Rows.boot_list (pa_cons (pv 2) pa_nil)) pa_nil))) rfl) (@pss_one _ _ _ (ps_fld (pv 0) (pe_op op_sub (pe_op op_shl pe_int (pe_fld (pv 0) rfl)) pe_int) rfl)))), ?_⟩
 have n2 := pl.ok.n2
 have hml : (ns.map V.int).length = ns.length := List.length_map _
 refine ⟨_, rfl, t, _, 0, _, rfl, rfl, SqT.of pl.t, rfl, a, _, rfl, .inl (SqL.of pl.a), _, rfl, s, C, dx, _, rfl, hs, T.cl, T.nA, (by show 0 < 1000; decide), ?_⟩
 rw [hml]
 have ts : t ≠ s := ne_of pl.t hs (by intro z; cases z)
 have as : a ≠ s := ne_of pl.a hs (by intro z; cases z)
 have bs : b ≠ s := ne_of pl.b hs (by intro z; cases z)
 have fps : fp ≠ s := ne_of hfp hs (by intro z; cases z)
 have pl1 : IsPl (upd H s (.ins C dx (putF "ahead" (.int (ns.length : Int)) []))) t a b ns ss := ⟨by rw [upd_ne ts]; exact pl.t, by rw [upd_ne as]; exact pl.a, by rw [upd_ne bs]; exact pl.b, pl.ok⟩
 have fp1 : (upd H s (.ins C dx (putF "ahead" (.int (ns.length : Int)) []))) fp = some (.lst ((iv fs).map V.int)) := by rw [upd_ne fps]; exact hfp
 have s1 : (upd H s (.ins C dx (putF "ahead" (.int (ns.length : Int)) []))) s = some (.ins C dx (putF "ahead" (.int (ns.length : Int)) [])) := upd_same
 have ex1 : Ex (· = s) H (upd H s (.ins C dx (putF "ahead" (.int (ns.length : Int)) []))) := Ex.put _ rfl
 generalize upd H s (.ins C dx (putF "ahead" (.int (ns.length : Int)) [])) = H1 at pl1 fp1 s1 ex1 ⊢
 refine ⟨_, rfl, t, _, 0, _, rfl, rfl, SqT.of pl1.t, rfl, a, rfl, ⟨_, SqL.of pl1.a⟩, fun D hD => ?_⟩
 refine turns_any (n := ns.length) (fun i σ' H' => ∃ (x : Option V) (rs : List Addr), σ' = [x, some (.ref s), some (.ref t), some (.ref fp)] ∧ Same H1 H' ∧ rs.length = i ∧ H' D = some (.lst (rs.map V.ref)) ∧
  ∀ e < i, ∃ r, rs[e]? = some r ∧ r ≠ D ∧ H' r = some (.lst ((iv (nearP ns ss (ns.getD e 0))).map V.int))) ⟨none, [], rfl, Same.new hD _, rfl, upd_same, fun e he => absurd he (Nat.not_lt_zero _)⟩ ?_ ?_
 ·rintro i σ' H' hi ⟨x, rs, rfl, g, hrs, hl, hr'⟩
  have ex : (ns.map V.int)[i]? = some (.int ns[i]) := by rw [List.getElem?_map, List.getElem?_eq_getElem hi]; rfl
  refine ⟨⟨_, _, SqL.of (g _ _ pl1.a), ex⟩, fun y H2 hy => ?_⟩
  obtain ⟨rfl, hy⟩ := hy
  have ey := hy _ (SqL.of (g _ _ pl1.a))
  rw [ex] at ey
  cases ey
  refine comp_true ?_
  refine ⟨_, rfl, _, rfl, t, a, b, ns, ss, ns[i], rfl, pl1.same g, fun l H4 g4 hl4 e4 => ?_⟩
  have hlD : l ≠ D := fun z => by rw [z, hl] at hl4; cases hl4
  refine ⟨_, g4 _ _ hl, small1000 (by rw [List.length_map]; omega), some (.int ns[i]), rs ++ [l], rfl, fun b o hb => ?_, by rw [List.length_append, hrs]; rfl, ?_, fun e he => ?_⟩
  ·have hne : b ≠ D := fun e => by rw [e, hD] at hb; cases hb
   rw [upd_ne hne]
   exact g4 _ _ (g _ _ hb)
  ·rw [upd_same, List.map_append]; rfl
  ·rcases Nat.lt_or_ge e i with z | z
   ·obtain ⟨r, r1, r2, r3⟩ := hr' e z
    exact ⟨r, by rw [List.getElem?_append_left (by omega)]; exact r1, r2, by rw [upd_ne r2]; exact g4 _ _ r3⟩
   ·have ei : e = i := by omega
    subst ei
    refine ⟨l, by rw [List.getElem?_append_right (by omega), hrs, Nat.sub_self]; rfl, hlD, ?_⟩
    rw [upd_ne hlD, e4, List.getD_eq_getElem?_getD, List.getElem?_eq_getElem hi]
    rfl
 ·rintro σ' H' ⟨x, rs, rfl, g, hrs, hl, hr'⟩
  refine ⟨⟨_, SqL.of (g _ _ pl1.a), by rw [hml]; exact Nat.le_refl _⟩, ?_⟩
  refine ⟨_, rfl, fp, _, rfl, .inl (SqL.of (g _ _ fp1)), fun lf hlf => ⟨by show 1 ≤ sizeLine; decide, fun l2 hl2 => ?_⟩⟩
  have lfD : D ≠ lf := ne_of_none hl hlf
  have l2D : D ≠ l2 := ne_of_none (by rw [upd_ne lfD]; exact hl) hl2
  have l2f : lf ≠ l2 := ne_of_none upd_same hl2
  refine ⟨D, l2, _, _, rfl, rfl, by rw [upd_ne l2D, upd_ne lfD]; exact hl, upd_same, by rw [List.length_map, hrs]; exact Nat.le_of_lt (small2000 (by show ns.length + 1 ≤ 2000; omega)), fun nr hnr => ?_⟩
  have sH : Same H1 (upd (upd (upd H' lf (.lst ((iv fs).map V.int))) l2 (.lst [.ref lf])) nr (.lst (rs.map V.ref ++ [.ref lf]))) := fun c o hc => by
   have c1 := g _ _ hc
   have c2 : (upd H' lf (.lst ((iv fs).map V.int))) c = some o := by rw [upd_ne (ne_of_none c1 hlf)]; exact c1
   have c3 : (upd (upd H' lf (.lst ((iv fs).map V.int))) l2 (.lst [.ref lf])) c = some o := by rw [upd_ne (ne_of_none c2 hl2)]; exact c2
   rw [upd_ne (ne_of_none c3 hnr)]; exact c3
  have nrF : lf ≠ nr := ne_of_none (by rw [upd_ne l2f]; exact upd_same) hnr
  have NA : NearAt (upd (upd (upd H' lf (.lst ((iv fs).map V.int))) l2 (.lst [.ref lf])) nr (.lst (rs.map V.ref ++ [.ref lf]))) nr ns.length (nearX ns ss fs) := by
   refine ⟨rs ++ [lf], by rw [List.length_append, hrs]; rfl, by rw [upd_same, List.map_append]; rfl, fun e he => ?_⟩
   rcases Nat.lt_or_ge e ns.length with z | z
   ·obtain ⟨r, r1, r2, r3⟩ := hr' e z
    have c1 := ne_of_none r3 hlf
    have r4 : (upd H' lf (.lst ((iv fs).map V.int))) r = _ := (upd_ne c1).trans r3
    have c2 := ne_of_none r4 hl2
    have r5 : (upd (upd H' lf (.lst ((iv fs).map V.int))) l2 (.lst [.ref lf])) r = _ := (upd_ne c2).trans r4
    refine ⟨r, by rw [List.getElem?_append_left (by omega)]; exact r1, ?_⟩
    rw [upd_ne (ne_of_none r5 hnr), r5]
    unfold nearX
    rw [if_pos z]
   ·have ei : e = ns.length := by omega
    subst ei
    refine ⟨lf, by rw [List.getElem?_append_right (by omega), hrs, Nat.sub_self]; rfl, ?_⟩
    rw [upd_ne nrF, upd_ne l2f, upd_same]
    unfold nearX
    rw [if_neg (Nat.lt_irrefl _)]
  generalize (upd (upd (upd H' lf (.lst ((iv fs).map V.int))) l2 (.lst [.ref lf])) nr (.lst (rs.map V.ref ++ [.ref lf]))) = H5 at sH NA ⊢
  have s5 := sH _ _ s1
  refine ⟨_, rfl, s, C, dx, _, rfl, s5, T.cl, T.nN, (by show 1 < 1000; decide), ?_⟩
  obtain ⟨rs5, q1, q2, q3⟩ := NA
  have nrs : nr ≠ s := ne_of q2 s5 (by intro z; cases z)
  have NA6 : ∀ o, NearAt (upd H5 s o) nr ns.length (nearX ns ss fs) := fun o => ⟨rs5, q1, by rw [upd_ne nrs]; exact q2, fun e he => by
   obtain ⟨r, r1, r2⟩ := q3 e he
   exact ⟨r, r1, by rw [upd_ne (ne_of r2 s5 (by intro z; cases z))]; exact r2⟩⟩
  refine ⟨_, rfl, s, C, dx, _, _, rfl, upd_same, T.cl, T.nA, rfl, _, _, rfl, rfl, ⟨by omega, by omega, by decide⟩, _, _, rfl, rfl, _, rfl, s, C, dx, _, rfl, upd_same, T.cl, T.nW, (by show 2 < 1000; decide), ?_⟩
  have ew : (1 * 2 ^ ((ns.length : Int)).toNat - 1 : Int) = ((2 ^ ns.length - 1 : Nat) : Int) := by
   rw [Int.one_mul, Int.toNat_natCast]
   have := Nat.one_le_two_pow (n := ns.length)
   rw [Int.natCast_sub this]
   simp
  refine q nr _ (fun c o hc ho => ?_) ?_ (by rw [upd_upd]; exact NA6 _)
  ·rw [upd_ne hc, upd_ne hc]
   exact sH _ _ (ex1 c o hc ho)
  ·rw [upd_same]
   show some (HO.ins C dx [("ahead", .int ns.length), ("near", .ref nr), ("whole", .int (1 * 2 ^ ((ns.length : Int)).toNat - 1))]) = _
   rw [ew]
   rfl
theorem scSteps : FnScope ["self", "left", "end"] ["self", "left", "end"] (defScope sSteps) := ⟨rfl, rfl, rfl, by decide +kernel, rfl, by decide +kernel, by decide +kernel⟩
theorem ok_steps (F : Fun K "steps" "Steps.steps" sSteps f fd) (T : SrT K C) : FnOk P w K mg base CX0 1 f fd ["self", "left", "end"] (spSteps C) := by
 refine F.ok scSteps (fun vs H Q E h => ?_) (fun cdv A outer s H vs Q E hr h => ?_)
 ·obtain ⟨s, dx, nr, fs, n, near, left, e, rfl, _⟩ := h
  rfl
 obtain ⟨s, dx, nr, fs, n, near, left, e, rfl, hs, hn, NA, N, he, hl, q⟩ := h
 refine ⟨_, (@pss_one _ _ _ (ps_ret (pe_comp ["place"] rfl (blk_ok (defScope sSteps) ["self", "left", "end"] rfl rfl (by decide +kernel)) (pi_list (pe_ix ix_list (pe_fld (pv 0) rfl) (pv 2) (fun _ _ => rfl))) (fun pins C fp s3 H3 => ⟨(pg_name (i := 0) (show (blkN ["place"] ["self", "left", "end"]).Nodup by decide +kernel) rfl (Or.inl rfl)), (pif_one (pt_valI (pe_op op_and (pv 2) (pe_op op_shl pe_int (pv 0))))), (pv 0)⟩)))), ?_⟩
 obtain ⟨rs, q1, q2, q3⟩ := NA
 obtain ⟨r, r1, r2⟩ := q3 e he
 have n10 := N.n10
 have hlen := near_len N he
 have hml : ((iv (near e)).map V.int).length = (near e).length := by rw [List.length_map, iv_len]
 refine ⟨_, rfl, s, C, dx, fs, _, rfl, hs, T.cl, T.nN, hn, _, rfl, nr, _, _, _, rfl, rfl, SqL.of q2, atI_nat (by rw [List.getElem?_map, r1]; rfl), r, rfl, ⟨_, SqL.of r2⟩, fun D hD => ?_⟩
 refine turns_list (σ := [some (.ref s), some (.int left), some (.int e)]) (xs := (iv (near e)).map V.int) (fun i => left.testBit ((near e).getD i 0)) (fun i => .int (((near e).getD i 0 : Nat) : Int)) (SqL.of r2) hD (by omega) (fun i H' hi g P hP => ?_) (fun i H' hi _ g P hP => ?_) fun H2 g2 e2 => ?_
 ·have hi' : i < (near e).length := by rw [hml] at hi; exact hi
  have ek : (near e)[i]? = some (near e)[i] := List.getElem?_eq_getElem hi'
  have e1 : ((iv (near e)).map V.int).getD i .non = .int (((near e)[i] : Nat) : Int) := by rw [List.getD_eq_getElem?_getD, nat_at ek]; rfl
  have e2 : (near e).getD i 0 = (near e)[i] := by rw [List.getD_eq_getElem?_getD, ek]; rfl
  have hk := N.lt e he _ (List.getElem_mem hi')
  rw [e1]
  refine ⟨_, rfl, _, rfl, _, _, rfl, rfl, ⟨by omega, by omega, by decide⟩, _, _, rfl, rfl, _, rfl, ?_⟩
  rw [bit_V left _ hl (by omega), ← e2]
  exact hP _ Same.rfl'
 ·have hi' : i < (near e).length := by rw [hml] at hi; exact hi
  have ek : (near e)[i]? = some (near e)[i] := List.getElem?_eq_getElem hi'
  have e1 : ((iv (near e)).map V.int).getD i .non = .int (((near e).getD i 0 : Nat) : Int) := by rw [List.getD_eq_getElem?_getD, nat_at ek, List.getD_eq_getElem?_getD, ek]; rfl
  rw [e1]
  exact ⟨_, rfl, hP _ Same.rfl'⟩
 ·refine q D H2 g2 hD ?_
  rw [e2, hml, iv_V, ← range_getD_filter (fun v => left.testBit v) 0 (near e), List.map_map]
  rfl
end
def ky (l e : Nat) : List Key := [Sum.inl (l : Int), Sum.inl (e : Int)]
theorem ky_inj {l e l' e' : Nat} (h : ky l e = ky l' e') : l = l' ∧ e = e' := by
 unfold ky at h
 injection h with h1 h2
 injection h2 with h2 _
 have a := Sum.inl.inj h1
 have b := Sum.inl.inj h2
 omega
def kcode : List Key → Nat
 | [Sum.inl a, Sum.inl b] => a.toNat * 11 + b.toNat
 | _ => 0
theorem val_mem {kvs : List (List Key × V)} {k : List Key} {v : V} (h : valV kvs k = some v) : (k, v) ∈ kvs := by
 unfold valV at h
 obtain ⟨p, hp, rfl⟩ := Option.map_eq_some_iff.mp h
 have h1 : p.1 = k := of_decide_eq_true (List.find?_some (p := fun kv : List Key × V => decide (kv.1 = k)) hp)
 have h2 := List.mem_of_find?_eq_some hp
 rw [← h1]
 exact h2
structure SP where
 n : Nat
 near : Nat → List Nat
 ends : Nat → Bool
 lasts : List Nat
 s : Addr
 dx : Addr
 nr : Addr
 lp : Addr
 ow : Addr
abbrev sTIn : Stmt := inClass (top 32) 0
abbrev sWy : Stmt := inClass (top 32) 1
abbrev sWb : Stmt := inClass (top 32) 2
structure TyT (K : PySem.W.Frag) (C : Addr) : Prop extends SrT K C where
 nL : NoAttr K C "last_places"
 nK : NoAttr K C "known"
section
variable (near : Nat → List Nat) (ends : Nat → Bool)
def waysF : Nat → Nat → Nat → Nat
 | 0, _, e => if ends e then 1 else 0
 | m + 1, left, e => (((near e).filter fun k => left.testBit k).map fun k => waysF m (left - 2 ^ k) k).sum
def ways (left e : Nat) : Nat := waysF near ends (cnt left) left e
variable {near ends}
theorem ways_succ {n left e : Nat} (N : NearOk near n) (hl : left < 1024) (h0 : left ≠ 0) (he : e ≤ n) : ways near ends left e = (((near e).filter fun k => left.testBit k).map fun k => ways near ends (left - 2 ^ k) k).sum := by
 unfold ways
 cases hc : cnt left with
 | zero => exact absurd (cnt_zero left hl hc) h0
 | succ m =>
  show (((near e).filter fun k => left.testBit k).map fun k => waysF near ends m (left - 2 ^ k) k).sum = _
  congr 1
  refine List.map_congr_left fun k hk => ?_
  obtain ⟨hk1, hb⟩ := List.mem_filter.mp hk
  have := (cnt_dec left hl k (Nat.lt_of_lt_of_le (N.lt e he k hk1) N.n10) hb).1
  have em : cnt (left - 2 ^ k) = m := by omega
  rw [em]
end
section
variable (n : Nat) (near : Nat → List Nat) (ends : Nat → Bool)
structure MemoT (kvs : List (List Key × V)) : Prop where
 nd : (kvs.map (·.1)).Nodup
 ok : ∀ kv ∈ kvs, ∃ l e, kv.1 = ky l e ∧ l ≠ 0 ∧ l < 2 ^ n ∧ e ≤ n ∧ kv.2 = .int (ways near ends l e : Nat)
variable {n near ends}
theorem memoT_nil : MemoT n near ends [] := ⟨List.nodup_nil, (fun _ h => nomatch h)⟩
theorem MemoT.val {kvs : List (List Key × V)} (M : MemoT n near ends kvs) {l e : Nat} {v : V} (h : valV kvs (ky l e) = some v) : v = .int (ways near ends l e : Nat) := by
 obtain ⟨l', e', h1, _, _, _, h2⟩ := M.ok _ (val_mem h)
 obtain ⟨rfl, rfl⟩ := ky_inj h1
 exact h2
theorem MemoT.len {kvs : List (List Key × V)} (M : MemoT n near ends kvs) (hn : n ≤ 10) : kvs.length < sizeLine := by
 have hp : 2 ^ n ≤ 1024 := pow_le n (by omega)
 have hc : ∀ kv ∈ kvs, kcode kv.1 < 11264 := fun kv h => by
  obtain ⟨l, e, h1, _, h3, h4, _⟩ := M.ok kv h
  rw [h1]
  show ((l : Int)).toNat * 11 + ((e : Int)).toNat < 11264
  omega
 have hnd : (kvs.map fun kv => kcode kv.1).Nodup := by
  have h := M.nd
  unfold List.Nodup at h ⊢
  rw [List.pairwise_map] at h ⊢
  refine h.imp_of_mem fun {x y} hx hy hne he => hne ?_
  obtain ⟨l, e, h1, _, _, h4, _⟩ := M.ok x hx
  obtain ⟨l', e', h1', _, _, h4', _⟩ := M.ok y hy
  rw [h1, h1'] at he ⊢
  have he' : ((l : Int)).toNat * 11 + ((e : Int)).toNat = ((l' : Int)).toNat * 11 + ((e' : Int)).toNat := he
  have : l = l' ∧ e = e' := by omega
  rw [this.1, this.2]
 have h := pigeon 11264 _ hnd fun x hx => by
  obtain ⟨kv, h1, rfl⟩ := List.mem_map.mp hx
  exact hc kv h1
 rw [List.length_map] at h
 rw [sizeLine_eq]
 omega
theorem MemoT.put {kvs : List (List Key × V)} (M : MemoT n near ends kvs) {l e : Nat} (h0 : l ≠ 0) (hl : l < 2 ^ n) (he : e ≤ n) : MemoT n near ends (putK kvs (ky l e) (.int (ways near ends l e : Nat))) := by
 refine ⟨?_, ?_⟩
 ·cases hv : valV kvs (ky l e) with
  | none =>
   rw [putK_new _ hv, List.map_append]
   refine List.nodup_append.mpr ⟨M.nd, by simp, fun a ha b hb hab => ?_⟩
   have eb : b = ky l e := by simpa using hb
   subst eb
   subst hab
   obtain ⟨kv, h1, h2⟩ := List.mem_map.mp ha
   have h3 := valV_any (ky l e) kvs
   rw [hv] at h3
   have h4 : (kvs.any fun kv => decide (kv.1 = ky l e)) = true := List.any_eq_true.mpr ⟨kv, h1, decide_eq_true h2⟩
   rw [h4] at h3
   cases h3
  | some v =>
   unfold putK
   rw [valV_any, hv]
   rw [if_pos (show (some v).isSome = true from rfl), List.map_map]
   have : (kvs.map ((fun x : List Key × V => x.1) ∘ fun kv => if kv.1 = ky l e then (kv.1, V.int (ways near ends l e : Nat)) else kv)) = kvs.map (·.1) := by
    refine List.map_congr_left fun kv _ => ?_
    show (if kv.1 = ky l e then (kv.1, V.int (ways near ends l e : Nat)) else kv).1 = kv.1
    split <;> rfl
   rw [this]
   exact M.nd
 ·intro kv h
  unfold putK at h
  split at h
  ·obtain ⟨kv', h1, h2⟩ := List.mem_map.mp h
   by_cases z : kv'.1 = ky l e
   ·rw [if_pos z] at h2
    rw [← h2]
    exact ⟨l, e, z, h0, hl, he, rfl⟩
   ·rw [if_neg z] at h2
    rw [← h2]
    exact M.ok kv' h1
  ·rcases List.mem_append.mp h with z | z
   ·exact M.ok kv z
   ·have z : kv = (ky l e, V.int (ways near ends l e : Nat)) := by simpa using z
    rw [z]
    exact ⟨l, e, rfl, h0, hl, he, rfl⟩
end
def fsT (p : SP) : List (Str × V) := [("ahead", .int p.n), ("near", .ref p.nr), ("whole", .int ((2 ^ p.n - 1 : Nat) : Int)), ("last_places", .ref p.lp), ("known", .ref p.ow)]
structure Tly (C : Addr) (p : SP) (H : Hp) : Prop where
 at_ : H p.s = some (.ins C p.dx (fsT p))
 nr : NearAt H p.nr p.n p.near
 lp : H p.lp = some (.lst ((iv p.lasts).map V.int))
 ok : NearOk p.near p.n
 le : ∀ e < p.n, p.lasts.contains e = p.ends e
def KnownT (p : SP) (H : Hp) (kvs : List (List Key × V)) : Prop := H p.ow = some (.dT kvs) ∧ MemoT p.n p.near p.ends kvs
theorem Tly.ex {C : Addr} {p : SP} {H H' : Hp} {kvs : List (List Key × V)} (S : Tly C p H) (hk : H p.ow = some (.dT kvs)) (g : Ex (· = p.ow) H H') : Tly C p H' := by
 have ne : ∀ {b o}, H b = some o → (∀ kvs, o ≠ .dT kvs) → H' b = some o := fun {b o} h d => g b o (fun z => d kvs (by rw [z, hk] at h; exact (Option.some.inj h).symm)) h
 obtain ⟨rs, q1, q2, q3⟩ := S.nr
 exact ⟨ne S.at_ (fun _ z => by cases z), ⟨rs, q1, ne q2 (fun _ z => by cases z), fun e he => let ⟨r, a, b⟩ := q3 e he; ⟨r, a, ne b (fun _ z => by cases z)⟩⟩, ne S.lp (fun _ z => by cases z), S.ok, S.le⟩
theorem Tly.lt {C : Addr} {p : SP} {H : Hp} (S : Tly C p H) {left : Nat} (h : left < 2 ^ p.n) : left < 1024 := Nat.lt_of_lt_of_le h (pow_le _ (Nat.lt_succ_of_le S.ok.n10))
def spWays (C : Addr) (m : Nat) : Sp := fun vs H Q _ => ∃ (p : SP) (kvs : List (List Key × V)) (left e : Nat), vs = [.ref p.s, .int left, .int e] ∧ Tly C p H ∧ KnownT p H kvs ∧ left < 2 ^ p.n ∧ cnt left ≤ m ∧ e ≤ p.n ∧ (left = 0 → e < p.n) ∧
 ∀ (H' : Hp) (kvs' : List (List Key × V)), Ex (· = p.ow) H H' → KnownT p H' kvs' → Q (.int (ways p.near p.ends left e : Nat)) H'
def spWb (C : Addr) (m : Nat) : Sp := fun vs H Q _ => ∃ (p : SP) (kvs : List (List Key × V)) (left k : Nat), vs = [.ref p.s, .int left, .int k] ∧ Tly C p H ∧ KnownT p H kvs ∧ left < 2 ^ p.n ∧ left.testBit k = true ∧ k < p.n ∧ cnt left ≤ m ∧
 ∀ (H' : Hp) (kvs' : List (List Key × V)), Ex (· = p.ow) H H' → KnownT p H' kvs' → Q (.int (ways p.near p.ends (left - 2 ^ k) k : Nat)) H'
def spTIn (C : Addr) : Sp := fun vs H Q _ => ∃ (s t a b fp lp dx : Addr) (ns ss : List Int) (fs ls : List Nat), vs = [.ref s, .ref t, .ref fp, .ref lp] ∧ H s = some (.ins C dx []) ∧ IsPl H t a b ns ss ∧ H fp = some (.lst ((iv fs).map V.int)) ∧ H lp = some (.lst ((iv ls).map V.int)) ∧
 ∀ (nr lq ow : Addr) (H' : Hp), Ex (· = s) H H' → H ow = none → H' s = some (.ins C dx [("ahead", .int ns.length), ("near", .ref nr), ("whole", .int ((2 ^ ns.length - 1 : Nat) : Int)), ("last_places", .ref lq), ("known", .ref ow)]) →
  NearAt H' nr ns.length (nearX ns ss fs) → H' lq = some (.lst ((iv ls).map V.int)) → H' ow = some (.dT []) → Q .non H'
theorem sum_cast (l : List Nat) (f : Nat → Nat) : (l.map fun k => ((f k : Nat) : Int)).sum = (((l.map f).sum : Nat) : Int) := by
 induction l with
 | nil => rfl
 | cons a r ih => rw [List.map_cons, List.map_cons, List.sum_cons, List.sum_cons, ih]; omega
section
variable {f g1 g2 C C0 : Addr} {mc : Value} {fd gd1 gd2 : FuncData}
theorem scWb : FnScope ["self", "left", "place"] ["self", "left", "place"] (defScope sWb) := ⟨rfl, rfl, rfl, by decide +kernel, rfl, by decide +kernel, by decide +kernel⟩
theorem ok_wb {j m : Nat} (F : Fun K "ways_by" "Tally.ways_by" sWb f fd) (T : TyT K C) (mW : Meth K C "ways" g1)
  (GW : FnOk P w K mg base CX0 j g1 gd1 ["self", "left", "end"] (spWays C m)) (bW : Binds K gd1 ["self", "left", "end"] []) : FnOk P w K mg base CX0 (j + 1) f fd ["self", "left", "place"] (spWb C (m + 1)) := by
 refine F.ok scWb (fun vs H Q E h => ?_) (fun cdv A outer s H vs Q E hr h => ?_)
 ·obtain ⟨p, kvs, left, k, rfl, _⟩ := h
  rfl
 obtain ⟨p, kvs, left, k, rfl, S, hd, hl, hb, hk, hc, q⟩ := h
 refine ⟨_, (@pss_one _ _ _ (ps_ret (pe_meth (pv 0) T.cl mW GW hr bW .nil pass0 (pa_cons (pe_op op_sub (pv 1) (pe_op op_shl pe_int (pv 2))) (pa_cons (pv 2) pa_nil))))), ?_⟩
 have n10 := S.ok.n10
 have hdec := cnt_dec left (S.lt hl) k (by omega) hb
 refine ⟨_, rfl, p.s, p.dx, _, rfl, S.at_, rfl, _, rfl, _, rfl, _, _, rfl, rfl, ⟨by show (0 : Int) ≤ (k : Int); omega, by show (k : Int) ≤ 1000000; omega, by decide⟩, _, _, rfl, rfl, _, rfl, ?_⟩
 exact ⟨p, kvs, left - 2 ^ k, k, congrArg (fun x => [V.ref p.s, V.int x, V.int (k : Int)]) (sub_V left k (bit_le hb)), S, hd, by omega, by omega, by omega, fun _ => hk, q⟩
theorem scWy : FnScope ["self", "left", "end", "key"] ["self", "left", "end"] (defScope sWy) := ⟨rfl, rfl, rfl, by decide +kernel, rfl, by decide +kernel, by decide +kernel⟩
theorem ok_wy {j m : Nat} (F : Fun K "ways" "Tally.ways" sWy f fd) (B : Bt4 mg) (T : TyT K C) (mB : Meth K C "ways_by" g1) (mS : Meth K C "steps" g2)
  (GB : FnOk P w K mg base CX0 j g1 gd1 ["self", "left", "place"] (spWb C m)) (bB : Binds K gd1 ["self", "left", "place"] [])
  (GS : FnOk P w K mg base CX0 j g2 gd2 ["self", "left", "end"] (spSteps C)) (bS : Binds K gd2 ["self", "left", "end"] []) : FnOk P w K mg base CX0 (j + 1) f fd ["self", "left", "end"] (spWays C m) := by
 refine F.ok scWy (fun vs H Q E h => ?_) (fun cdv A outer s H vs Q E hr h => ?_)
 ·obtain ⟨p, kvs, left, e, rfl, _⟩ := h
  rfl
 obtain ⟨p, kvs, left, e, rfl, S, hd, hl, hc, he, h0, q⟩ := h
 have hu := hu_of hr
 refine ⟨_, (@pss_cons _ _ _ _ _ (ps_if (pt_cmpR op_eq (pv 1) pe_int (nomark _)) (@pss_one _ _ _ (ps_ret (pe_ifExp (pt_cmpR (op_inI K) (pv 2) (pe_fld (pv 0) rfl) rfl) pe_int pe_int))) pss_nil) (@pss_cons _ _ _ _ _ (ps_set (i := 3) scWy.nd rfl (Or.inl rfl) (pe_tup (pa_cons (pv 1) (pa_cons (pv 2) pa_nil)))) (@pss_cons _ _ _ _ _ (ps_if (pt_cmp (pc_dnotin hu (pv 3) (pe_fld (pv 0) rfl))) (@pss_one _ _ _ (ps_dput hu (pe_fld (pv 0) rfl) (pv 3) (pe_callB (call_sumL rfl) rfl B.sum boot_sum (pa_cons (pe_comp ["place"] rfl (blk_ok (defScope sWy) ["self", "left", "end", "key"] rfl rfl (by decide +kernel)) (pi_list (pe_meth (pv 0) T.cl mS GS hr bS .nil pass0 (pa_cons (pv 1) (pa_cons (pv 2) pa_nil)))) (fun pins C fp s3 H3 => ⟨(pg_name (i := 0) (show (blkN ["place"] ["self", "left", "end", "key"]).Nodup by decide +kernel) rfl (Or.inl rfl)), pif_nil, (pe_meth (pv 1) T.cl mB GB hr bB .nil pass0 (pa_cons (pv 2) (pa_cons (pv 0) pa_nil)))⟩)) pa_nil)) rfl)) pss_nil) (@pss_one _ _ _ (ps_ret (pe_dget hu (pe_fld (pv 0) rfl) (pv 3) (fun _ _ => rfl))))))), ?_⟩
 refine ⟨_, rfl, rfl, _, rfl, ite2 (fun c => ?_) (fun c => ?_)⟩
 ·have el : left = 0 := by
   have z := V.int.inj (of_decide_eq_true c)
   omega
  subst el
  have z := q H kvs Ex.refl hd
  have e0 : ways p.near p.ends 0 e = if p.ends e then 1 else 0 := rfl
  rw [e0, ← S.le e (h0 rfl), ← iv_contains] at z
  refine ⟨_, rfl, _, rfl, p.s, C, p.dx, _, _, rfl, S.at_, T.cl, T.nL, rfl, p.lp, _, _, rfl, rfl, SqL.of S.lp, _, rfl, ite2 (fun c => ?_) (fun c => ?_)⟩
  ·have c' : (iv p.lasts).contains (e : Int) = true := c
   rw [c'] at z
   exact z
  ·have c' : (iv p.lasts).contains (e : Int) = false := Bool.eq_false_iff.mpr c
   rw [c'] at z
   exact z
 ·have el : left ≠ 0 := fun z => c (decide_eq_true (by rw [z]; rfl))
  refine ⟨_, rfl, _, rfl, two_le, fun kt hkt => ?_⟩
  have gk : Same H (upd H kt (.tup [.int (left : Int), .int (e : Int)])) := Same.new hkt _
  have S1 : Tly C p (upd H kt (.tup [.int (left : Int), .int (e : Int)])) := S.ex hd.1 (Ex.same gk)
  have hd1 : KnownT p (upd H kt (.tup [.int (left : Int), .int (e : Int)])) kvs := ⟨gk _ _ hd.1, hd.2⟩
  have hk1 : (upd H kt (.tup [.int (left : Int), .int (e : Int)])) kt = some (.tup ((ky left e).map kV)) := upd_same
  have ex1 : Ex (· = p.ow) H (upd H kt (.tup [.int (left : Int), .int (e : Int)])) := Ex.same gk
  generalize upd H kt (.tup [.int (left : Int), .int (e : Int)]) = H1 at S1 hd1 hk1 ex1 ⊢
  refine ⟨_, rfl, _, rfl, p.s, C, p.dx, _, _, rfl, S1.at_, T.cl, T.nK, rfl, p.ow, _, rfl, DGet.t hd1.1 hk1, _, rfl, ite2 (fun c2 => ?_) (fun c2 => ?_)⟩
  ·have hl' := S.lt hl
   have n10 := S.ok.n10
   refine ⟨_, rfl, p.s, p.dx, _, rfl, S1.at_, rfl, _, rfl, _, rfl, p.s, p.dx, p.nr, _, p.n, p.near, left, e, rfl, S1.at_, rfl, S1.nr, S1.ok, he, hl', fun l H2 g2 hln e2 => ⟨l, rfl, ⟨_, SqL.of e2⟩, fun D hD => ?_⟩⟩
   have hd2 : KnownT p H2 kvs := ⟨g2 _ _ hd1.1, hd1.2⟩
   have lo : l ≠ p.ow := ne_of e2 hd2.1 (by intro z; cases z)
   have Do : p.ow ≠ D := ne_of_none hd2.1 hD
   have lD : l ≠ D := ne_of_none e2 hD
   have klen : ((p.near e).filter fun k => left.testBit k).length ≤ 10 := Nat.le_trans (List.length_filter_le _ _) (Nat.le_trans (near_len S.ok he) n10)
   obtain ⟨ks, eks⟩ : ∃ ks, ks = (p.near e).filter fun k => left.testBit k := ⟨_, rfl⟩
   have ew := ways_succ (ends := p.ends) S.ok hl' el he
   have hmem : ∀ k ∈ ks, k < p.n ∧ left.testBit k = true := fun k hk => by
    rw [eks] at hk
    obtain ⟨h1, h2⟩ := List.mem_filter.mp hk
    exact ⟨S.ok.lt e he k h1, h2⟩
   rw [← eks] at e2 klen ew
   have kml : ((iv ks).map V.int).length = ks.length := by rw [List.length_map, iv_len]
   refine turns_any (n := ks.length) (fun i σ' H' => ∃ (x : Option V) (kvs' : List (List Key × V)), σ' = [x, some (.ref p.s), some (.int left), some (.int e), some (.ref kt)] ∧ Ex (· = p.ow) H2 H' ∧ KnownT p H' kvs' ∧ H' D = some (.lst (((ks.take i).map fun k => ((ways p.near p.ends (left - 2 ^ k) k : Nat) : Int)).map V.int)))
    ⟨none, kvs, rfl, Ex.new _ hD, ⟨by rw [upd_ne Do]; exact hd2.1, hd2.2⟩, upd_same⟩ ?_ ?_
   ·rintro i σ' H' hi ⟨x, kvs', rfl, ex, hk', hD'⟩
    have ek : ks[i]? = some ks[i] := List.getElem?_eq_getElem hi
    obtain ⟨hkn, hb⟩ := hmem _ (List.getElem_mem hi)
    have el2 := ex _ _ lo e2
    refine ⟨⟨_, _, SqL.of el2, nat_at ek⟩, fun y H3 hy => ?_⟩
    obtain ⟨rfl, hy⟩ := hy
    have ey := hy _ (SqL.of el2)
    rw [nat_at ek] at ey
    cases ey
    refine comp_true ?_
    have S' : Tly C p H3 := (S1.ex hd1.1 (Ex.same g2)).ex hd2.1 ex
    refine ⟨_, rfl, p.s, p.dx, _, rfl, S'.at_, rfl, _, rfl, _, rfl, p, kvs', left, ks[i], rfl, S', hk', hl, hb, hkn, hc, fun H4 kvs4 ex4 hk4 => ?_⟩
    have hD4 := ex4 _ _ (Ne.symm Do) hD'
    refine ⟨_, hD4, small1000 (by rw [List.length_map, List.length_map, List.length_take]; omega), _, kvs4, rfl, fun c o hc ho => ?_, ⟨by rw [upd_ne Do]; exact hk4.1, hk4.2⟩, ?_⟩
    ·rw [upd_ne (ne_of_none ho hD)]
     exact ex4 _ _ hc (ex _ _ hc ho)
    ·rw [upd_same, List.take_add_one, ek, List.map_append, List.map_append]
     rfl
   ·rintro σ' H' ⟨x, kvs', rfl, ex, hk', hD'⟩
    have el2 := ex _ _ lo e2
    refine ⟨⟨_, SqL.of el2, by rw [kml]; exact Nat.le_refl _⟩, ?_⟩
    rw [List.take_of_length_le (Nat.le_refl _)] at hD'
    refine ⟨D, _, rfl, hD', ?_⟩
    have S' : Tly C p H' := (S1.ex hd1.1 (Ex.same g2)).ex hd2.1 ex
    have hk2 : H' kt = some (.tup ((ky left e).map kV)) := ex _ _ (ne_of (g2 _ _ hk1) hd2.1 (by intro z; cases z)) (g2 _ _ hk1)
    have esum : (ks.map fun k => ((ways p.near p.ends (left - 2 ^ k) k : Nat) : Int)).sum = ((ways p.near p.ends left e : Nat) : Int) := by rw [sum_cast, ew]
    refine ⟨_, rfl, p.s, C, p.dx, _, _, rfl, S'.at_, T.cl, T.nK, rfl, _, rfl, p.ow, _, rfl, DPut.t hk'.1 hk2 (hk'.2.len S.ok.n10), ?_⟩
    rw [esum]
    have M3 := hk'.2.put el hl he
    have ex3 : Ex (· = p.ow) H' (upd H' p.ow (.dT (putK kvs' (ky left e) (.int (ways p.near p.ends left e : Nat))))) := Ex.put _ rfl
    have S3 := S'.ex hk'.1 ex3
    have hk3 := ex3 _ _ (ne_of hk2 hk'.1 (by intro z; cases z)) hk2
    refine ⟨_, rfl, p.s, C, p.dx, _, _, rfl, S3.at_, T.cl, T.nK, rfl, _, rfl, p.ow, _, rfl, by have z := DGet.t (upd_same (H := H') (a := p.ow) (o := .dT (putK kvs' (ky left e) (.int (ways p.near p.ends left e : Nat))))) hk3; rw [valV_put, if_pos rfl] at z; exact z, ?_⟩
    exact q _ _ (((ex1.trans (Ex.same g2)).trans ex).trans ex3) ⟨upd_same, M3⟩
  ·cases ev : valV kvs (ky left e) with
   | none => rw [ev] at c2; exact absurd rfl c2
   | some v =>
    have hv := hd.2.val ev
    refine ⟨_, rfl, p.s, C, p.dx, _, _, rfl, S1.at_, T.cl, T.nK, rfl, _, rfl, p.ow, _, rfl, by have z := DGet.t hd1.1 hk1; rw [ev] at z; exact z, ?_⟩
    rw [hv]
    exact q _ _ ex1 hd1
theorem ok_ways {wa wb sf : Addr} {wd wbd sfd : FuncData} (FW : Fun K "ways" "Tally.ways" sWy wa wd) (FB : Fun K "ways_by" "Tally.ways_by" sWb wb wbd) (B : Bt4 mg) (T : TyT K C) (mW : Meth K C "ways" wa) (mB : Meth K C "ways_by" wb) (mS : Meth K C "steps" sf)
  (GS : FnOk P w K mg base CX0 1 sf sfd ["self", "left", "end"] (spSteps C)) (bS : Binds K sfd ["self", "left", "end"] []) (bW : Binds K wd ["self", "left", "end"] []) (bB : Binds K wbd ["self", "left", "place"] []) :
  ∀ m : Nat, FnOk P w K mg base CX0 (2 * m + 2) wa wd ["self", "left", "end"] (spWays C m)
 | 0 => ok_wy (j := 1) FW B T mB mS ⟨fun vs H Q E h => by obtain ⟨p, kvs, left, k, rfl, _⟩ := h; rfl, fun A outer s H args us vs Q E _ _ _ _ h => by
   obtain ⟨p, kvs, left, k, _, S, _, hl, hb, hk, hc, _⟩ := h
   have n10 := S.ok.n10
   have := (cnt_dec left (S.lt hl) k (by omega) hb).1
   omega⟩ bB GS bS
 | m + 1 => by
  have GW := ok_ways FW FB B T mW mB mS GS bS bW bB m
  have GB := ok_wb (j := 2 * m + 2) FB T mW GW bW
  exact ok_wy (j := 2 * m + 3) FW B T mB mS GB bB (GS.mono (by omega)) bS
theorem scTIn : FnScope ["self", "plan", "first_places", "last_places"] ["self", "plan", "first_places", "last_places"] (defScope sTIn) := ⟨rfl, rfl, rfl, by decide +kernel, rfl, by decide +kernel, by decide +kernel⟩
theorem ok_tin (F : Fun K "__init__" "Tally.__init__" sTIn f fd) (B : Bt3 mg) (T : TyT K C) (BI : Base K C0 mc "__init__" g1) (mI : mg "Steps" = some (.ref C0))
  (GI : FnOk P w K mg base CX0 3 g1 gd1 ["self", "plan", "first_places"] (spIni0 C)) (bI : Binds K gd1 ["self", "plan", "first_places"] []) : FnOk P w K mg base CX0 4 f fd ["self", "plan", "first_places", "last_places"] (spTIn C) := by
 refine F.ok scTIn (fun vs H Q E h => ?_) (fun cdv A outer s H vs Q E hr h => ?_)
 ·obtain ⟨s, t, a, b, fp, lp, dx, ns, ss, fs, ls, rfl, _⟩ := h
  rfl
 obtain ⟨s, t, a, b, fp, lp, dx, ns, ss, fs, ls, rfl, hs, pl, hfp, hlp, q⟩ := h
 refine ⟨_, (@pss_cons _ _ _ _ _ (ps_expr (pe_base BI GI hr rfl mI bI .nil pass0 (pa_cons (pv 0) (pa_cons (pv 1) (pa_cons (pv 2) pa_nil))))) (@pss_cons _ _ _ _ _ (ps_fld (pv 0) (pe_callTy call_list_of rfl B.list PyProof.Rows.boot_list (pa_cons (pv 3) pa_nil)) rfl) (@pss_one _ _ _ (ps_fld (pv 0) pe_dnewT rfl)))), ?_⟩
 refine ⟨_, rfl, _, rfl, _, rfl, s, t, a, b, fp, dx, ns, ss, fs, rfl, hs, pl, hfp, fun nr H1 ex1 s1 na1 => ?_⟩
 have lps : lp ≠ s := ne_of hlp hs (by intro z; cases z)
 have lp1 := ex1 _ _ lps hlp
 refine ⟨_, rfl, lp, _, rfl, .inl (SqL.of lp1), fun lq hlq => ?_⟩
 have g2 : Same H1 (upd H1 lq (.lst ((iv ls).map V.int))) := Same.new hlq _
 refine ⟨_, rfl, s, C, dx, _, rfl, g2 _ _ s1, T.cl, T.nL, (by show 3 < 1000; decide), ?_⟩
 refine fun ow how => ?_
 have sq : s ≠ lq := ne_of_none s1 hlq
 have ow_s : ow ≠ s := fun z => by rw [z, upd_same] at how; cases how
 have ow_q : ow ≠ lq := fun z => by rw [z, upd_ne sq.symm, upd_same] at how; cases how
 have how1 : H1 ow = none := by rwa [upd_ne ow_s, upd_ne ow_q] at how
 refine ⟨_, rfl, s, C, dx, _, rfl, by rw [upd_ne (Ne.symm ow_s)]; exact upd_same, T.cl, T.nK, (by show 4 < 1000; decide), ?_⟩
 obtain ⟨rs, q1, q2, q3⟩ := na1
 have st : ∀ {c : Addr} {o : HO}, c ≠ s → H1 c = some o → ∀ {o1 o2}, (upd (upd (upd (upd H1 lq (.lst ((iv ls).map V.int))) s o1) ow (.dT [])) s o2) c = some o := fun {c o} hc h {o1 o2} => by
  rw [upd_ne hc, upd_ne (ne_of_none h how1), upd_ne hc, upd_ne (ne_of_none h hlq)]
  exact h
 refine q nr lq ow _ (fun c o hc ho => st hc (ex1 c o hc ho)) ?_ ?_ ⟨rs, q1, st (ne_of q2 s1 (by intro z; cases z)) q2, fun e he => let ⟨r, r1, r2⟩ := q3 e he; ⟨r, r1, st (ne_of r2 s1 (by intro z; cases z)) r2⟩⟩ ?_ ?_
 ·cases e : H ow with
  | none => rfl
  | some o => rw [ex1 _ _ ow_s e] at how1; cases how1
 ·rw [upd_same]
  rfl
 ·rw [upd_ne (Ne.symm sq), upd_ne (Ne.symm ow_q), upd_ne (Ne.symm sq), upd_same]
 ·rw [upd_ne ow_s, upd_same]
end
abbrev sAllP : Stmt := top 24
def spAllP : Sp := fun vs H Q _ => ∃ (t a b : Addr) (ns ss : List Int), vs = [.ref t] ∧ IsPl H t a b ns ss ∧ ∀ l : Addr, H l = none → Q (.ref l) (upd H l (.lst ((iv (List.range ns.length)).map V.int)))
def firsts (n : Nat) (ring : Bool) : List Nat := if ring then [0] else List.range n
def endsP (ns ss : List Int) (ring : Bool) (e : Nat) : Bool := !ring || (nearP ns ss (ns.getD e 0)).contains 0
section
variable {f : Addr} {fd : FuncData}
theorem scAllP : FnScope ["plan"] ["plan"] (defScope sAllP) := ⟨rfl, rfl, rfl, by decide +kernel, rfl, by decide +kernel, by decide +kernel⟩
theorem ok_allP (F : Fun K "all_places" "all_places" sAllP f fd) (B : Bt3 mg) : FnOk P w K mg base CX0 1 f fd ["plan"] spAllP := by
 refine F.ok scAllP (fun vs H Q E h => ?_) (fun cdv A outer s H vs Q E hr h => ?_)
 ·obtain ⟨t, a, b, ns, ss, rfl, _⟩ := h
  rfl
 obtain ⟨t, a, b, ns, ss, rfl, pl, q⟩ := h
 refine ⟨_, (@pss_one _ _ _ (ps_ret (pe_list_range1 rfl rfl B.range rfl B.list (pa_cons (pe_callB call_len_seq rfl B.len PySem.boot_len (pa_cons (pe_ix ix_tup (pv 0) pe_int (fun _ _ => rfl)) pa_nil)) pa_nil)))), ?_⟩
 have n2 := pl.ok.n2
 have hml : (ns.map V.int).length = ns.length := List.length_map _
 refine ⟨_, rfl, t, _, 0, _, rfl, rfl, SqT.of pl.t, rfl, a, _, rfl, .inl (SqL.of pl.a), 0, _, rfl, by rw [hml]; omega, fun l hl => ?_⟩
 have e : ((List.range (((((ns.map V.int).length : Nat) : Int)) - 0).toNat).map fun k : Nat => V.int (0 + (k : Int))) = (iv (List.range ns.length)).map V.int := by
  rw [iv_V, hml, show (((ns.length : Nat) : Int) - 0).toNat = ns.length by omega]
  refine List.map_congr_left fun k _ => ?_
  rw [Int.zero_add]
 rw [e]
 exact q l hl
end
abbrev sTr : Stmt := top 33
def cntW (ns ss : List Int) (ring : Bool) : Nat := ways (nearX ns ss (firsts ns.length ring)) (endsP ns ss ring) (2 ^ ns.length - 1) ns.length
def spTr (C : Addr) : Sp := fun vs H Q _ => ∃ (t a b : Addr) (ns ss : List Int), vs = [.ref t] ∧ IsPl H t a b ns ss ∧ ∀ (p : SP) (H' : Hp), p.n = ns.length → p.near = nearX ns ss (List.range ns.length) → p.ends = endsP ns ss false → Same H H' → H p.ow = none → Tly C p H' → KnownT p H' [] → Q (.ref p.s) H'
def spCount (f : List Int → List Int → Nat) : Sp := fun vs H Q _ => ∃ (t a b : Addr) (ns ss : List Int), vs = [.ref t] ∧ IsPl H t a b ns ss ∧ ∀ H', Same H H' → Q (.int (f ns ss : Nat)) H'
section
variable {f g1 g2 g3 g4 C : Addr} {fd gd1 gd2 gd3 gd4 : FuncData} {t3 : Tok}
theorem scTr : FnScope ["plan"] ["plan"] (defScope sTr) := ⟨rfl, rfl, rfl, by decide +kernel, rfl, by decide +kernel, by decide +kernel⟩
theorem ok_tr (F : Fun K "tally_of_rows" "tally_of_rows" sTr f fd) (MT : Mk K C g1) (mT : mg "Tally" = some (.ref C))
  (GI : FnOk P w K mg base CX0 4 g1 gd1 ["self", "plan", "first_places", "last_places"] (spTIn C)) (bI : Binds K gd1 ["self", "plan", "first_places", "last_places"] [])
  (GA : FnOk P w K mg base CX0 5 g2 gd2 ["plan"] spAllP) (bA : Binds K gd2 ["plan"] []) (kA : Kee K g2) (mA : mg "all_places" = some (.ref g2)) : FnOk P w K mg base CX0 6 f fd ["plan"] (spTr C) := by
 refine F.ok scTr (fun vs H Q E h => ?_) (fun cdv A outer s H vs Q E hr h => ?_)
 ·obtain ⟨t, a, b, ns, ss, rfl, _⟩ := h
  rfl
 obtain ⟨t, a, b, ns, ss, rfl, pl, q⟩ := h
 refine ⟨_, (@pss_one _ _ _ (ps_ret (pe_make MT GI hr rfl mT bI .nil pass0 (pa_cons (pv 0) (pa_cons (pe_call GA hr rfl mA kA bA .nil pass0 (pa_cons (pv 0) pa_nil)) (pa_cons (pe_call GA hr rfl mA kA bA .nil pass0 (pa_cons (pv 0) pa_nil)) pa_nil)))))), ?_⟩
 refine ⟨_, rfl, _, rfl, t, a, b, ns, ss, rfl, pl, fun l1 hl1 => ?_⟩
 have g1 : Same H (upd H l1 (.lst ((iv (List.range ns.length)).map V.int))) := Same.new hl1 _
 refine ⟨_, rfl, t, a, b, ns, ss, rfl, pl.same g1, fun l2 hl2 => fun x dx nx ndx nex => ?_⟩
 have g2 : Same (upd H l1 (.lst ((iv (List.range ns.length)).map V.int))) (upd (upd H l1 (.lst ((iv (List.range ns.length)).map V.int))) l2 (.lst ((iv (List.range ns.length)).map V.int))) := Same.new hl2 _
 have e1 : (upd (upd H l1 (.lst ((iv (List.range ns.length)).map V.int))) l2 (.lst ((iv (List.range ns.length)).map V.int))) l1 = some (.lst ((iv (List.range ns.length)).map V.int)) := g2 _ _ upd_same
 have e2 : (upd (upd H l1 (.lst ((iv (List.range ns.length)).map V.int))) l2 (.lst ((iv (List.range ns.length)).map V.int))) l2 = some (.lst ((iv (List.range ns.length)).map V.int)) := upd_same
 have g12 := g1.trans g2
 generalize upd (upd H l1 (.lst ((iv (List.range ns.length)).map V.int))) l2 (.lst ((iv (List.range ns.length)).map V.int)) = H2 at g2 e1 e2 g12 nx ndx ⊢
 have g3 : Same H2 (upd (upd H2 dx (.own x)) x (.ins C dx [])) := fun c o hc => by
  rw [upd_ne (ne_of_none hc nx), upd_ne (ne_of_none hc ndx)]; exact hc
 refine ⟨x, t, a, b, l1, l2, dx, ns, ss, List.range ns.length, List.range ns.length, rfl, upd_same, (pl.same g12).same g3, g3 _ _ e1, g3 _ _ e2, fun nr lq ow H3 ex3 how s3 na3 lq3 ow3 => ⟨rfl, ?_⟩⟩
 have g4 : Same H H3 := fun c o hc => ex3 c o (ne_of_none (g12 _ _ hc) nx) (g3 _ _ (g12 _ _ hc))
 refine q ⟨ns.length, nearX ns ss (List.range ns.length), endsP ns ss false, List.range ns.length, x, dx, nr, lq, ow⟩ H3 rfl rfl rfl g4 (none_of_same (g12.trans g3) how) ⟨s3, na3, lq3, near_ok pl.ok (fun k hk => List.mem_range.mp hk) List.pairwise_lt_range, fun e he => ?_⟩ ⟨ow3, memoT_nil⟩
 have : (List.range ns.length).contains e = true := List.contains_iff_mem.mpr (List.mem_range.mpr he)
 rw [this]
 rfl
end
abbrev sWah : Stmt := inClass (top 32) 4
abbrev sNa : Stmt := inClass (top 32) 7
def ahd (w : Nat → Nat) (l : List Nat) (k : Nat) : Nat := ((l.filter fun j => decide (j < k)).map w).sum
theorem ahd_cons (w : Nat → Nat) (a : Nat) (r : List Nat) (k : Nat) : ahd w (a :: r) k = (if a < k then w a else 0) + ahd w r k := by
 unfold ahd
 rw [List.filter_cons]
 by_cases h : a < k
 ·rw [if_pos (decide_eq_true h), if_pos h, List.map_cons, List.sum_cons]
 ·rw [if_neg (by rw [decide_eq_false h]; exact Bool.false_ne_true), if_neg h, Nat.zero_add]
theorem ahd_none {w : Nat → Nat} {l : List Nat} {k : Nat} (h : ∀ j ∈ l, k ≤ j) : ahd w l k = 0 := by
 unfold ahd
 rw [List.filter_eq_nil_iff.mpr fun j hj => by rw [decide_eq_true_iff]; have := h j hj; omega]
 rfl
theorem ahd_all {w : Nat → Nat} {l : List Nat} {k : Nat} (h : ∀ j ∈ l, j < k) : ahd w l k = (l.map w).sum := by
 unfold ahd
 rw [List.filter_eq_self.mpr fun j hj => decide_eq_true (h j hj)]
theorem ahd_app (w : Nat → Nat) (p q : List Nat) (k : Nat) : ahd w (p ++ q) k = ahd w p k + ahd w q k := by
 unfold ahd
 rw [List.filter_append, List.map_append, List.sum_append]
theorem ahd_at {w : Nat → Nat} {p q : List Nat} {k : Nat} (h : (p ++ k :: q).Pairwise (· < ·)) : ahd w (p ++ k :: q) k = (p.map w).sum := by
 obtain ⟨h1, h2, h3⟩ := List.pairwise_append.mp h
 have z : ahd w (k :: q) k = 0 := ahd_none fun j hj => by
  rcases List.mem_cons.mp hj with y | y
  ·omega
  ·exact Nat.le_of_lt (List.rel_of_pairwise_cons h2 y)
 rw [ahd_app, z, ahd_all (w := w) (l := p) (k := k) fun j hj => h3 j hj k List.mem_cons_self]
 rfl
theorem ahd_next {w : Nat → Nat} {l : List Nat} {k k' : Nat} (hp : l.Pairwise (· < ·)) (hk : k ∈ l) (h : k < k') : ahd w l k + w k ≤ ahd w l k' := by
 obtain ⟨p, q, e⟩ := List.append_of_mem hk
 subst e
 rw [ahd_at hp]
 obtain ⟨_, _, h3⟩ := List.pairwise_append.mp hp
 rw [ahd_app, ahd_all fun j hj => Nat.lt_trans (h3 j hj k List.mem_cons_self) h, ahd_cons, if_pos h]
 omega
theorem ahd_ex (w : Nat → Nat) : ∀ {l : List Nat}, l.Pairwise (· < ·) → ∀ num < (l.map w).sum, ∃ k ∈ l, ahd w l k ≤ num ∧ num < ahd w l k + w k
 | [], _, num, h => absurd h (Nat.not_lt_zero _)
 | a :: r, hp, num, h => by
  have hr : ∀ j ∈ r, a < j := fun j hj => List.rel_of_pairwise_cons hp hj
  by_cases ha : num < w a
  ·refine ⟨a, List.mem_cons_self, ?_⟩
   rw [ahd_cons, if_neg (Nat.lt_irrefl _), ahd_none fun j hj => Nat.le_of_lt (hr j hj)]
   omega
  ·rw [List.map_cons, List.sum_cons] at h
   obtain ⟨k, hk, h1, h2⟩ := ahd_ex w hp.of_cons (num - w a) (by omega)
   refine ⟨k, List.mem_cons_of_mem _ hk, ?_⟩
   rw [ahd_cons, if_pos (hr k hk)]
   omega
section
variable (near : Nat → List Nat) (ends : Nat → Bool)
def nbs (left e : Nat) : List Nat := (near e).filter fun k => left.testBit k
def wBy (left k : Nat) : Nat := ways near ends (left - 2 ^ k) k
def wAh (left e k : Nat) : Nat := ahd (wBy near ends left) (nbs near left e) k
def pickF (left e num : Nat) : Option Nat := ((nbs near left e).filter fun k => decide (wAh near ends left e k ≤ num)).getLast?
def byF : Nat → Nat → Nat → Nat → List Nat
 | 0, _, _, _ => []
 | m + 1, left, e, num => match pickF near ends left e num with
  | none => []
  | some k => k :: byF m (left - 2 ^ k) k (num - wAh near ends left e k)
def byN (left e num : Nat) : List Nat := byF near ends (cnt left) left e num
variable {near ends}
theorem pick_is {n left e num k : Nat} (N : NearOk near n) (he : e ≤ n) (hk : k ∈ nbs near left e) (h1 : wAh near ends left e k ≤ num) (h2 : num < wAh near ends left e k + wBy near ends left k) : pickF near ends left e num = some k := by
 have hp : (nbs near left e).Pairwise (· < ·) := (N.up e he).sublist List.filter_sublist
 obtain ⟨p, q, eq⟩ := List.append_of_mem hk
 unfold pickF
 have hq : q.filter (fun k => decide (wAh near ends left e k ≤ num)) = [] := List.filter_eq_nil_iff.mpr fun j hj => by
  rw [decide_eq_true_iff]
  have hlt : k < j := by
   rw [eq] at hp
   exact List.rel_of_pairwise_cons (List.pairwise_append.mp hp).2.1 hj
  have := ahd_next (w := wBy near ends left) hp hk hlt
  show ¬ ahd (wBy near ends left) (nbs near left e) j ≤ num
  have h2' : num < ahd (wBy near ends left) (nbs near left e) k + wBy near ends left k := h2
  omega
 rw [eq, List.filter_append, List.filter_cons, if_pos (decide_eq_true h1), hq, List.getLast?_append]
 rfl
theorem by_cons {n left e num : Nat} (N : NearOk near n) (hl : left < 1024) (h0 : left ≠ 0) (he : e ≤ n) (h : num < ways near ends left e) :
  ∃ k, k ∈ nbs near left e ∧ k < n ∧ left.testBit k = true ∧ pickF near ends left e num = some k ∧ wAh near ends left e k ≤ num ∧ num - wAh near ends left e k < ways near ends (left - 2 ^ k) k ∧ byN near ends left e num = k :: byN near ends (left - 2 ^ k) k (num - wAh near ends left e k) := by
 have hp : (nbs near left e).Pairwise (· < ·) := (N.up e he).sublist List.filter_sublist
 rw [ways_succ N hl h0 he] at h
 obtain ⟨k, hk, h1, h2⟩ := ahd_ex (wBy near ends left) hp num h
 have pk := pick_is N he hk h1 h2
 obtain ⟨k1, k2⟩ := List.mem_filter.mp hk
 have hkn := N.lt e he k k1
 have n10 := N.n10
 have cd := (cnt_dec left hl k (by omega) k2).1
 refine ⟨k, hk, hkn, k2, pk, h1, ?_, ?_⟩
 ·have h2' : num < wAh near ends left e k + ways near ends (left - 2 ^ k) k := h2
  have h1' : wAh near ends left e k ≤ num := h1
  omega
 ·unfold byN
  rw [← cd]
  have gen : ∀ m, byF near ends (m + 1) left e num = k :: byF near ends m (left - 2 ^ k) k (num - wAh near ends left e k) := fun m => by
   show (match pickF near ends left e num with | none => [] | some k => k :: byF near ends m (left - 2 ^ k) k (num - wAh near ends left e k)) = _
   rw [pk]
  exact gen _
end
def spWah (C : Addr) (m : Nat) : Sp := fun vs H Q _ => ∃ (p : SP) (kvs : List (List Key × V)) (left e k : Nat), vs = [.ref p.s, .int left, .int e, .int k] ∧ Tly C p H ∧ KnownT p H kvs ∧ left < 2 ^ p.n ∧ cnt left ≤ m ∧ e ≤ p.n ∧
 ∀ (H' : Hp) (kvs' : List (List Key × V)), Ex (· = p.ow) H H' → KnownT p H' kvs' → Q (.int (wAh p.near p.ends left e k : Nat)) H'
def rowN (ns ss : List Int) (num : Nat) : List Int := (byN (nearX ns ss (List.range ns.length)) (endsP ns ss false) (2 ^ ns.length - 1) ns.length num).map fun k => ns.getD k 0
def spRb : Sp := fun vs H Q _ => ∃ (t a b : Addr) (ns ss : List Int) (num : Nat), vs = [.ref t, .int num] ∧ IsPl H t a b ns ss ∧ num < cntW ns ss false ∧ ∀ (l : Addr) (H' : Hp), Same H H' → H l = none → H' l = some (.lst ((rowN ns ss num).map V.int)) → Q (.ref l) H'
theorem take_flt {ks : List Nat} {q : Nat → Bool} {i : Nat} (hi : i < ks.length) : (ks.take (i + 1)).filter q = (ks.take i).filter q ++ if q ks[i] = true then [ks[i]] else [] := by
 have tk : ks.take (i + 1) = ks.take i ++ [ks[i]] := by rw [List.take_add_one, List.getElem?_eq_getElem hi]; rfl
 rw [tk, List.filter_append, List.filter_cons]
 rfl
section
variable (near : Nat → List Nat) (ends : Nat → Bool)
def numF : Nat → Nat → List Nat → Nat
 | _, _, [] => 0
 | left, e, k :: r => wAh near ends left e k + numF (left - 2 ^ k) k r
end
def InL : Nat → List Nat → Prop
 | _, [] => True
 | left, k :: r => left.testBit k = true ∧ InL (left - 2 ^ k) r
theorem bit_of' : ∀ m < 1024, ∀ k < 10, m.testBit k = true → ∀ j < 10, (m - 2 ^ k).testBit j = (m.testBit j && decide (j ≠ k)) := by decide +kernel
theorem inL_of : ∀ {ks : List Nat} {left : Nat}, left < 1024 → ks.Nodup → (∀ k ∈ ks, k < 10 ∧ left.testBit k = true) → InL left ks
 | [], _, _, _, _ => trivial
 | k :: r, left, hl, nd, h => by
  obtain ⟨k10, hb⟩ := h k List.mem_cons_self
  obtain ⟨nk, nd'⟩ := List.nodup_cons.mp nd
  refine ⟨hb, inL_of (Nat.lt_of_le_of_lt (Nat.sub_le _ _) hl) nd' fun j hj => ?_⟩
  obtain ⟨j10, jb⟩ := h j (List.mem_cons_of_mem _ hj)
  refine ⟨j10, ?_⟩
  rw [bit_of' left hl k k10 hb j j10, jb, decide_eq_true (p := j ≠ k) fun z : j = k => nk (z ▸ hj)]
  rfl
theorem num_by {near : Nat → List Nat} {ends : Nat → Bool} {n : Nat} (N : NearOk near n) : ∀ (m left e num : Nat), cnt left = m → left < 1024 → e ≤ n → num < ways near ends left e → numF near ends left e (byN near ends left e num) = num
 | 0, left, e, num, hc, hl, he, h => by
  have z := cnt_zero left hl hc
  subst z
  have h1 : ways near ends 0 e ≤ 1 := by
   show (if ends e then 1 else 0) ≤ 1
   split <;> decide
  show 0 = num
  omega
 | m + 1, left, e, num, hc, hl, he, h => by
  have h0 : left ≠ 0 := fun z => by
   have c0 : cnt 0 = 0 := by decide
   rw [z, c0] at hc
   omega
  obtain ⟨k, hk, hkn, hb, pk, h1, h2, hc2⟩ := by_cons N hl h0 he h
  have n10 := N.n10
  have cd := (cnt_dec left hl k (by omega) hb).1
  rw [hc2]
  show wAh near ends left e k + numF near ends (left - 2 ^ k) k (byN near ends (left - 2 ^ k) k (num - wAh near ends left e k)) = num
  rw [num_by N m (left - 2 ^ k) k (num - wAh near ends left e k) (by omega) (Nat.lt_of_le_of_lt (Nat.sub_le _ _) hl) (by omega) h2]
  omega
def Walk (near : Nat → List Nat) : Nat → List Nat → Prop
 | _, [] => True
 | e, k :: r => k ∈ near e ∧ Walk near k r
theorem by_walk {near : Nat → List Nat} {ends : Nat → Bool} {n : Nat} (N : NearOk near n) : ∀ (m left e num : Nat), cnt left = m → left < 1024 → e ≤ n → num < ways near ends left e → (byN near ends left e num).length = m ∧ (byN near ends left e num).Nodup ∧ (∀ k ∈ byN near ends left e num, k < n ∧ left.testBit k = true) ∧ Walk near e (byN near ends left e num)
 | 0, left, e, num, hc, hl, he, h => by
  have z := cnt_zero left hl hc
  subst z
  exact ⟨rfl, List.nodup_nil, (fun _ h => nomatch h), trivial⟩
 | m + 1, left, e, num, hc, hl, he, h => by
  have h0 : left ≠ 0 := fun z => by
   have c0 : cnt 0 = 0 := by decide
   rw [z, c0] at hc
   omega
  obtain ⟨k, hk, hkn, hb, pk, h1, h2, hc2⟩ := by_cons N hl h0 he h
  have n10 := N.n10
  have cd := (cnt_dec left hl k (by omega) hb).1
  obtain ⟨a1, a2, a3, a4⟩ := by_walk N m (left - 2 ^ k) k (num - wAh near ends left e k) (by omega) (Nat.lt_of_le_of_lt (Nat.sub_le _ _) hl) (by omega) h2
  have a5 : ∀ j ∈ byN near ends (left - 2 ^ k) k (num - wAh near ends left e k), left.testBit j = true ∧ j ≠ k := fun j hj => by
   obtain ⟨j1, j2⟩ := a3 j hj
   rw [bit_of' left hl k (by omega) hb j (by omega), Bool.and_eq_true, decide_eq_true_iff] at j2
   exact j2
  rw [hc2]
  refine ⟨by rw [List.length_cons, a1], List.nodup_cons.mpr ⟨fun z => (a5 k z).2 rfl, a2⟩, fun j hj => ?_, (List.mem_filter.mp hk).1, a4⟩
  rcases List.mem_cons.mp hj with z | z
  ·rw [z]; exact ⟨hkn, hb⟩
  ·exact ⟨(a3 j z).1, (a5 j z).1⟩
def spNa (C : Addr) : Sp := fun vs H Q _ => ∃ (p : SP) (kvs : List (List Key × V)) (l : Addr) (ks : List Nat), vs = [.ref p.s, .ref l] ∧ Tly C p H ∧ KnownT p H kvs ∧ H l = some (.lst ((iv ks).map V.int)) ∧ InL (2 ^ p.n - 1) ks ∧ (∀ k ∈ ks, k < p.n) ∧
 ∀ (H' : Hp) (kvs' : List (List Key × V)), Ex (· = p.ow) H H' → KnownT p H' kvs' → Q (.int (numF p.near p.ends (2 ^ p.n - 1) p.n ks : Nat)) H'
section
variable {f g1 g2 g3 g4 g5 C C0 : Addr} {mc : Value} {fd gd1 gd2 gd3 gd4 gd5 : FuncData}
theorem scWah : FnScope ["self", "left", "end", "place"] ["self", "left", "end", "place"] (defScope sWah) := ⟨rfl, rfl, rfl, by decide +kernel, rfl, by decide +kernel, by decide +kernel⟩
theorem ok_wah {j m : Nat} (F : Fun K "ways_ahead" "Tally.ways_ahead" sWah f fd) (B : Bt4 mg) (T : TyT K C) (mB : Meth K C "ways_by" g2) (mS : Meth K C "steps" g3)
  (GB : FnOk P w K mg base CX0 j g2 gd2 ["self", "left", "place"] (spWb C m)) (bB : Binds K gd2 ["self", "left", "place"] [])
  (GS : FnOk P w K mg base CX0 j g3 gd3 ["self", "left", "end"] (spSteps C)) (bS : Binds K gd3 ["self", "left", "end"] []) : FnOk P w K mg base CX0 (j + 1) f fd ["self", "left", "end", "place"] (spWah C m) := by
 refine F.ok scWah (fun vs H Q E h => ?_) (fun cdv A outer s H vs Q E hr h => ?_)
 ·obtain ⟨p, kvs, left, e, k, rfl, _⟩ := h
  rfl
 obtain ⟨p, kvs, left, e, k0, rfl, S, hd, hl, hc, he, q⟩ := h
 have n10 := S.ok.n10
 have hl' := S.lt hl
 refine ⟨_, (@pss_one _ _ _ (ps_ret (pe_callB (call_sumL rfl) rfl B.sum boot_sum (pa_cons (pe_comp ["other"] rfl (blk_ok (defScope sWah) ["self", "left", "end", "place"] rfl rfl (by decide +kernel)) (pi_list (pe_meth (pv 0) T.cl mS GS hr bS .nil pass0 (pa_cons (pv 1) (pa_cons (pv 2) pa_nil)))) (fun pins C fp s3 H3 => ⟨(pg_name (i := 0) (show (blkN ["other"] ["self", "left", "end", "place"]).Nodup by decide +kernel) rfl (Or.inl rfl)), (pif_one (pt_cmpR op_lt (pv 0) (pv 4) (nomark _))), (pe_meth (pv 1) T.cl mB GB hr bB .nil pass0 (pa_cons (pv 2) (pa_cons (pv 0) pa_nil)))⟩)) pa_nil)))), ?_⟩
 refine ⟨_, rfl, p.s, p.dx, _, rfl, S.at_, rfl, _, rfl, _, rfl, p.s, p.dx, p.nr, _, p.n, p.near, left, e, rfl, S.at_, rfl, S.nr, S.ok, he, hl', fun l H2 g2 hln e2 => ⟨l, rfl, ⟨_, SqL.of e2⟩, fun D hD => ?_⟩⟩
 have hd2 : KnownT p H2 kvs := ⟨g2 _ _ hd.1, hd.2⟩
 have lo : l ≠ p.ow := ne_of e2 hd2.1 (by intro z; cases z)
 have Do : p.ow ≠ D := ne_of_none hd2.1 hD
 have klen : ((p.near e).filter fun k => left.testBit k).length ≤ 10 := Nat.le_trans (List.length_filter_le _ _) (Nat.le_trans (near_len S.ok he) n10)
 obtain ⟨ks, eks⟩ : ∃ ks, ks = (p.near e).filter fun k => left.testBit k := ⟨_, rfl⟩
 have hmem : ∀ k ∈ ks, k < p.n ∧ left.testBit k = true := fun k hk => by
  rw [eks] at hk
  obtain ⟨h1, h2⟩ := List.mem_filter.mp hk
  exact ⟨S.ok.lt e he k h1, h2⟩
 rw [← eks] at e2 klen
 have kml : ((iv ks).map V.int).length = ks.length := by rw [List.length_map, iv_len]
 refine turns_any (n := ks.length) (fun i σ' H' => ∃ (x : Option V) (kvs' : List (List Key × V)), σ' = [x, some (.ref p.s), some (.int left), some (.int e), some (.int (k0 : Nat))] ∧ Ex (· = p.ow) H2 H' ∧ KnownT p H' kvs' ∧ H' D = some (.lst ((((ks.take i).filter fun j => decide (j < k0)).map fun k => ((ways p.near p.ends (left - 2 ^ k) k : Nat) : Int)).map V.int)))
  ⟨none, kvs, rfl, Ex.new _ hD, ⟨by rw [upd_ne Do]; exact hd2.1, hd2.2⟩, upd_same⟩ ?_ ?_
 ·rintro i σ' H' hi ⟨x, kvs', rfl, ex, hk', hD'⟩
  have ek : ks[i]? = some ks[i] := List.getElem?_eq_getElem hi
  obtain ⟨hkn, hb⟩ := hmem _ (List.getElem_mem hi)
  have el2 := ex _ _ lo e2
  refine ⟨⟨_, _, SqL.of el2, nat_at ek⟩, fun y H3 hy => ?_⟩
  obtain ⟨rfl, hy⟩ := hy
  have ey := hy _ (SqL.of el2)
  rw [nat_at ek] at ey
  cases ey
  have S' : Tly C p H3 := (S.ex hd.1 (Ex.same g2)).ex hd2.1 ex
  have ec : decide (((ks[i] : Nat) : Int) < ((k0 : Nat) : Int)) = decide (ks[i] < k0) := decide_eq_decide.mpr (by omega)
  refine ⟨_, rfl, _, rfl, _, _, rfl, rfl, _, rfl, ?_⟩
  rw [ec]
  refine ite2 (fun c => ?_) (fun c => ?_)
  ·refine ⟨_, rfl, p.s, p.dx, _, rfl, S'.at_, rfl, _, rfl, _, rfl, p, kvs', left, ks[i], rfl, S', hk', hl, hb, hkn, hc, fun H4 kvs4 ex4 hk4 => ?_⟩
   have hD4 := ex4 _ _ (Ne.symm Do) hD'
   refine ⟨_, hD4, small1000 (by rw [List.length_map, List.length_map]; have := List.length_filter_le (fun j => decide (j < k0)) (ks.take i); rw [List.length_take] at this; omega), _, kvs4, rfl, fun c o hc ho => ?_, ⟨by rw [upd_ne Do]; exact hk4.1, hk4.2⟩, ?_⟩
   ·rw [upd_ne (ne_of_none ho hD)]
    exact ex4 _ _ hc (ex _ _ hc ho)
   ·rw [upd_same, take_flt hi, if_pos c, List.map_append, List.map_append]
    rfl
  ·refine ⟨_, kvs', rfl, ex, hk', ?_⟩
   rw [take_flt hi, if_neg c, List.append_nil]
   exact hD'
 ·rintro σ' H' ⟨x, kvs', rfl, ex, hk', hD'⟩
  have el2 := ex _ _ lo e2
  refine ⟨⟨_, SqL.of el2, by rw [kml]; exact Nat.le_refl _⟩, ?_⟩
  rw [List.take_of_length_le (Nat.le_refl _)] at hD'
  refine ⟨D, _, rfl, hD', ?_⟩
  rw [sum_cast]
  have z := q H' kvs' ((Ex.same g2).trans ex) hk'
  unfold wAh ahd nbs at z
  rw [← eks] at z
  exact z
theorem scNa : FnScope ["self", "places", "number", "left", "end", "place"] ["self", "places"] (defScope sNa) := ⟨rfl, rfl, rfl, by decide +kernel, rfl, by decide +kernel, by decide +kernel⟩
theorem ok_na {j : Nat} (F : Fun K "number_at" "Tally.number_at" sNa f fd) (T : TyT K C) (mA : Meth K C "ways_ahead" g1)
  (GA : FnOk P w K mg base CX0 j g1 gd1 ["self", "left", "end", "place"] (spWah C 10)) (bA : Binds K gd1 ["self", "left", "end", "place"] []) : FnOk P w K mg base CX0 (j + 1) f fd ["self", "places"] (spNa C) := by
 refine F.ok scNa (fun vs H Q E h => ?_) (fun cdv A outer s H vs Q E hr h => ?_)
 ·obtain ⟨p, kvs, l, ks, rfl, _⟩ := h
  rfl
 obtain ⟨p, kvs, l, ks, rfl, S, hd, hl, hin, hlt, q⟩ := h
 have n10 := S.ok.n10
 have hp2 : 2 ^ p.n - 1 < 2 ^ p.n := Nat.sub_lt (Nat.two_pow_pos _) (by decide)
 have lo : l ≠ p.ow := ne_of hl hd.1 (by intro z; cases z)
 refine ⟨_, (@pss_cons _ _ _ _ _ (ps_set (i := 2) scNa.nd rfl (Or.inl rfl) pe_int) (@pss_cons _ _ _ _ _ (ps_set (i := 3) scNa.nd rfl (Or.inl rfl) (pe_fld (pv 0) rfl)) (@pss_cons _ _ _ _ _ (ps_set (i := 4) scNa.nd rfl (Or.inl rfl) (pe_fld (pv 0) rfl)) (@pss_cons _ _ _ _ _ (ps_for PassesOwn.never rfl (pi_list (pv 1)) (pg_name (i := 5) scNa.nd rfl (Or.inl rfl)) (@pss_cons _ _ _ _ _ (ps_set (i := 2) scNa.nd rfl (Or.inl rfl) (pe_op op_add (pv 2) (pe_meth (pv 0) T.cl mA GA hr bA .nil pass0 (pa_cons (pv 3) (pa_cons (pv 4) (pa_cons (pv 5) pa_nil)))))) (@pss_cons _ _ _ _ _ (ps_set (i := 3) scNa.nd rfl (Or.inl rfl) (pe_op op_sub (pv 3) (pe_op op_shl pe_int (pv 5)))) (@pss_one _ _ _ (ps_set (i := 4) scNa.nd rfl (Or.inl rfl) (pv 5)))))) (@pss_one _ _ _ (ps_ret (pv 2))))))), ?_⟩
 refine ⟨_, rfl, p.s, C, p.dx, fsT p, _, rfl, S.at_, T.cl, T.nW, rfl, _, rfl, p.s, C, p.dx, fsT p, _, rfl, S.at_, T.cl, T.nA, rfl, ?_⟩
 refine ⟨_, rfl, l, rfl, ⟨_, SqL.of hl⟩, ?_⟩
 refine for_list (xs := (iv ks).map V.int) (fun i σ H' => ∃ (x5 : Option V) (left e num : Nat) (kvs' : List (List Key × V)), σ = [some (.ref p.s), some (.ref l), some (.int (num : Nat)), some (.int left), some (.int e), x5] ∧ Ex (· = p.ow) H H' ∧ KnownT p H' kvs' ∧ left < 2 ^ p.n ∧ e ≤ p.n ∧ InL left (ks.drop i) ∧ num + numF p.near p.ends left e (ks.drop i) = numF p.near p.ends (2 ^ p.n - 1) p.n ks)
  ⟨none, 2 ^ p.n - 1, p.n, 0, kvs, rfl, Ex.refl, hd, hp2, Nat.le_refl _, hin, Nat.zero_add _⟩ (fun i σ H' _ ⟨_, _, _, _, _, _, ex, _⟩ => SqL.of (ex _ _ lo hl)) ?_ ?_
 ·rintro i x σ H' hxi ⟨x5, left, e, num, kvs', rfl, ex, hk', hlf, he, hi, hsum⟩
  rw [iv_V, List.getElem?_map] at hxi
  cases hk : ks[i]? with
  | none => rw [hk] at hxi; cases hxi
  | some k =>
   rw [hk] at hxi
   cases hxi
   obtain ⟨hii, ek⟩ := List.getElem?_eq_some_iff.mp hk
   rw [List.drop_eq_getElem_cons hii, ek] at hi hsum
   obtain ⟨hb, hi'⟩ := hi
   have hkn := hlt k (List.mem_of_getElem? hk)
   have S' : Tly C p H' := S.ex hd.1 ex
   refine ⟨_, rfl, _, rfl, p.s, p.dx, _, rfl, S'.at_, rfl, _, rfl, _, rfl, _, rfl, p, kvs', left, e, k, rfl, S', hk', hlf, cnt_le _ (S.lt hlf), he, fun H3 kvs3 ex3 hk3 => ⟨_, _, rfl, rfl, ?_⟩⟩
   refine ⟨_, rfl, _, rfl, _, _, rfl, rfl, ⟨by show (0 : Int) ≤ (k : Int); omega, by show (k : Int) ≤ 1000000; omega, by decide⟩, _, _, rfl, rfl, ?_⟩
   refine ⟨_, rfl, ?_⟩
   refine ⟨some (.int (k : Nat)), left - 2 ^ k, k, num + wAh p.near p.ends left e k, kvs3, ?_, ex.trans ex3, hk3, Nat.lt_of_le_of_lt (Nat.sub_le _ _) hlf, by omega, hi', ?_⟩
   ·rw [← sub_V left k (bit_le hb)]
    rfl
   ·rw [← hsum]
    show num + wAh p.near p.ends left e k + _ = num + (wAh p.near p.ends left e k + _)
    omega
 ·rintro σ H' ⟨x5, left, e, num, kvs', rfl, ex, hk', hlf, he, hi, hsum⟩
  have el : ((iv ks).map V.int).length = ks.length := by rw [List.length_map, iv_len]
  rw [el, List.drop_length] at hsum
  have e0 : num = numF p.near p.ends (2 ^ p.n - 1) p.n ks := hsum
  refine ⟨_, rfl, ?_⟩
  rw [e0]
  exact q H' kvs' ex hk'
end
abbrev sNo : Stmt := top 34
def numW (ns ss zs : List Int) : Nat := numF (nearX ns ss (List.range ns.length)) (endsP ns ss false) (2 ^ ns.length - 1) ns.length (zs.map fun z => ns.idxOf z)
def numD (ns ss : List Int) (d : PyData) : Nat := match intsD d with
 | some zs => numW ns ss zs
 | none => 0
theorem whole_bit' : ∀ n ≤ 10, ∀ k < n, (2 ^ n - 1).testBit k = true := by decide
theorem idx_nd {ns : List Int} : ∀ {zs : List Int}, zs.Nodup → (∀ z ∈ zs, z ∈ ns) → (zs.map fun z => ns.idxOf z).Nodup
 | [], _, _ => List.nodup_nil
 | z :: r, nd, h => by
  obtain ⟨n1, n2⟩ := List.nodup_cons.mp nd
  rw [List.map_cons]
  refine List.nodup_cons.mpr ⟨fun hm => ?_, idx_nd n2 fun y hy => h y (List.mem_cons_of_mem _ hy)⟩
  obtain ⟨y, hy, e⟩ := List.mem_map.mp hm
  have hz := h z List.mem_cons_self
  have hy' := h y (List.mem_cons_of_mem _ hy)
  have e1 : ns[ns.idxOf z]? = some z := List.getElem?_eq_some_iff.mpr ⟨List.idxOf_lt_length_iff.mpr hz, List.getElem_idxOf _⟩
  have e2 : ns[ns.idxOf y]? = some y := List.getElem?_eq_some_iff.mpr ⟨List.idxOf_lt_length_iff.mpr hy', List.getElem_idxOf _⟩
  have e' : ns.idxOf y = ns.idxOf z := e
  rw [e', e1] at e2
  exact n1 (Option.some.inj e2 ▸ hy)
theorem map_rng (zs : List Int) (F : Int → V) : ((List.range zs.length).filter fun _ => true).map (fun i => F (zs.getD i 0)) = zs.map F := by
 rw [List.filter_eq_self.mpr fun _ _ => rfl]
 refine List.ext_getElem (by rw [List.length_map, List.length_map, List.length_range]) fun i h1 h2 => ?_
 have hi : i < zs.length := by rw [List.length_map] at h2; exact h2
 rw [List.getElem_map, List.getElem_map, List.getElem_range, List.getD_eq_getElem?_getD, List.getElem?_eq_getElem hi]
 rfl
def spNo (XP XR : Addr) : Sp := fun vs H Q E => ∃ (v0 : V) (d0 : PyData) (v : V) (d : PyData), vs = [v0, v] ∧ Dat H v0 d0 ∧ Dat H v d ∧ shortD d ∧ (planD d0 = true → ∀ (t a b : Addr) (ns ss : List Int), v0 = .ref t → IsPl H t a b ns ss →
 (rowD ns ss d = true → ∀ H', Same H H' → Q (.int (numD ns ss d : Nat)) H') ∧ (rowD ns ss d = false → ∀ H', Same H H' → E (.ref XR) none H')) ∧ (planD d0 = false → E (.ref XP) none H)
section
variable {f g1 g2 g3 g4 g5 C XP XR : Addr} {mc : Value} {fd gd1 gd2 gd3 gd4 gd5 : FuncData}
theorem scNo : FnScope ["plan", "thing"] ["plan", "thing"] (defScope sNo) := ⟨rfl, rfl, rfl, by decide +kernel, rfl, by decide +kernel, by decide +kernel⟩
theorem ok_no {j : Nat} (F : Fun K "number_of" "number_of" sNo f fd) (T : TyT K C) (mA : Meth K C "number_at" g1) (eXR : PySem.W.excIn K XR bmV "ValueError.__new__" = true) (mXR : mg "NoRow" = some (.ref XR))
  (GA : FnOk P w K mg base CX0 j g1 gd1 ["self", "places"] (spNa C)) (bA : Binds K gd1 ["self", "places"] [])
  (GR : FnOk P w K mg base (CX1 P w) j g2 gd2 ["plan", "thing"] (spIsRX XP)) (bR : Binds K gd2 ["plan", "thing"] []) (kR : Kee K g2) (mR : mg "is_row" = some (.ref g2))
  (GT : FnOk P w K mg base CX0 j g3 gd3 ["plan"] (spTr C)) (bT : Binds K gd3 ["plan"] []) (kT : Kee K g3) (mT : mg "tally_of_rows" = some (.ref g3)) : FnOk P w K mg base (CX1 P w) (j + 1) f fd ["plan", "thing"] (spNo XP XR) := by
 refine F.ok1 scNo (fun vs H Q E h => ?_) (fun cdv A outer s H vs Q E hr h => ?_)
 ·obtain ⟨v0, d0, v, d, rfl, _⟩ := h
  rfl
 obtain ⟨v0, d0, v, d, rfl, hd0, hd, sh, q, qe⟩ := h
 refine ⟨_, (@pss_cons _ _ _ _ _ (ps_if (pt_not (pt_val (pe_call GR hr rfl mR kR bR .nil pass1 (pa_cons (pv 0) (pa_cons (pv 1) pa_nil))))) (@pss_one _ _ _ (ps_raise raises1 rfl PySem.F.excBase_ValueError eXR rfl mXR (pa_cons pe_str pa_nil))) pss_nil) (PSs.nox (@pss_one _ _ _ (ps_ret (pe_meth (pe_call GT hr rfl mT kT bT .nil pass0 (pa_cons (pv 0) pa_nil)) T.cl mA GA hr bA .nil pass0 (pa_cons (pe_comp ["number"] rfl (blk_ok (defScope sNo) ["plan", "thing"] rfl rfl (by decide +kernel)) (pi_list (pv 1)) (fun pins C fp s3 H3 => ⟨(pg_name (i := 0) (show (blkN ["number"] ["plan", "thing"]).Nodup by decide +kernel) rfl (Or.inl rfl)), pif_nil, (pe_bmK K PySem.F.plainAttrs_list PySem.F.slot_list_index PySem.F.type_list_index mt_index (pe_ix (ix_tupK K) (pv 1) pe_int (fun _ _ => rfl)) (pa_cons (pv 0) pa_nil))⟩)) pa_nil)))))), ?_⟩
 refine ⟨_, rfl, _, rfl, v0, d0, v, d, rfl, hd0, hd, sh, ?_, qe⟩
 intro c0 t a b ns ss e0 pl H1 g1
 obtain ⟨q1, q2⟩ := q c0 t a b ns ss e0 pl
 subst e0
 refine ⟨_, rfl, ?_⟩
 cases c : rowD ns ss d with
 | false => exact iteT ⟨by decide, q2 c H1 g1⟩
 | true =>
  refine iteF ?_
  have q1 := q1 c
  unfold rowD at c
  unfold numD at q1
  cases ez : intsD d with
  | none => rw [ez] at c; cases c
  | some zs =>
   rw [ez] at c q1
   obtain ⟨p0, rfl, hp0, z64⟩ := ints_of hd sh ez
   have pm : zs.Perm ns := List.isPerm_iff.mp (Bool.and_eq_true_iff.mp c).1
   have pl1 := pl.same g1
   have n10 := pl.ok.n2
   have nsnd : ns.Nodup := pl.ok.n.up.imp fun h z => by omega
   have zin : ∀ z ∈ zs, z ∈ ns := fun z hz => pm.mem_iff.mp hz
   refine ⟨_, rfl, t, a, b, ns, ss, rfl, pl1, fun p H2 e1 e2 e3 g2 how S hk => ?_⟩
   have pl2 := pl1.same g2
   have hp2 := g2 _ _ (g1 _ _ hp0)
   have zml : (zs.map V.int).length = zs.length := List.length_map _
   refine ⟨p.s, p.dx, _, rfl, S.at_, rfl, ?_⟩
   refine ⟨_, rfl, p0, rfl, ⟨_, SqL.of hp2⟩, fun D hD => ?_⟩
   refine turns_list (σ := [some (.ref t), some (.ref p0)]) (xs := zs.map V.int) (fun _ => true) (fun i => .int ((ns.idxOf (zs.getD i 0) : Nat) : Int)) (SqL.of hp2) hD (by omega) (fun i H' hi g P hP => ?_) (fun i H' hi _ g P hP => ?_) fun H3 g3 e3' => ?_
   ·exact hP _ Same.rfl'
   ·have hi' : i < zs.length := by rw [zml] at hi; exact hi
    have ek : zs[i]? = some zs[i] := List.getElem?_eq_getElem hi'
    have x1 : (zs.map V.int).getD i .non = .int zs[i] := by rw [List.getD_eq_getElem?_getD, List.getElem?_map, ek]; rfl
    have x2 : zs.getD i 0 = zs[i] := by rw [List.getD_eq_getElem?_getD, ek]; rfl
    have hin : zs[i] ∈ ns := zin _ (List.getElem_mem hi')
    rw [x1]
    rw [x2] at hP
    refine ⟨_, rfl, t, _, 0, _, rfl, rfl, SqT.of (pl2.same g).t, rfl, .inl ⟨rfl, _, SqL.of (pl2.same g).a⟩, _, rfl, a, ns, zs[i], ns.idxOf zs[i], rfl, rfl, (pl2.same g).a, List.getElem?_eq_some_iff.mpr ⟨List.idxOf_lt_length_iff.mpr hin, List.getElem_idxOf _⟩, fun m hm hz => ?_, by omega, hP _ Same.rfl'⟩
    obtain ⟨m1, m2⟩ := List.getElem?_eq_some_iff.mp hz
    have il := List.idxOf_lt_length_iff.mpr hin
    have lt := List.pairwise_iff_getElem.mp pl.ok.n.up m (ns.idxOf zs[i]) m1 il hm
    rw [m2, List.getElem_idxOf] at lt
    omega
   ·have S3 := S.ex hk.1 (Ex.same g3)
    have eks : H3 D = some (.lst ((iv (zs.map fun z => ns.idxOf z)).map V.int)) := by
     rw [e3', zml, iv_V, List.map_map]
     refine congrArg (fun x => some (HO.lst x)) ?_
     exact map_rng zs fun z => V.int ((ns.idxOf z : Nat) : Int)
    refine ⟨p, [], D, zs.map fun z => ns.idxOf z, rfl, S3, ⟨g3 _ _ hk.1, hk.2⟩, eks, ?_, ?_, fun H4 kvs4 ex4 hk4 => ?_⟩
    ·rw [e1]
     refine inL_of (Nat.lt_of_lt_of_le (Nat.sub_lt (Nat.two_pow_pos _) (by decide)) (pow_le _ (by omega))) (idx_nd (pm.nodup_iff.mpr nsnd) zin) fun k hk => ?_
     obtain ⟨z, hz, rfl⟩ := List.mem_map.mp hk
     have := List.idxOf_lt_length_iff.mpr (zin z hz)
     exact ⟨by omega, whole_bit' _ n10 _ this⟩
    ·intro k hk
     obtain ⟨z, hz, rfl⟩ := List.mem_map.mp hk
     rw [e1]
     exact List.idxOf_lt_length_iff.mpr (zin z hz)
    ·rw [e1, e2, e3]
     exact q1 H4 fun c o hc => ex4 c o (ne_of_none (g1 _ _ hc) how) (g3 _ _ (g2 _ _ (g1 _ _ hc)))
end
abbrev sLN : Stmt := top 41
abbrev sLW : Stmt := top 42
def bitsM (n l : Nat) : List Nat := (List.range n).filter fun k => l.testBit k
def lstM (ns : List Int) (l : Nat) : List Int := (bitsM ns.length l).map fun k => ns.getD k 0
theorem bit_off : ∀ m < 1024, ∀ k < 10, m.testBit k = true → ∀ j < 10, (m - 2 ^ k).testBit j = (m.testBit j && decide (j ≠ k)) := by decide +kernel
theorem bits_nodup (n l : Nat) : (bitsM n l).Nodup := List.nodup_range.sublist List.filter_sublist
theorem bits_len (n l : Nat) : (bitsM n l).length ≤ n := Nat.le_trans (List.length_filter_le _ _) (by rw [List.length_range]; exact Nat.le_refl _)
theorem eraseIdx_filter {α : Type} [DecidableEq α] : ∀ {xs : List α} (_ : xs.Nodup) {i : Nat} (hi : i < xs.length), xs.eraseIdx i = xs.filter fun x => decide (x ≠ xs[i])
 | x :: r, nd, 0, hi => by
  have h := (List.nodup_cons.mp nd).1
  rw [List.eraseIdx_cons_zero, List.filter_cons]
  simp only [List.getElem_cons_zero, ne_eq, not_true_eq_false, decide_false, Bool.false_eq_true, if_false]
  exact (List.filter_eq_self.mpr fun y hy => decide_eq_true (p := ¬ y = x) fun e : y = x => h (e ▸ hy)).symm
 | x :: r, nd, i + 1, hi => by
  obtain ⟨h, nd'⟩ := List.nodup_cons.mp nd
  have hi' : i < r.length := by simpa using hi
  rw [List.eraseIdx_cons_succ, List.filter_cons]
  simp only [List.getElem_cons_succ]
  rw [if_pos (decide_eq_true (p := x ≠ r[i]) fun e : x = r[i] => h (e ▸ List.getElem_mem hi')), eraseIdx_filter nd' hi']
theorem bits_erase {n l i : Nat} (hn : n ≤ 10) (hl : l < 1024) (hi : i < (bitsM n l).length) : (bitsM n l).eraseIdx i = bitsM n (l - 2 ^ (bitsM n l)[i]) := by
 rw [eraseIdx_filter (bits_nodup n l) hi]
 obtain ⟨h1, h2⟩ := List.mem_filter.mp (List.getElem_mem hi)
 have hk : (bitsM n l)[i] < n := List.mem_range.mp h1
 generalize (bitsM n l)[i] = k at h1 h2 hk ⊢
 unfold bitsM
 rw [List.filter_filter]
 refine List.filter_congr fun j hj => ?_
 have hj' := List.mem_range.mp hj
 rw [bit_off l hl k (by omega) h2 j (by omega), Bool.and_comm]
theorem bits_mem {n l k : Nat} : k ∈ bitsM n l ↔ k < n ∧ l.testBit k = true := by unfold bitsM; rw [List.mem_filter, List.mem_range]
theorem bits_nil {n l : Nat} (hl : l < 2 ^ n) (h : bitsM n l = []) : l = 0 := by
 refine Nat.eq_of_testBit_eq fun k => ?_
 rw [Nat.zero_testBit]
 cases hb : l.testBit k with
 | false => rfl
 | true =>
  have : k ∈ bitsM n l := bits_mem.mpr ⟨bit_lt hl hb, hb⟩
  rw [h] at this
  exact nomatch this
theorem rise_inj {ns : List Int} (r : Rise ns) {i j : Nat} (hi : i < ns.length) (hj : j < ns.length) (h : ns.getD i 0 = ns.getD j 0) : i = j := by
 rw [List.getD_eq_getElem?_getD, List.getD_eq_getElem?_getD, List.getElem?_eq_getElem hi, List.getElem?_eq_getElem hj] at h
 have h' : ns[i] = ns[j] := h
 rcases Nat.lt_trichotomy i j with z | z | z
 ·have := List.pairwise_iff_getElem.mp r.up i j hi hj z
  omega
 ·exact z
 ·have := List.pairwise_iff_getElem.mp r.up j i hj hi z
  omega
def lastO (ns : List Int) (e : Nat) : Option Int := if e < ns.length then some (ns.getD e 0) else none
theorem lastO_lt {ns : List Int} {e : Nat} (h : e < ns.length) : lastO ns e = some (ns.getD e 0) := if_pos h
theorem lastO_n (ns : List Int) : lastO ns ns.length = none := if_neg (Nat.lt_irrefl _)
def kyN (ns : List Int) (l e : Nat) : NK := (lastO ns e, (lstM ns l).map Sum.inl)
def adjE (ns ss : List Int) (e k : Nat) : Bool := if e < ns.length then addUp ss (ns.getD e 0) (ns.getD k 0) else true
theorem or_by {t u : TT} {σ : L2.St} {H : Hp} {b : Bool} {Q : Bool → Hp → Prop} (h : ∀ Q' : Bool → Hp → Prop, Q' b H → tOr t u σ H Q') (q : Q b H) : tOr t u σ H Q := h Q q
theorem map_inj_on {α β : Type} {f : α → β} : ∀ {xs ys : List α}, (∀ x ∈ xs, ∀ y ∈ ys, f x = f y → x = y) → xs.map f = ys.map f → xs = ys
 | [], [], _, _ => rfl
 | [], _ :: _, _, h => by cases h
 | _ :: _, [], _, h => by cases h
 | x :: xs, y :: ys, hf, h => by
  rw [List.map_cons, List.map_cons] at h
  injection h with h1 h2
  rw [hf x List.mem_cons_self y List.mem_cons_self h1, map_inj_on (fun a ha b hb => hf a (List.mem_cons_of_mem _ ha) b (List.mem_cons_of_mem _ hb)) h2]
theorem kyN_inj {ns : List Int} (r : Rise ns) {l e l' e' : Nat} (hl : l < 2 ^ ns.length) (hl' : l' < 2 ^ ns.length) (he : e ≤ ns.length) (he' : e' ≤ ns.length) (h : kyN ns l e = kyN ns l' e') : l = l' ∧ e = e' := by
 have h1 : lastO ns e = lastO ns e' := congrArg Prod.fst h
 have h2 : (lstM ns l).map (Sum.inl : Int → Key) = (lstM ns l').map Sum.inl := congrArg Prod.snd h
 have h3 : lstM ns l = lstM ns l' := map_inj_on (fun x _ y _ z => Sum.inl.inj z) h2
 have h4 : bitsM ns.length l = bitsM ns.length l' := map_inj_on (fun x hx y hy z => rise_inj r (bits_mem.mp hx).1 (bits_mem.mp hy).1 z) h3
 refine ⟨Nat.eq_of_testBit_eq fun k => ?_, ?_⟩
 ·rw [Bool.eq_iff_iff]
  refine ⟨fun z => ?_, fun z => ?_⟩
  ·exact (bits_mem.mp (h4 ▸ bits_mem.mpr ⟨bit_lt hl z, z⟩)).2
  ·exact (bits_mem.mp (h4 ▸ bits_mem.mpr ⟨bit_lt hl' z, z⟩)).2
 ·rcases Nat.lt_or_ge e ns.length with z | z
  ·rw [lastO_lt z] at h1
   rcases Nat.lt_or_ge e' ns.length with y | y
   ·rw [lastO_lt y] at h1
    exact rise_inj r z y (Option.some.inj h1)
   ·rw [show e' = ns.length by omega, lastO_n] at h1
    cases h1
  ·rw [show e = ns.length by omega, lastO_n] at h1
   rcases Nat.lt_or_ge e' ns.length with y | y
   ·rw [lastO_lt y] at h1
    cases h1
   ·omega
theorem sub_len {α : Type} [DecidableEq α] : ∀ {xs ys : List α}, xs.Nodup → (∀ x ∈ xs, x ∈ ys) → xs.length ≤ ys.length
 | [], _, _, _ => Nat.zero_le _
 | x :: xs, ys, nd, h => by
  obtain ⟨h1, nd'⟩ := List.nodup_cons.mp nd
  have hx := h x List.mem_cons_self
  have ih := sub_len (ys := ys.erase x) nd' fun y hy => (List.mem_erase_of_ne (fun e : y = x => h1 (e ▸ hy))).mpr (h y (List.mem_cons_of_mem _ hy))
  rw [List.length_erase_of_mem hx] at ih
  have : 0 < ys.length := List.length_pos_of_mem hx
  rw [List.length_cons]
  omega
section
variable (ns : List Int) (near : Nat → List Nat) (ends : Nat → Bool)
structure MemoN (kvs : List (NK × V)) : Prop where
 nd : (kvs.map (·.1)).Nodup
 ok : ∀ kv ∈ kvs, ∃ l e, kv.1 = kyN ns l e ∧ l < 2 ^ ns.length ∧ e ≤ ns.length ∧ kv.2 = .int (ways near ends l e : Nat)
variable {ns near ends}
theorem memoN_nil : MemoN ns near ends [] := ⟨List.nodup_nil, (fun _ h => nomatch h)⟩
theorem valN_mem {kvs : List (NK × V)} {k : NK} {v : V} (h : valV kvs k = some v) : (k, v) ∈ kvs := by
 unfold valV at h
 obtain ⟨kv, h1, h2⟩ := Option.map_eq_some_iff.mp h
 have h3 := List.find?_some h1
 have h4 := List.mem_of_find?_eq_some h1
 have h5 : kv.1 = k := of_decide_eq_true h3
 rw [← h5, ← h2]
 exact h4
theorem MemoN.val {kvs : List (NK × V)} (M : MemoN ns near ends kvs) (r : Rise ns) {l e : Nat} (hl : l < 2 ^ ns.length) (he : e ≤ ns.length) {v : V} (h : valV kvs (kyN ns l e) = some v) : v = .int (ways near ends l e : Nat) := by
 obtain ⟨l', e', h1, h2, h3, h4⟩ := M.ok _ (valN_mem h)
 obtain ⟨rfl, rfl⟩ := kyN_inj r hl h2 he h3 h1
 exact h4
theorem MemoN.len {kvs : List (NK × V)} (M : MemoN ns near ends kvs) (hn : ns.length ≤ 10) : kvs.length < sizeLine := by
 have hp : 2 ^ ns.length ≤ 1024 := pow_le _ (by omega)
 have h := sub_len (ys := (List.range 1024).flatMap fun l => (List.range 11).map fun e => kyN ns l e) M.nd fun x hx => by
  obtain ⟨kv, h1, rfl⟩ := List.mem_map.mp hx
  obtain ⟨l, e, h2, h3, h4, _⟩ := M.ok kv h1
  rw [h2]
  exact List.mem_flatMap.mpr ⟨l, List.mem_range.mpr (by omega), List.mem_map.mpr ⟨e, List.mem_range.mpr (by omega), rfl⟩⟩
 have e : ((List.range 1024).flatMap fun l => (List.range 11).map fun e => kyN ns l e).length = 11264 := by
  rw [List.length_flatMap]
  have : ((List.range 1024).map fun l => ((List.range 11).map fun e => kyN ns l e).length) = (List.range 1024).map fun _ => 11 := List.map_congr_left fun l _ => by rw [List.length_map, List.length_range]
  rw [this]
  decide +kernel
 rw [e, List.length_map] at h
 rw [sizeLine_eq]
 omega
theorem putN_new {kvs : List (NK × V)} {k : NK} (v : V) (h : valV kvs k = none) : putK kvs k v = kvs ++ [(k, v)] := by
 unfold putK
 rw [valV_any, h]
 rfl
theorem MemoN.put {kvs : List (NK × V)} (M : MemoN ns near ends kvs) {l e : Nat} (hl : l < 2 ^ ns.length) (he : e ≤ ns.length) (hv : valV kvs (kyN ns l e) = none) : MemoN ns near ends (putK kvs (kyN ns l e) (.int (ways near ends l e : Nat))) := by
 rw [putN_new _ hv]
 refine ⟨?_, fun kv h => ?_⟩
 ·rw [List.map_append]
  refine List.nodup_append.mpr ⟨M.nd, by simp, fun a ha b hb hab => ?_⟩
  have eb : b = kyN ns l e := by simpa using hb
  subst eb
  subst hab
  obtain ⟨kv, h1, h2⟩ := List.mem_map.mp ha
  have h3 := valV_any (kyN ns l e) kvs
  rw [hv] at h3
  have h4 : (kvs.any fun kv => decide (kv.1 = kyN ns l e)) = true := List.any_eq_true.mpr ⟨kv, h1, decide_eq_true h2⟩
  rw [h4] at h3
  cases h3
 ·rcases List.mem_append.mp h with z | z
  ·exact M.ok kv z
  ·have z : kv = (kyN ns l e, V.int (ways near ends l e : Nat)) := by simpa using z
   rw [z]
   exact ⟨l, e, rfl, hl, he, rfl⟩
def sumTo (ns ss : List Int) (near : Nat → List Nat) (ends : Nat → Bool) (l e i : Nat) : Nat := (((bitsM ns.length l).take i).map fun k => if adjE ns ss e k = true then ways near ends (l - 2 ^ k) k else 0).sum
theorem sum_if {α : Type} (p : α → Bool) (f : α → Nat) : ∀ l : List α, ((l.filter p).map f).sum = (l.map fun k => if p k = true then f k else 0).sum
 | [] => rfl
 | a :: r => by
  rw [List.filter_cons, List.map_cons, List.sum_cons, ← sum_if p f r]
  by_cases h : p a = true
  ·rw [if_pos h, if_pos h, List.map_cons, List.sum_cons]
  ·rw [if_neg h, if_neg h, Nat.zero_add]
theorem sumTo_all {ns ss : List Int} {fs : List Nat} {l e : Nat} (N : NearOk (nearX ns ss fs) ns.length) (hl : l < 1024) (h0 : l ≠ 0) (he : e ≤ ns.length) (hf : e = ns.length → fs = List.range ns.length) : sumTo ns ss (nearX ns ss fs) ends l e (bitsM ns.length l).length = ways (nearX ns ss fs) ends l e := by
 rw [ways_succ N hl h0 he]
 unfold sumTo
 rw [List.take_length, ← sum_if (adjE ns ss e)]
 have e1 : (bitsM ns.length l).filter (adjE ns ss e) = (nearX ns ss fs e).filter fun k => l.testBit k := by
  rcases Nat.lt_or_ge e ns.length with z | z
  ·have en : nearX ns ss fs e = nearP ns ss (ns.getD e 0) := by unfold nearX; rw [if_pos z]
   rw [en]
   unfold bitsM nearP
   rw [List.filter_filter, List.filter_filter]
   refine List.filter_congr fun k _ => ?_
   unfold adjE
   rw [if_pos z, Bool.and_comm]
  ·have en : nearX ns ss fs e = List.range ns.length := by unfold nearX; rw [if_neg (by omega), hf (by omega)]
   rw [en]
   unfold bitsM
   rw [List.filter_filter]
   refine List.filter_congr fun k _ => ?_
   unfold adjE
   rw [if_neg (by omega), Bool.true_and]
 rw [e1]
end
def spLN : Sp := fun vs H Q _ => ∃ (t a b : Addr) (ns ss : List Int) (x y : Int), vs = [.ref t, .int x, .int y] ∧ IsPl H t a b ns ss ∧ Q (.bl (addUp ss x y)) H
def spLW (P : Program) (w : World) (m : Nat) : Sp := fun vs H Q _ => ∃ (t a b lf en kn : Addr) (ns ss es : List Int) (fs : List Nat) (ends : Nat → Bool) (l e : Nat) (kvs : List (NK × V)),
 vs = [.ref t, optI (lastO ns e), .ref lf, .ref en, .ref kn] ∧ IsPl H t a b ns ss ∧ e ≤ ns.length ∧ (e = ns.length → l ≠ 0 ∧ fs = List.range ns.length) ∧ l < 2 ^ ns.length ∧ cnt l < m ∧ H lf = some (.tup ((lstM ns l).map V.int)) ∧ H en = some (.lst (es.map V.int)) ∧
 (∀ e < ns.length, ends e = es.contains (ns.getD e 0)) ∧ NearOk (nearX ns ss fs) ns.length ∧ NDict P w H kn kvs ∧ MemoN ns (nearX ns ss fs) ends kvs ∧
 ∀ (H' : Hp) (kvs' : List (NK × V)), Ex (· = kn) H H' → NDict P w H' kn kvs' → MemoN ns (nearX ns ss fs) ends kvs' → Q (.int (ways (nearX ns ss fs) ends l e : Nat)) H'
theorem MemoN.put' {ns : List Int} {near : Nat → List Nat} {ends : Nat → Bool} {kvs : List (NK × V)} (M : MemoN ns near ends kvs) (r : Rise ns) {l e : Nat} (hl : l < 2 ^ ns.length) (he : e ≤ ns.length) : MemoN ns near ends (putK kvs (kyN ns l e) (.int (ways near ends l e : Nat))) := by
 cases hv : valV kvs (kyN ns l e) with
 | none => exact M.put hl he hv
 | some v =>
  have e1 : putK kvs (kyN ns l e) (.int (ways near ends l e : Nat)) = kvs := by
   unfold putK
   rw [valV_any, hv, if_pos (show (some v).isSome = true from rfl)]
   refine (List.map_congr_left fun kv h => ?_).trans (List.map_id _)
   by_cases z : kv.1 = kyN ns l e
   ·rw [if_pos z]
    obtain ⟨l', e', h1, h2, h3, h4⟩ := M.ok kv h
    rw [z] at h1
    obtain ⟨rfl, rfl⟩ := kyN_inj r hl h2 he h3 h1
    exact Prod.ext rfl h4.symm
   ·rw [if_neg z]; rfl
  rw [e1]
  exact M
theorem nd_at {P : Program} {w : World} {H : Hp} {a : Addr} {kvs : List (NK × V)} (d : NDict P w H a kvs) : ∃ φ, H a = some (.ext φ) := let ⟨_, e, _⟩ := d; ⟨_, e⟩
theorem IsPl.exN {P : Program} {w : World} {H H' : Hp} {t a b kn : Addr} {ns ss : List Int} {kvs : List (NK × V)} (pl : IsPl H t a b ns ss) (d : NDict P w H kn kvs) (g : Ex (· = kn) H H') : IsPl H' t a b ns ss := by
 obtain ⟨φ, hk⟩ := nd_at d
 exact ⟨g _ _ (ne_of pl.t hk (fun z => by cases z)) pl.t, g _ _ (ne_of pl.a hk (fun z => by cases z)) pl.a, g _ _ (ne_of pl.b hk (fun z => by cases z)) pl.b, pl.ok⟩
theorem cut_at {xs : List Int} {i : Nat} (hi : i < xs.length) : cutV (xs.map V.int) none (some (i : Int)) = (xs.take i).map V.int ∧ cutV (xs.map V.int) (some ((i : Int) + 1)) none = (xs.drop (i + 1)).map V.int := by
 have hm : (xs.map V.int).length = xs.length := List.length_map _
 constructor
 ·unfold cutV
  have h1 : HT.sIx (xs.map V.int).length 0 none = 0 := rfl
  have h2 : HT.sIx (xs.map V.int).length (xs.map V.int).length (some (i : Int)) = i := by rw [HT.sIx_nat, hm]; omega
  rw [h1, h2, List.drop_zero, Nat.sub_zero, List.map_take]
 ·unfold cutV
  have e : (i : Int) + 1 = ((i + 1 : Nat) : Int) := by simp
  have h1 : HT.sIx (xs.map V.int).length 0 (some ((i : Int) + 1)) = i + 1 := by rw [e, HT.sIx_nat, hm]; omega
  have h2 : HT.sIx (xs.map V.int).length (xs.map V.int).length none = xs.length := hm
  rw [h1, h2, List.map_drop, List.take_of_length_le (by rw [List.length_drop, hm]; omega)]
theorem cut_not {xs : List Int} {i : Nat} (hi : i < xs.length) : ¬ (HT.sIx (xs.map V.int).length 0 none = 0 ∧ HT.sIx (xs.map V.int).length (xs.map V.int).length (some (i : Int)) = (xs.map V.int).length) ∧
  ¬ (HT.sIx (xs.map V.int).length 0 (some ((i : Int) + 1)) = 0 ∧ HT.sIx (xs.map V.int).length (xs.map V.int).length none = (xs.map V.int).length) := by
 have hm : (xs.map V.int).length = xs.length := List.length_map _
 have e : (i : Int) + 1 = ((i + 1 : Nat) : Int) := by simp
 constructor
 ·rintro ⟨_, h⟩
  rw [HT.sIx_nat, hm] at h
  omega
 ·rintro ⟨h, _⟩
  rw [e, HT.sIx_nat, hm] at h
  omega
theorem sumTo_next {ns ss : List Int} {near : Nat → List Nat} {ends : Nat → Bool} {l e i k : Nat} (h : (bitsM ns.length l)[i]? = some k) : sumTo ns ss near ends l e (i + 1) = sumTo ns ss near ends l e i + if adjE ns ss e k = true then ways near ends (l - 2 ^ k) k else 0 := by
 unfold sumTo
 rw [List.take_add_one, h, List.map_append, List.sum_append]
 simp
section
variable {f g1 : Addr} {fd gd1 : FuncData}
theorem scLN : FnScope ["plan", "one", "other"] ["plan", "one", "other"] (defScope sLN) := ⟨rfl, rfl, rfl, by decide +kernel, rfl, by decide +kernel, by decide +kernel⟩
theorem ok_LN (F : Fun K "_law_near" "_law_near" sLN f fd) : FnOk P w K mg base CX0 1 f fd ["plan", "one", "other"] spLN := by
 refine F.ok scLN (fun vs H Q E h => ?_) (fun cdv A outer s H vs Q E hr h => ?_)
 ·obtain ⟨t, a, b, ns, ss, x, y, rfl, _⟩ := h
  rfl
 obtain ⟨t, a, b, ns, ss, x, y, rfl, pl, q⟩ := h
 refine ⟨_, (@pss_one _ _ _ (ps_ret (pe_and (pe_cmpR op_ne (pv 1) (pv 2) (nomark _)) (pe_one (pe_cmpR (op_inI K) (pe_op op_add (pv 1) (pv 2)) (pe_ix ix_tup (pv 0) pe_int (fun _ _ => rfl)) rfl))))), ?_⟩
 have e1 : (!decide (V.int x = V.int y)) = decide (x ≠ y) := by
  rw [← decide_not]
  exact decide_eq_decide.mpr (not_congr ⟨fun h => V.int.inj h, fun h => by rw [h]⟩)
 unfold addUp at q
 refine ⟨_, rfl, _, rfl, rfl, _, rfl, ?_⟩
 rw [e1]
 refine ite2 (fun c => ?_) (fun c => ?_)
 ·rw [c, Bool.true_and] at q
  exact ⟨_, rfl, _, rfl, _, _, rfl, rfl, _, rfl, t, _, 1, _, rfl, rfl, SqT.of pl.t, rfl, b, x + y, ss, rfl, rfl, SqL.of pl.b, q⟩
 ·rw [Bool.eq_false_iff.mpr c, Bool.false_and] at q
  exact q
theorem scLW : FnScope ["plan", "last", "left", "ends", "known", "total", "k", "other", "more"] ["plan", "last", "left", "ends", "known"] (defScope sLW) := ⟨rfl, rfl, rfl, by decide +kernel, rfl, by decide +kernel, by decide +kernel⟩
theorem ok_lwS {j m : Nat} (F : Fun K "_law_ways" "_law_ways" sLW f fd) (B : Bt3 mg)
  (GN : FnOk P w K mg base CX0 j g1 gd1 ["plan", "one", "other"] spLN) (bN : Binds K gd1 ["plan", "one", "other"] []) (kN : Kee K g1) (mN : mg "_law_near" = some (.ref g1))
  (GW : FnOk P w K mg base CX0 j f fd ["plan", "last", "left", "ends", "known"] (spLW P w m)) (bW : Binds K fd ["plan", "last", "left", "ends", "known"] []) (kW : Kee K f) (mW : mg "_law_ways" = some (.ref f)) :
  FnOk P w K mg base CX0 (j + 1) f fd ["plan", "last", "left", "ends", "known"] (spLW P w (m + 1)) := by
 refine F.ok scLW (fun vs H Q E h => ?_) (fun cdv A outer s H vs Q E hr h => ?_)
 ·obtain ⟨t, a, b, lf, en, kn, ns, ss, es, fs, ends, l, e, kvs, rfl, _⟩ := h
  rfl
 obtain ⟨t, a, b, lf, en, kn, ns, ss, es, fs, ends, l, e, kvs, rfl, pl, he, hen, hl, hc, elf, een, hends, N, d, M, q⟩ := h
 have hu2 := Nat.lt_of_le_of_lt (Nat.add_le_add_left (by decide : 2 ≤ 64) _) hr.units
 have n10 := pl.ok.n2
 have hl' : l < 1024 := Nat.lt_of_lt_of_le hl (pow_le _ (by omega))
 have lml : ((lstM ns l).map V.int).length = (bitsM ns.length l).length := by unfold lstM; rw [List.length_map, List.length_map]
 refine ⟨_, (@pss_cons _ _ _ _ _ (ps_if (pt_cmpR (op_eqT0 hr.units) (pv 2) (pe_tup pa_nil) (nomark _)) (@pss_one _ _ _ (ps_ret (pe_callTy call_int1 rfl B.int PyProof.Rows.boot_int (pa_cons (pe_cmpR (op_inI K) (pv 1) (pv 3) rfl) pa_nil)))) pss_nil) (@pss_cons _ _ _ _ _ (ps_if (pt_cmp (pc_nnotin hu2 (pe_tup (pa_cons (pv 1) (pa_cons (pv 2) pa_nil))) (pv 4))) (@pss_cons _ _ _ _ _ (ps_set (i := 5) scLW.nd rfl (Or.inl rfl) pe_int) (@pss_cons _ _ _ _ _ (ps_for PassesOwn.never rfl (pi_enumT rfl B.enumerate (pa_cons (pv 2) pa_nil)) (pg_tup rfl (pgs_cons (pg_name (i := 6) scLW.nd rfl (Or.inl rfl)) (pgs_cons (pg_name (i := 7) scLW.nd rfl (Or.inl rfl)) pgs_nil))) (@pss_one _ _ _ (ps_if (PW.pt (pw_or (pt_cmpR op_isN (pv 1) pe_non (nomark _)) (pw_or1 (pt_val (pe_call GN hr rfl mN kN bN .nil pass0 (pa_cons (pv 0) (pa_cons (pv 1) (pa_cons (pv 7) pa_nil)))))))) (@pss_cons _ _ _ _ _ (ps_set (i := 8) scLW.nd rfl (Or.inl rfl) (pe_op op_catT2 (pe_slice sl_tup (pv 2) po_none (po_some (pv 6))) (pe_slice sl_tup (pv 2) (po_some (pe_op op_add (pv 6) pe_int)) po_none))) (@pss_one _ _ _ (ps_set (i := 5) scLW.nd rfl (Or.inl rfl) (pe_op op_add (pv 5) (pe_call GW hr rfl mW kW bW .nil pass0 (pa_cons (pv 0) (pa_cons (pv 7) (pa_cons (pv 8) (pa_cons (pv 3) (pa_cons (pv 4) pa_nil)))))))))) pss_nil))) (@pss_one _ _ _ (ps_nput hu2 (pv 4) (pe_tup (pa_cons (pv 1) (pa_cons (pv 2) pa_nil))) (pv 5) rfl)))) pss_nil) (@pss_one _ _ _ (ps_ret (pe_nget hu2 (pv 4) (pe_tup (pa_cons (pv 1) (pa_cons (pv 2) pa_nil))) (fun _ _ => rfl)))))), ?_⟩
 obtain ⟨φ, ek⟩ := nd_at d
 refine ⟨_, rfl, (by show 0 ≤ sizeLine; decide), fun et het => ?_⟩
 have g0 : Same H (upd H et (.tup [])) := Same.new het _
 have elf0 := g0 _ _ elf
 have et0 : upd H et (.tup []) et = some (.tup []) := upd_same
 have een0 := g0 _ _ een
 have pl0 := pl.same g0
 have d0 : NDict P w (upd H et (.tup [])) kn kvs := d.same g0
 generalize upd H et (.tup []) = H0 at g0 elf0 et0 een0 pl0 d0 ⊢
 refine ⟨lf, et, _, rfl, rfl, elf0, et0, _, rfl, ite2 (fun c => ?_) (fun c => ?_)⟩
 ·have l0 : l = 0 := bits_nil hl (by
   have h1 := List.isEmpty_iff.mp c
   have h2 := congrArg List.length h1
   rw [lml] at h2
   exact List.length_eq_zero_iff.mp h2)
  subst l0
  have z := q H0 kvs (Ex.same g0) d0 M
  have he' : e < ns.length := by
   rcases Nat.lt_or_ge e ns.length with y | y
   ·exact y
   ·exact absurd rfl (hen (by omega)).1
  have e0 : ways (nearX ns ss fs) ends 0 e = if ends e then 1 else 0 := rfl
  rw [e0, hends e he'] at z
  rw [lastO_lt he']
  refine ⟨_, rfl, _, rfl, en, _, es, rfl, rfl, SqL.of een0, .inr ⟨_, rfl, ?_⟩⟩
  cases hcn : es.contains (ns.getD e 0) with
  | true => rw [hcn] at z; exact z
  | false => rw [hcn] at z; exact z
 have l0 : l ≠ 0 := fun z => c (by
  rw [z]
  have : bitsM ns.length 0 = [] := List.filter_eq_nil_iff.mpr fun k _ => by rw [Nat.zero_testBit]; exact Bool.false_ne_true
  unfold lstM
  rw [this]
  rfl)
 have kv2 : ∀ {H' : Hp} {kt : Addr}, H' kt = some (.tup [optI (lastO ns e), .ref lf]) → H' lf = some (.tup ((lstM ns l).map V.int)) → NKat H' (kyN ns l e) kt := fun h1 h2 => ⟨lf, h1, by rw [h2]; unfold kyN; rw [List.map_map]; rfl⟩
 refine ⟨_, rfl, _, rfl, two_le, fun kt hkt => ?_⟩
 have g1' : Same H0 (upd H0 kt (.tup [optI (lastO ns e), .ref lf])) := Same.new hkt _
 have elf1 := g1' _ _ elf0
 have ekt1 : upd H0 kt (.tup [optI (lastO ns e), .ref lf]) kt = some (.tup [optI (lastO ns e), .ref lf]) := upd_same
 have d1 : NDict P w (upd H0 kt (.tup [optI (lastO ns e), .ref lf])) kn kvs := d0.same g1'
 have pl1 := pl0.same g1'
 have een1 := g1' _ _ een0
 have ex1 : Ex (· = kn) H (upd H0 kt (.tup [optI (lastO ns e), .ref lf])) := Ex.same (g0.trans g1')
 generalize upd H0 kt (.tup [optI (lastO ns e), .ref lf]) = H1 at g1' elf1 ekt1 d1 pl1 een1 ex1 ⊢
 obtain ⟨φ1, ek1⟩ := nd_at d1
 have lfk : lf ≠ kn := ne_of elf1 ek1 (fun z => by cases z)
 have enk : en ≠ kn := ne_of een1 ek1 (fun z => by cases z)
 refine ⟨_, rfl, kn, kvs, kt, kyN ns l e, rfl, d1, rfl, kv2 ekt1 elf1, _, rfl, ite2 (fun c2 => ?_) (fun c2 => ?_)⟩
 ·refine ⟨_, rfl, lf, _, rfl, elf1, ?_⟩
  refine for_enumT (xs := (lstM ns l).map V.int) (fun i σ H' => ∃ (x6 x7 x8 : Option V) (kvs' : List (NK × V)), σ = [some (.ref t), some (optI (lastO ns e)), some (.ref lf), some (.ref en), some (.ref kn), some (.int (sumTo ns ss (nearX ns ss fs) ends l e i : Nat)), x6, x7, x8] ∧
    Ex (· = kn) H1 H' ∧ NDict P w H' kn kvs' ∧ MemoN ns (nearX ns ss fs) ends kvs') ⟨_, _, _, kvs, rfl, Ex.refl, d1, M⟩ (fun i σ H' _ ⟨_, _, _, _, _, ex, _, _⟩ => ex _ _ lfk elf1) ?_ ?_
  ·rintro i x σ H2 T hx ⟨x6, x7, x8, kvs2, rfl, ex2, d2, M2⟩ hT
   have hil : i < (bitsM ns.length l).length := by
    have := (List.getElem?_eq_some_iff.mp hx).1
    rw [lml] at this
    exact this
   obtain ⟨k, ek⟩ : ∃ k, k = (bitsM ns.length l)[i] := ⟨_, rfl⟩
   have hb : (bitsM ns.length l)[i]? = some k := by rw [List.getElem?_eq_getElem hil, ek]
   obtain ⟨hkn, hbit⟩ := bits_mem.mp (ek ▸ List.getElem_mem hil)
   have exx : x = .int (ns.getD k 0) := by
    unfold lstM at hx
    rw [List.getElem?_map, List.getElem?_map, hb] at hx
    exact (Option.some.inj hx).symm
   subst exx
   have gT : Same H2 (upd H2 T (.tup [.int (i : Int), .int (ns.getD k 0)])) := Same.new hT _
   refine ⟨T, _, rfl, SqT.of upd_same, rfl, _, _, rfl, _, _, rfl, rfl, ?_⟩
   have d3 : NDict P w (upd H2 T (.tup [.int (i : Int), .int (ns.getD k 0)])) kn kvs2 := d2.same gT
   have ex3 : Ex (· = kn) H1 (upd H2 T (.tup [.int (i : Int), .int (ns.getD k 0)])) := ex2.trans (Ex.same gT)
   generalize upd H2 T (.tup [.int (i : Int), .int (ns.getD k 0)]) = H3 at gT d3 ex3 ⊢
   have pl3 := pl1.exN d1 ex3
   have elf3 := ex3 _ _ lfk elf1
   have een3 := ex3 _ _ enk een1
   refine or_by (b := adjE ns ss e k) (fun Q' hq => ?_) (ite2 (fun c3 => ?_) (fun c3 => ?_))
   ·rcases Nat.lt_or_ge e ns.length with z | z
    ·rw [lastO_lt z]
     unfold adjE at hq
     rw [if_pos z] at hq
     refine ⟨_, rfl, rfl, _, rfl, iteF ?_⟩
     exact ⟨_, rfl, _, rfl, _, rfl, t, a, b, ns, ss, _, _, rfl, pl3, _, rfl, hq⟩
    ·have ze : e = ns.length := by omega
     rw [ze, lastO_n]
     unfold adjE at hq
     rw [if_neg (by omega)] at hq
     exact ⟨_, rfl, rfl, _, rfl, iteT hq⟩
   ·have hii : i < (lstM ns l).length := by unfold lstM; rw [List.length_map]; exact hil
    refine ⟨_, rfl, _, rfl, _, rfl, lf, _, rfl, SqT.of elf3, (cut_not hii).1, fun p1 hp1 => ?_⟩
    have s4 := Same.new hp1 (.tup (cutV ((lstM ns l).map V.int) none (some (i : Int))))
    refine ⟨_, rfl, _, rfl, _, _, rfl, rfl, _, rfl, lf, _, rfl, SqT.of (s4 _ _ elf3), (cut_not hii).2, fun p2 hp2 => ?_⟩
    have s5 := Same.new hp2 (.tup (cutV ((lstM ns l).map V.int) (some ((i : Int) + 1)) none))
    refine ⟨p1, p2, _, _, rfl, rfl, s5 _ _ upd_same, upd_same, ?_, fun pm H6 g6 em => ?_⟩
    ·have := cutV_length ((lstM ns l).map V.int) none (some (i : Int))
     have := cutV_length ((lstM ns l).map V.int) (some ((i : Int) + 1)) none
     have := bits_len ns.length l
     rw [lml] at *
     exact Nat.le_of_lt (small1000 (by omega))
    rw [(cut_at hii).1, (cut_at hii).2, ← List.map_append, ← List.eraseIdx_eq_take_drop_succ] at em
    have em' : H6 pm = some (.tup ((lstM ns (l - 2 ^ k)).map V.int)) := by
     rw [em]
     unfold lstM
     rw [erase_map, bits_erase n10 hl' hil, ← ek]
    have g36 : Same H3 H6 := (s4.trans s5).trans g6
    have d6 := d3.same g36
    have cd := cnt_dec l hl' k (by omega) hbit
    refine ⟨_, rfl, _, rfl, _, rfl, _, rfl, _, rfl, _, rfl, t, a, b, pm, en, kn, ns, ss, es, fs, ends, l - 2 ^ k, k, kvs2, by rw [lastO_lt hkn]; rfl, pl3.same g36, Nat.le_of_lt hkn, (fun z => absurd hkn (by omega)), by omega, by omega, em', g36 _ _ een3, hends, N, d6, M2, fun H7 kvs7 ex7 d7 M7 => ⟨_, _, rfl, rfl, ?_⟩⟩
    have es' : ((sumTo ns ss (nearX ns ss fs) ends l e i : Nat) : Int) + ((ways (nearX ns ss fs) ends (l - 2 ^ k) k : Nat) : Int) = ((sumTo ns ss (nearX ns ss fs) ends l e (i + 1) : Nat) : Int) := by
     rw [sumTo_next hb, if_pos c3]
     exact (Int.natCast_add _ _).symm
    refine ⟨some (.int (i : Int)), some (.int (ns.getD k 0)), some (.ref pm), kvs7, ?_, ex3.trans ((Ex.same g36).trans ex7), d7, M7⟩
    rw [← es']
    rfl
   ·have es' : sumTo ns ss (nearX ns ss fs) ends l e (i + 1) = sumTo ns ss (nearX ns ss fs) ends l e i := by
     rw [sumTo_next hb, if_neg c3, Nat.add_zero]
    refine ⟨some (.int (i : Int)), some (.int (ns.getD k 0)), x8, kvs2, ?_, ex3, d3, M2⟩
    rw [es']
    rfl
  ·rintro σ H2 ⟨x6, x7, x8, kvs2, rfl, ex2, d2, M2⟩
   rw [lml, sumTo_all N hl' l0 he fun z => (hen z).2]
   have elf2 := ex2 _ _ lfk elf1
   refine ⟨_, rfl, _, rfl, _, rfl, _, rfl, two_le, fun k2 hk2 => ?_⟩
   have g3 : Same H2 (upd H2 k2 (.tup [optI (lastO ns e), .ref lf])) := Same.new hk2 _
   refine ⟨kn, kvs2, k2, kyN ns l e, rfl, d2.same g3, rfl, kv2 upd_same (g3 _ _ elf2), M2.len n10, fun H4 off d4 => ?_⟩
   have M4 := M2.put' (near := nearX ns ss fs) (ends := ends) pl.ok.n hl he
   have ex4 : Ex (· = kn) H H4 := ex1.trans (ex2.trans ((Ex.same g3).trans fun c o nc ho => (off c nc).trans ho))
   have elf4 : H4 lf = some (.tup ((lstM ns l).map V.int)) := (off lf lfk).trans (g3 _ _ elf2)
   refine ⟨_, rfl, _, rfl, _, rfl, two_le, fun k5 hk5 => ?_⟩
   have g5 : Same H4 (upd H4 k5 (.tup [optI (lastO ns e), .ref lf])) := Same.new hk5 _
   exact ⟨kn, _, k5, kyN ns l e, _, rfl, d4.same g5, rfl, kv2 upd_same (g5 _ _ elf4), by rw [valV_put, if_pos rfl], q _ _ (ex4.trans (Ex.same g5)) (d4.same g5) M4⟩
 ·cases ev : valV kvs (kyN ns l e) with
  | none => rw [ev] at c2; exact absurd rfl c2
  | some v =>
   have hv := M.val pl.ok.n hl he ev
   refine ⟨_, rfl, _, rfl, _, rfl, two_le, fun k5 hk5 => ?_⟩
   have g5 : Same H1 (upd H1 k5 (.tup [optI (lastO ns e), .ref lf])) := Same.new hk5 _
   rw [hv] at ev
   exact ⟨kn, _, k5, kyN ns l e, _, rfl, d1.same g5, rfl, kv2 upd_same (g5 _ _ elf1), ev, q _ _ (ex1.trans (Ex.same g5)) (d1.same g5) M⟩
theorem ok_LW (F : Fun K "_law_ways" "_law_ways" sLW f fd) (B : Bt3 mg)
  (GN : FnOk P w K mg base CX0 1 g1 gd1 ["plan", "one", "other"] spLN) (bN : Binds K gd1 ["plan", "one", "other"] []) (kN : Kee K g1) (mN : mg "_law_near" = some (.ref g1))
  (bW : Binds K fd ["plan", "last", "left", "ends", "known"] []) (kW : Kee K f) (mW : mg "_law_ways" = some (.ref f)) :
  ∀ m : Nat, FnOk P w K mg base CX0 (m + 1) f fd ["plan", "last", "left", "ends", "known"] (spLW P w m)
 | 0 => ⟨fun vs H Q E h => by obtain ⟨t, a, b, lf, en, kn, ns, ss, es, fs, ends, l, e, kvs, rfl, _⟩ := h; rfl, fun A outer s H args us vs Q E _ _ _ _ h => by
   obtain ⟨t, a, b, lf, en, kn, ns, ss, es, fs, ends, l, e, kvs, _, _, _, _, _, hc, _⟩ := h
   exact absurd hc (Nat.not_lt_zero _)⟩
 | m + 1 => ok_lwS (j := m + 1) F B (GN.mono (by omega)) bN kN mN (ok_LW F B GN bN kN mN bW kW mW m) bW kW mW
end
abbrev sCopy : Stmt := top 40
abbrev sAlw : Stmt := top 43
abbrev sByn : Stmt := top 45
abbrev sLaw : Stmt := top 51
theorem eqv_same {K : PySem.W.Frag} {H : Hp} {n : Nat} {a b : Addr} {xs : List Int} (ne : a ≠ b) (h1 : H a = some (.lst (xs.map V.int))) (h2 : H b = some (.lst (xs.map V.int))) : EqV K H (n + 1) (.ref a) (.ref b) true := by
 have q := eqv_ints (K := K) (n := n) ne (SqL.of h1) (SqL.of h2)
 rw [beq_self_eq_true] at q
 exact q
theorem rcv_plan {K : PySem.W.Frag} {H : Hp} {a b a1 a2 b1 b2 : Addr} {xs ys : List Int} (ha : H a = some (.tup [.ref a1, .ref a2])) (hb : H b = some (.tup [.ref b1, .ref b2])) (h1 : H a1 = some (.lst (xs.map V.int))) (h2 : H a2 = some (.lst (ys.map V.int)))
  (h3 : H b1 = some (.lst (xs.map V.int))) (h4 : H b2 = some (.lst (ys.map V.int))) (n1 : a1 ≠ b1) (n2 : a2 ≠ b2) : RcV K H (.ref a) (.ref b) true := by
 refine RcV.tup (e := fun _ => true) (SqT.of ha) (SqT.of hb) rfl fun j x y hx hy => ?_
 match j with
 | 0 => cases hx; cases hy; exact eqv_same n1 h1 h3
 | 1 => cases hx; cases hy; exact eqv_same n2 h2 h4
 | _ + 2 => cases hx
def spCopy : Sp := fun vs H Q _ => ∃ (t a b : Addr) (ns ss : List Int), vs = [.ref t] ∧ IsPl H t a b ns ss ∧ ∀ (t' a' b' : Addr) (H' : Hp), Same H H' → H t' = none → H a' = none → H b' = none → a' ≠ b' → IsPl H' t' a' b' ns ss → Q (.ref t') H'
def spLaw (K : PySem.W.Frag) : Sp := fun vs H Q _ => ∃ (a : Addr) (ns : List Int), vs = [.ref a] ∧ SqL K H a (ns.map V.int) ∧ ns.length ≤ 63 ∧ ∀ H', Q (.bl true) H'
theorem getD_at {ns : List Int} {i : Nat} (h : i < ns.length) : ns[i]? = some (ns.getD i 0) := by rw [List.getD_eq_getElem?_getD, List.getElem?_eq_getElem h]; rfl
theorem whole_lt {n : Nat} (h : n ≤ 10) : 2 ^ n - 1 < 1024 := by have := pow_le n (by omega); have := Nat.two_pow_pos n; omega
theorem lst_whole (ns : List Int) : lstM ns (2 ^ ns.length - 1) = ns := by
 unfold lstM bitsM
 rw [List.filter_eq_self.mpr fun k hk => whole_bit (List.mem_range.mp hk)]
 refine List.ext_getElem (by rw [List.length_map, List.length_range]) fun i h1 h2 => ?_
 rw [List.getElem_map, List.getElem_range, List.getD_eq_getElem?_getD, List.getElem?_eq_getElem h2]
 rfl
theorem near_all {ns ss : List Int} (ok : PlanOk ns ss) : NearOk (nearX ns ss (List.range ns.length)) ns.length := near_ok ok (fun k hk => List.mem_range.mp hk) List.pairwise_lt_range
theorem nbs_bits {ns ss : List Int} {l e : Nat} (he : e ≤ ns.length) : nbs (nearX ns ss (List.range ns.length)) l e = (bitsM ns.length l).filter (adjE ns ss e) := by
 unfold nbs
 rcases Nat.lt_or_ge e ns.length with z | z
 ·have en : nearX ns ss (List.range ns.length) e = nearP ns ss (ns.getD e 0) := by unfold nearX; rw [if_pos z]
  rw [en]
  unfold bitsM nearP
  rw [List.filter_filter, List.filter_filter]
  refine List.filter_congr fun k _ => ?_
  unfold adjE
  rw [if_pos z, Bool.and_comm]
 ·have en : nearX ns ss (List.range ns.length) e = List.range ns.length := by unfold nearX; rw [if_neg (by omega)]
  rw [en]
  unfold bitsM
  rw [List.filter_filter]
  refine List.filter_congr fun k _ => ?_
  unfold adjE
  rw [if_neg (by omega), Bool.true_and]
theorem bits_pw (n l : Nat) : (bitsM n l).Pairwise (· < ·) := List.pairwise_lt_range.sublist List.filter_sublist
theorem wAh_sum {ns ss : List Int} {ends : Nat → Bool} {l e i k : Nat} (he : e ≤ ns.length) (h : (bitsM ns.length l)[i]? = some k) : wAh (nearX ns ss (List.range ns.length)) ends l e k = sumTo ns ss (nearX ns ss (List.range ns.length)) ends l e i := by
 obtain ⟨hi, ek⟩ := List.getElem?_eq_some_iff.mp h
 have eb : bitsM ns.length l = (bitsM ns.length l).take i ++ k :: (bitsM ns.length l).drop (i + 1) := by
  rw [← ek, ← List.drop_eq_getElem_cons hi, List.take_append_drop]
 have pw := bits_pw ns.length l
 rw [eb] at pw
 obtain ⟨_, p2, p3⟩ := List.pairwise_append.mp pw
 unfold wAh sumTo
 rw [nbs_bits he, ← sum_if (adjE ns ss e)]
 have e2 : (bitsM ns.length l).filter (adjE ns ss e) = ((bitsM ns.length l).take i).filter (adjE ns ss e) ++ (k :: (bitsM ns.length l).drop (i + 1)).filter (adjE ns ss e) := by rw [← List.filter_append, ← eb]
 rw [e2, ahd_app, ahd_all (l := ((bitsM ns.length l).take i).filter (adjE ns ss e)) fun j hj => p3 j (List.mem_filter.mp hj).1 k List.mem_cons_self, ahd_none (l := (k :: (bitsM ns.length l).drop (i + 1)).filter (adjE ns ss e)) fun j hj => ?_]
 ·rfl
 ·rcases List.mem_cons.mp (List.mem_filter.mp hj).1 with y | y
  ·omega
  ·exact Nat.le_of_lt (List.rel_of_pairwise_cons p2 y)
def tupN (σ : L2.St) (H : Hp) : Nat := match (show List (Option V) from σ)[4]? with
 | some (some (V.ref a)) => (match H a with | some (HO.tup xs) => xs.length | _ => 0)
 | _ => 0
section
variable {f g1 g2 g3 C : Addr} {fd gd1 gd2 gd3 : FuncData}
theorem scCopy : FnScope ["plan"] ["plan"] (defScope sCopy) := ⟨rfl, rfl, rfl, by decide +kernel, rfl, by decide +kernel, by decide +kernel⟩
theorem ok_copy (F : Fun K "_law_copy" "_law_copy" sCopy f fd) (B : Bt2 mg) : FnOk P w K mg base CX0 1 f fd ["plan"] spCopy := by
 refine F.ok scCopy (fun vs H Q E h => ?_) (fun cdv A outer s H vs Q E hr h => ?_)
 ·obtain ⟨t, a, b, ns, ss, rfl, _⟩ := h
  rfl
 obtain ⟨t, a, b, ns, ss, rfl, pl, q⟩ := h
 refine ⟨_, (@pss_one _ _ _ (ps_ret (pe_tup (pa_cons (pe_callTy call_list_of rfl B.list PyProof.Rows.boot_list (pa_cons (pe_ix ix_tup (pv 0) pe_int (fun _ _ => rfl)) pa_nil)) (pa_cons (pe_callTy call_list_of rfl B.list PyProof.Rows.boot_list (pa_cons (pe_ix ix_tup (pv 0) pe_int (fun _ _ => rfl)) pa_nil)) pa_nil))))), ?_⟩
 refine ⟨_, rfl, t, _, 0, _, rfl, rfl, SqT.of pl.t, rfl, a, _, rfl, .inl (SqL.of pl.a), fun a' ha => ?_⟩
 have s1 := Same.new ha (.lst (ns.map V.int))
 have p1 := pl.same s1
 refine ⟨_, rfl, t, _, 1, _, rfl, rfl, SqT.of p1.t, rfl, b, _, rfl, .inl (SqL.of p1.b), fun b' hb => ⟨two_le, fun t' ht => ?_⟩⟩
 have s2 := Same.new hb (.lst (ss.map V.int))
 have s3 := Same.new ht (.tup [.ref a', .ref b'])
 exact q t' a' b' _ (s1.trans (s2.trans s3)) (none_of_same (s1.trans s2) ht) ha (none_of_same s1 hb) (ne_of_none upd_same hb) ⟨upd_same, s3 _ _ (s2 _ _ upd_same), s3 _ _ upd_same, pl.ok⟩
theorem scAlw : FnScope ["plan"] ["plan"] (defScope sAlw) := ⟨rfl, rfl, rfl, by decide +kernel, rfl, by decide +kernel, by decide +kernel⟩
theorem ok_alw (F : Fun K "_law_all_ways" "_law_all_ways" sAlw f fd) (B : Bt3 mg)
  (GW : FnOk P w K mg base CX0 12 g1 gd1 ["plan", "last", "left", "ends", "known"] (spLW P w 11)) (bW : Binds K gd1 ["plan", "last", "left", "ends", "known"] []) (kW : Kee K g1) (mW : mg "_law_ways" = some (.ref g1)) :
  FnOk P w K mg base CX0 13 f fd ["plan"] (spCount fun ns ss => cntW ns ss false) := by
 refine F.ok scAlw (fun vs H Q E h => ?_) (fun cdv A outer s H vs Q E hr h => ?_)
 ·obtain ⟨t, a, b, ns, ss, rfl, _⟩ := h
  rfl
 obtain ⟨t, a, b, ns, ss, rfl, pl, q⟩ := h
 have h10 := pl.ok.n2
 have n1 := pl.ok.n1
 have wl := whole_lt h10
 have wp := Nat.one_lt_two_pow (n := ns.length) (by omega)
 refine ⟨_, (@pss_one _ _ _ (ps_ret (pe_call GW hr rfl mW kW bW .nil pass0 (pa_cons (pv 0) (pa_cons pe_non (pa_cons (pe_callTy call_tuple_of rfl B.tuple PyProof.Rows.boot_tuple (pa_cons (pe_ix ix_tup (pv 0) pe_int (fun _ _ => rfl)) pa_nil)) (pa_cons (pe_ix ix_tup (pv 0) pe_int (fun _ _ => rfl)) (pa_cons pe_nnew pa_nil)))))))), ?_⟩
 refine ⟨_, rfl, _, rfl, t, _, 0, _, rfl, rfl, SqT.of pl.t, rfl, a, _, rfl, .inl ⟨SqL.of pl.a, fun lf hlf => ?_⟩⟩
 have g1 := Same.new hlf (.tup (ns.map V.int))
 have pl1 := pl.same g1
 refine ⟨_, rfl, t, _, 0, _, rfl, rfl, SqT.of pl1.t, rfl, fun kn Hk hkn gk dk => ?_⟩
 have g2 : Same _ Hk := gk
 refine ⟨t, a, b, lf, a, kn, ns, ss, ns, List.range ns.length, endsP ns ss false, 2 ^ ns.length - 1, ns.length, [], by rw [lastO_n]; rfl, pl1.same g2, Nat.le_refl _, (fun _ => ⟨by omega, rfl⟩), by omega, Nat.lt_succ_of_le (cnt_le _ wl), by rw [lst_whole]; exact g2 _ _ upd_same, g2 _ _ pl1.a, fun e he => ?_, near_all pl.ok, dk, memoN_nil, fun H' kvs' ex _ _ => q H' fun c o hc => ?_⟩
 ·have : ns.contains (ns.getD e 0) = true := List.contains_iff_mem.mpr (List.mem_of_getElem? (getD_at he))
  rw [this]
  rfl
 ·have h1 := g1 _ _ hc
  exact ex _ _ (ne_of_none h1 hkn) (g2 _ _ h1)
theorem scByn : FnScope ["plan", "number", "row", "last", "left", "known", "k", "other", "more", "ways"] ["plan", "number"] (defScope sByn) := ⟨rfl, rfl, rfl, by decide +kernel, rfl, by decide +kernel, by decide +kernel⟩
theorem ok_byn (F : Fun K "_law_by_number" "_law_by_number" sByn f fd) (B : Bt3 mg)
  (GW : FnOk P w K mg base CX0 12 g1 gd1 ["plan", "last", "left", "ends", "known"] (spLW P w 11)) (bW : Binds K gd1 ["plan", "last", "left", "ends", "known"] []) (kW : Kee K g1) (mW : mg "_law_ways" = some (.ref g1))
  (GN : FnOk P w K mg base CX0 12 g2 gd2 ["plan", "one", "other"] spLN) (bN : Binds K gd2 ["plan", "one", "other"] []) (kN : Kee K g2) (mN : mg "_law_near" = some (.ref g2)) :
  FnOk P w K mg base CX0 13 f fd ["plan", "number"] spRb := by
 refine F.ok scByn (fun vs H Q E h => ?_) (fun cdv A outer s H vs Q E hr h => ?_)
 ·obtain ⟨t, a, b, ns, ss, num, rfl, _⟩ := h
  rfl
 obtain ⟨t, a, b, ns, ss, num0, rfl, pl, hnum0, q⟩ := h
 have h10 := pl.ok.n2
 have n1 := pl.ok.n1
 have N := near_all pl.ok
 have wl := whole_lt h10
 have wp := Nat.one_lt_two_pow (n := ns.length) (by omega)
 have hends : ∀ e < ns.length, endsP ns ss false e = ns.contains (ns.getD e 0) := fun e he => by
  have : ns.contains (ns.getD e 0) = true := List.contains_iff_mem.mpr (List.mem_of_getElem? (getD_at he))
  rw [this]
  rfl
 refine ⟨_, (@pss_cons _ _ _ _ _ (ps_set (i := 2) scByn.nd rfl (Or.inl rfl) (pe_lst pa_nil)) (@pss_cons _ _ _ _ _ (ps_set (i := 3) scByn.nd rfl (Or.inl rfl) pe_non) (@pss_cons _ _ _ _ _ (ps_set (i := 4) scByn.nd rfl (Or.inl rfl) (pe_callTy call_tuple_of rfl B.tuple PyProof.Rows.boot_tuple (pa_cons (pe_ix ix_tup (pv 0) pe_int (fun _ _ => rfl)) pa_nil))) (@pss_cons _ _ _ _ _ (ps_set (i := 5) scByn.nd rfl (Or.inl rfl) pe_nnew) (@pss_cons _ _ _ _ _ (ps_while PassesOwn.never (pt_cmpR (op_neT0 hr.units) (pv 4) (pe_tup pa_nil) (nomark _)) (@pss_cons _ _ _ _ _ (ps_for PassesOwn.never rfl (pi_enumT rfl B.enumerate (pa_cons (pv 4) pa_nil)) (pg_tup rfl (pgs_cons (pg_name (i := 6) scByn.nd rfl (Or.inl rfl)) (pgs_cons (pg_name (i := 7) scByn.nd rfl (Or.inl rfl)) pgs_nil))) (@pss_cons _ _ _ _ _ (ps_set (i := 8) scByn.nd rfl (Or.inl rfl) (pe_op op_catT2 (pe_slice sl_tup (pv 4) po_none (po_some (pv 6))) (pe_slice sl_tup (pv 4) (po_some (pe_op op_add (pv 6) pe_int)) po_none))) (@pss_cons _ _ _ _ _ (ps_set (i := 9) scByn.nd rfl (Or.inl rfl) pe_int) (@pss_cons _ _ _ _ _ (ps_if (PW.pt (pw_or (pt_cmpR op_isN (pv 3) pe_non (nomark _)) (pw_or1 (pt_val (pe_call GN hr rfl mN kN bN .nil pass0 (pa_cons (pv 0) (pa_cons (pv 3) (pa_cons (pv 7) pa_nil)))))))) (@pss_one _ _ _ (ps_set (i := 9) scByn.nd rfl (Or.inl rfl) (pe_call GW hr rfl mW kW bW .nil pass0 (pa_cons (pv 0) (pa_cons (pv 7) (pa_cons (pv 8) (pa_cons (pe_ix ix_tup (pv 0) pe_int (fun _ _ => rfl)) (pa_cons (pv 5) pa_nil)))))))) pss_nil) (@pss_cons _ _ _ _ _ (ps_if (pt_cmpR op_lt (pv 1) (pv 9) (nomark _)) (@pss_one _ _ _ ps_break) pss_nil) (@pss_one _ _ _ (ps_set (i := 1) scByn.nd rfl (Or.inl rfl) (pe_op op_sub (pv 1) (pv 9))))))))) (@pss_cons _ _ _ _ _ (ps_expr (pe_bm PySem.F.plainAttrs_list PySem.F.slot_list_append PySem.F.type_list_append mt_append (pv 2) (pa_cons (pv 7) pa_nil))) (@pss_cons _ _ _ _ _ (ps_set (i := 3) scByn.nd rfl (Or.inl rfl) (pv 7)) (@pss_one _ _ _ (ps_set (i := 4) scByn.nd rfl (Or.inl rfl) (pv 8))))))) (@pss_one _ _ _ (ps_ret (pv 2)))))))), ?_⟩
 refine ⟨(by show 0 ≤ sizeLine; decide), fun ro hro => ?_⟩
 have g1 : Same H (upd H ro (.lst [])) := Same.new hro _
 have pl1 := pl.same g1
 have er1 : upd H ro (.lst []) ro = some (.lst []) := upd_same
 generalize upd H ro (.lst []) = H1 at g1 pl1 er1 ⊢
 refine ⟨_, rfl, t, _, 0, _, rfl, rfl, SqT.of pl1.t, rfl, a, _, rfl, .inl ⟨SqL.of pl1.a, fun lf hlf => ?_⟩⟩
 have g2 := Same.new hlf (.tup (ns.map V.int))
 have el2 : upd H1 lf (.tup (ns.map V.int)) lf = some (.tup ((lstM ns (2 ^ ns.length - 1)).map V.int)) := by rw [lst_whole]; exact upd_same
 have pl2 := pl1.same g2
 have er2 := g2 _ _ er1
 have g12 := g1.trans g2
 generalize upd H1 lf (.tup (ns.map V.int)) = H2 at g2 el2 pl2 er2 g12 ⊢
 refine fun kn H3 hkn gk dk => ?_
 have g3 : Same H2 H3 := gk
 have hknH : H kn = none := none_of_same g12 hkn
 have rk : ro ≠ kn := ne_of_none er2 hkn
 have ra : a ≠ ro := ne_of_none pl.a hro
 have rt : t ≠ ro := ne_of_none pl.t hro
 have rb : b ≠ ro := ne_of_none pl.b hro
 have ak0 : a ≠ kn := ne_of_none pl.a hknH
 have ak1 : t ≠ kn := ne_of_none pl.t hknH
 have ak2 : b ≠ kn := ne_of_none pl.b hknH
 have pl3 := pl2.same g3
 have g13 := g12.trans g3
 dsimp only [gName, tSeq]
 refine while_by2 (fun σ H' => ∃ (x6 x7 x8 x9 : Option V) (lf : Addr) (kvs : List (NK × V)) (pre : List Nat) (l e num : Nat), σ = [some (.ref t), some (.int (num : Nat)), some (.ref ro), some (optI (lastO ns e)), some (.ref lf), some (.ref kn), x6, x7, x8, x9] ∧
   Ex (fun c => c = kn ∨ c = ro) H3 H' ∧ NDict P w H' kn kvs ∧ MemoN ns (nearX ns ss (List.range ns.length)) (endsP ns ss false) kvs ∧ H' ro = some (.lst ((pre.map fun k => ns.getD k 0).map V.int)) ∧ H' lf = some (.tup ((lstM ns l).map V.int)) ∧ l < 2 ^ ns.length ∧ e ≤ ns.length ∧ pre.length + cnt l ≤ 10 ∧
   num < ways (nearX ns ss (List.range ns.length)) (endsP ns ss false) l e ∧ pre ++ byN (nearX ns ss (List.range ns.length)) (endsP ns ss false) l e num = byN (nearX ns ss (List.range ns.length)) (endsP ns ss false) (2 ^ ns.length - 1) ns.length num0)
  (fun σ H' => tupN σ H') ⟨none, none, none, none, lf, [], [], 2 ^ ns.length - 1, ns.length, num0, by rw [lastO_n]; rfl, Ex.refl, dk, memoN_nil, g3 _ _ er2, g3 _ _ el2, by omega, Nat.le_refl _, by have := cnt_le _ wl; simpa using this, hnum0, rfl⟩ ?_
 clear el2 hlf g2
 rintro σ H4 ⟨x6, x7, x8, x9, lf, kvs, pre, l, e, num, rfl, ex4, d4, M4, er4, el4, hl, he, hlen, hnum, hpath⟩
 have hl' : l < 1024 := Nat.lt_of_lt_of_le hl (pow_le _ (by omega))
 have lml : ((lstM ns l).map V.int).length = (bitsM ns.length l).length := by unfold lstM; rw [List.length_map, List.length_map]
 have pl4 : IsPl H4 t a b ns ss := ⟨ex4 _ _ (fun z => z.elim ak1 rt) pl3.t, ex4 _ _ (fun z => z.elim ak0 ra) pl3.a, ex4 _ _ (fun z => z.elim ak2 rb) pl3.b, pl.ok⟩
 refine ⟨_, rfl, (by show 0 ≤ sizeLine; decide), fun et het => ?_⟩
 have g5 : Same H4 (upd H4 et (.tup [])) := Same.new het _
 have et5 : upd H4 et (.tup []) et = some (.tup []) := upd_same
 have el5 := g5 _ _ el4
 have er5 := g5 _ _ er4
 have d5 := d4.same g5
 have pl5 := pl4.same g5
 have hne : tupN [some (.ref t), some (.int (num : Nat)), some (.ref ro), some (optI (lastO ns e)), some (.ref lf), some (.ref kn), x6, x7, x8, x9] H4 = (bitsM ns.length l).length := by
  unfold tupN
  show (match H4 lf with | some (.tup xs) => xs.length | _ => 0) = _
  rw [el4]
  exact lml
 generalize upd H4 et (.tup []) = H5 at g5 et5 el5 er5 d5 pl5 ⊢
 have ex5 : Ex (fun c => c = kn ∨ c = ro) H3 H5 := ex4.trans (Ex.same g5)
 refine ⟨lf, et, _, rfl, rfl, el5, et5, _, rfl, ite2 (fun c => ?_) (fun c => ?_)⟩
 ·have h0 : l ≠ 0 := fun z => by
   rw [z] at c
   have bz : bitsM ns.length 0 = [] := List.filter_eq_nil_iff.mpr fun k _ => by rw [Nat.zero_testBit]; exact Bool.false_ne_true
   unfold lstM at c
   rw [bz] at c
   exact absurd (show (!true) = true from c) (by decide)
  have hsum := sumTo_all (ends := endsP ns ss false) N hl' h0 he fun _ => rfl
  refine next_by (H := H4) (μ := fun σ H' => tupN σ H') ?_
  refine seq_post (fun σ' H' => ∃ (x6 x9 : Option V) (kvs : List (NK × V)) (i k : Nat) (pm : Addr), σ' = [some (.ref t), some (.int ((num : Int) - ((sumTo ns ss (nearX ns ss (List.range ns.length)) (endsP ns ss false) l e i : Nat) : Int))), some (.ref ro), some (optI (lastO ns e)), some (.ref lf), some (.ref kn), x6, some (.int (ns.getD k 0)), some (.ref pm), x9] ∧
    Ex (· = kn) H5 H' ∧ NDict P w H' kn kvs ∧ MemoN ns (nearX ns ss (List.range ns.length)) (endsP ns ss false) kvs ∧ (bitsM ns.length l)[i]? = some k ∧ H' pm = some (.tup ((lstM ns (l - 2 ^ k)).map V.int)) ∧ adjE ns ss e k = true ∧
    sumTo ns ss (nearX ns ss (List.range ns.length)) (endsP ns ss false) l e i ≤ num ∧ num < sumTo ns ss (nearX ns ss (List.range ns.length)) (endsP ns ss false) l e i + ways (nearX ns ss (List.range ns.length)) (endsP ns ss false) (l - 2 ^ k) k) (fun N' hN => ?_) ?_
  ·obtain ⟨φ5, ek5⟩ := nd_at d5
   have lfk : lf ≠ kn := ne_of el5 ek5 (fun z => by cases z)
   refine ⟨_, rfl, lf, _, rfl, el5, ?_⟩
   refine for_enumT (xs := (lstM ns l).map V.int) (fun i σ H' => ∃ (x6 x7 x8 x9 : Option V) (kvs : List (NK × V)), σ = [some (.ref t), some (.int ((num : Int) - ((sumTo ns ss (nearX ns ss (List.range ns.length)) (endsP ns ss false) l e i : Nat) : Int))), some (.ref ro), some (optI (lastO ns e)), some (.ref lf), some (.ref kn), x6, x7, x8, x9] ∧
     Ex (· = kn) H5 H' ∧ NDict P w H' kn kvs ∧ MemoN ns (nearX ns ss (List.range ns.length)) (endsP ns ss false) kvs ∧ sumTo ns ss (nearX ns ss (List.range ns.length)) (endsP ns ss false) l e i ≤ num)
    ⟨_, _, _, _, kvs, by rw [show (num : Int) - ((sumTo ns ss (nearX ns ss (List.range ns.length)) (endsP ns ss false) l e 0 : Nat) : Int) = (num : Int) from Int.sub_zero _], Ex.refl, d5, M4, Nat.zero_le _⟩ (fun i σ H' _ ⟨_, _, _, _, _, _, ex, _⟩ => ex _ _ lfk el5) ?_ ?_
   ·rintro i x σ H6 T hx ⟨y6, y7, y8, y9, kvs6, rfl, ex6, d6, M6, hs6⟩ hT
    have hil : i < (bitsM ns.length l).length := by
     have := (List.getElem?_eq_some_iff.mp hx).1
     rw [lml] at this
     exact this
    obtain ⟨k, ek⟩ : ∃ k, k = (bitsM ns.length l)[i] := ⟨_, rfl⟩
    have hb : (bitsM ns.length l)[i]? = some k := by rw [List.getElem?_eq_getElem hil, ek]
    obtain ⟨hkn, hbit⟩ := bits_mem.mp (ek ▸ List.getElem_mem hil)
    have exx : x = .int (ns.getD k 0) := by
     unfold lstM at hx
     rw [List.getElem?_map, List.getElem?_map, hb] at hx
     exact (Option.some.inj hx).symm
    subst exx
    have gT : Same H6 (upd H6 T (.tup [.int (i : Int), .int (ns.getD k 0)])) := Same.new hT _
    refine ⟨T, _, rfl, SqT.of upd_same, rfl, _, _, rfl, _, _, rfl, rfl, ?_⟩
    have d7 := d6.same gT
    have ex7 : Ex (· = kn) H5 (upd H6 T (.tup [.int (i : Int), .int (ns.getD k 0)])) := ex6.trans (Ex.same gT)
    generalize upd H6 T (.tup [.int (i : Int), .int (ns.getD k 0)]) = H7 at gT d7 ex7 ⊢
    have pl7 := pl5.exN d5 ex7
    have el7 := ex7 _ _ lfk el5
    have hii : i < (lstM ns l).length := by unfold lstM; rw [List.length_map]; exact hil
    refine ⟨_, rfl, _, rfl, _, rfl, lf, _, rfl, SqT.of el7, (cut_not hii).1, fun p1 hp1 => ?_⟩
    have s4 := Same.new hp1 (.tup (cutV ((lstM ns l).map V.int) none (some (i : Int))))
    refine ⟨_, rfl, _, rfl, _, _, rfl, rfl, _, rfl, lf, _, rfl, SqT.of (s4 _ _ el7), (cut_not hii).2, fun p2 hp2 => ?_⟩
    have s5 := Same.new hp2 (.tup (cutV ((lstM ns l).map V.int) (some ((i : Int) + 1)) none))
    refine ⟨p1, p2, _, _, rfl, rfl, s5 _ _ upd_same, upd_same, ?_, fun pm H8 g8 em => ?_⟩
    ·have := cutV_length ((lstM ns l).map V.int) none (some (i : Int))
     have := cutV_length ((lstM ns l).map V.int) (some ((i : Int) + 1)) none
     have := bits_len ns.length l
     rw [lml] at *
     exact Nat.le_of_lt (small1000 (by omega))
    rw [(cut_at hii).1, (cut_at hii).2, ← List.map_append, ← List.eraseIdx_eq_take_drop_succ] at em
    have em' : H8 pm = some (.tup ((lstM ns (l - 2 ^ k)).map V.int)) := by
     rw [em]
     unfold lstM
     rw [erase_map, bits_erase h10 hl' hil, ← ek]
    have g78 : Same H7 H8 := (s4.trans s5).trans g8
    have d8 := d7.same g78
    have pl8 := pl7.same g78
    have cd := cnt_dec l hl' k (by omega) hbit
    have ex8 : Ex (· = kn) H5 H8 := ex7.trans (Ex.same g78)
    have nx := sumTo_next (ss := ss) (near := nearX ns ss (List.range ns.length)) (ends := endsP ns ss false) (e := e) hb
    dsimp only [gName]
    refine seq_post (fun σ' H' => σ' = [some (.ref t), some (.int ((num : Int) - ((sumTo ns ss (nearX ns ss (List.range ns.length)) (endsP ns ss false) l e i : Nat) : Int))), some (.ref ro), some (optI (lastO ns e)), some (.ref lf), some (.ref kn), some (.int (i : Int)), some (.int (ns.getD k 0)), some (.ref pm), some (.int 0)] ∧ H' = H8) (fun N1 hN1 => hN1 _ _ ⟨rfl, rfl⟩) ?_
    rintro σ' H8' ⟨rfl, e8⟩
    subst e8
    refine seq_post (fun σ' H' => ∃ kvs, σ' = [some (.ref t), some (.int ((num : Int) - ((sumTo ns ss (nearX ns ss (List.range ns.length)) (endsP ns ss false) l e i : Nat) : Int))), some (.ref ro), some (optI (lastO ns e)), some (.ref lf), some (.ref kn), some (.int (i : Int)), some (.int (ns.getD k 0)), some (.ref pm), some (.int ((if adjE ns ss e k = true then ways (nearX ns ss (List.range ns.length)) (endsP ns ss false) (l - 2 ^ k) k else 0 : Nat) : Int))] ∧
      Ex (· = kn) H5 H' ∧ NDict P w H' kn kvs ∧ MemoN ns (nearX ns ss (List.range ns.length)) (endsP ns ss false) kvs ∧ H' pm = some (.tup ((lstM ns (l - 2 ^ k)).map V.int))) (fun N2 hN2 => ?_) ?_
    ·refine or_by (b := adjE ns ss e k) (fun Q' hq => ?_) (ite2 (fun c3 => ?_) (fun c3 => ?_))
     ·rcases Nat.lt_or_ge e ns.length with z | z
      ·rw [lastO_lt z]
       unfold adjE at hq
       rw [if_pos z] at hq
       refine ⟨_, rfl, rfl, _, rfl, iteF ?_⟩
       exact ⟨_, rfl, _, rfl, _, rfl, t, a, b, ns, ss, _, _, rfl, pl8, _, rfl, hq⟩
      ·have ze : e = ns.length := by omega
       rw [ze, lastO_n]
       unfold adjE at hq
       rw [if_neg (by omega)] at hq
       exact ⟨_, rfl, rfl, _, rfl, iteT hq⟩
     ·refine ⟨_, rfl, _, rfl, _, rfl, _, rfl, t, _, 0, _, rfl, rfl, SqT.of pl8.t, rfl, _, rfl, t, a, b, pm, a, kn, ns, ss, ns, List.range ns.length, endsP ns ss false, l - 2 ^ k, k, kvs6, by rw [lastO_lt hkn]; rfl, pl8, Nat.le_of_lt hkn, (fun z => absurd hkn (by omega)), by omega, ?_, em', pl8.a, hends, N, d8, M6, fun H9 kvs9 ex9 d9 M9 => ?_⟩
      ·have := cnt_le l hl'
       omega
      ·refine hN2 _ _ ⟨kvs9, ?_, ex8.trans ex9, d9, M9, ?_⟩
       ·rw [if_pos c3]; rfl
       ·obtain ⟨φ8, ek8⟩ := nd_at d8
        exact ex9 _ _ (ne_of em' ek8 (fun z => by cases z)) em'
     ·refine hN2 _ _ ⟨kvs6, ?_, ex8, d8, M6, em'⟩
      rw [if_neg c3]; rfl
    rintro σ' H9 ⟨kvs9, rfl, ex9, d9, M9, em9⟩
    rw [← Nat.add_sub_cancel_left (n := sumTo ns ss (nearX ns ss (List.range ns.length)) (endsP ns ss false) l e i) (m := if adjE ns ss e k = true then ways (nearX ns ss (List.range ns.length)) (endsP ns ss false) (l - 2 ^ k) k else 0), ← nx]
    have mono : sumTo ns ss (nearX ns ss (List.range ns.length)) (endsP ns ss false) l e i ≤ sumTo ns ss (nearX ns ss (List.range ns.length)) (endsP ns ss false) l e (i + 1) := by omega
    refine seq_post (fun σ' H' => σ' = [some (.ref t), some (.int ((num : Int) - ((sumTo ns ss (nearX ns ss (List.range ns.length)) (endsP ns ss false) l e i : Nat) : Int))), some (.ref ro), some (optI (lastO ns e)), some (.ref lf), some (.ref kn), some (.int (i : Int)), some (.int (ns.getD k 0)), some (.ref pm), some (.int ((sumTo ns ss (nearX ns ss (List.range ns.length)) (endsP ns ss false) l e (i + 1) - sumTo ns ss (nearX ns ss (List.range ns.length)) (endsP ns ss false) l e i : Nat) : Int))] ∧ H' = H9 ∧ sumTo ns ss (nearX ns ss (List.range ns.length)) (endsP ns ss false) l e (i + 1) ≤ num) (fun N3 hN3 => ?_) ?_
    ·refine ⟨_, rfl, _, rfl, _, _, rfl, rfl, _, rfl, ite2 (fun c4 => ?_) (fun c4 => ?_)⟩
     ·have c4' := of_decide_eq_true c4
      have hadj : adjE ns ss e k = true := by
       cases ha : adjE ns ss e k with
       | true => rfl
       | false =>
        rw [ha, if_neg Bool.false_ne_true, Nat.add_zero] at nx
        rw [nx] at c4'
        omega
      rw [if_pos hadj] at nx
      exact hN _ _ ⟨_, _, kvs9, i, k, pm, rfl, ex9, d9, M9, hb, em9, hadj, hs6, by omega⟩
     ·have c4' : ¬ ((num : Int) - ((sumTo ns ss (nearX ns ss (List.range ns.length)) (endsP ns ss false) l e i : Nat) : Int) < ((sumTo ns ss (nearX ns ss (List.range ns.length)) (endsP ns ss false) l e (i + 1) - sumTo ns ss (nearX ns ss (List.range ns.length)) (endsP ns ss false) l e i : Nat) : Int)) := fun z => c4 (decide_eq_true z)
      exact hN3 _ _ ⟨rfl, rfl, by omega⟩
    rintro σ' H' ⟨rfl, rfl, hle⟩
    refine ⟨_, rfl, _, rfl, _, _, rfl, rfl, some (.int (i : Int)), some (.int (ns.getD k 0)), some (.ref pm), some (.int ((sumTo ns ss (nearX ns ss (List.range ns.length)) (endsP ns ss false) l e (i + 1) - sumTo ns ss (nearX ns ss (List.range ns.length)) (endsP ns ss false) l e i : Nat) : Int)), kvs9, ?_, ex9, d9, M9, hle⟩
    have en : (num : Int) - ((sumTo ns ss (nearX ns ss (List.range ns.length)) (endsP ns ss false) l e i : Nat) : Int) - ((sumTo ns ss (nearX ns ss (List.range ns.length)) (endsP ns ss false) l e (i + 1) - sumTo ns ss (nearX ns ss (List.range ns.length)) (endsP ns ss false) l e i : Nat) : Int) = (num : Int) - ((sumTo ns ss (nearX ns ss (List.range ns.length)) (endsP ns ss false) l e (i + 1) : Nat) : Int) := by omega
    rw [← en]
    rfl
   ·rintro σ H6 ⟨y6, y7, y8, y9, kvs6, rfl, ex6, d6, M6, hs6⟩
    rw [lml, hsum] at hs6
    omega
  rintro σ' H6 ⟨y6, y9, kvs6, i, k, pm, rfl, ex6, d6, M6, hb, em6, hadj, hs1, hs2⟩
  have hil : i < (bitsM ns.length l).length := (List.getElem?_eq_some_iff.mp hb).1
  obtain ⟨hkn, hbit⟩ := bits_mem.mp (List.mem_of_getElem? hb)
  have er6 := ex6 _ _ rk er5
  have pml : ((pre.map fun k => ns.getD k 0).map V.int).length = pre.length := by rw [List.length_map, List.length_map]
  have cd := cnt_dec l hl' k (by omega) hbit
  have ew := wAh_sum (ss := ss) (ends := endsP ns ss false) he hb
  have kmem : k ∈ nbs (nearX ns ss (List.range ns.length)) l e := by rw [nbs_bits he]; exact List.mem_filter.mpr ⟨List.mem_of_getElem? hb, hadj⟩
  have pk := pick_is (ends := endsP ns ss false) (num := num) N he kmem (by rw [ew]; exact hs1) (by rw [ew]; exact hs2)
  obtain ⟨k', _, _, _, pk', _, hw2, hcons⟩ := by_cons N hl' h0 he hnum
  rw [pk] at pk'
  cases pk'
  refine ⟨_, rfl, .inl ⟨rfl, _, SqL.of er6⟩, _, rfl, ro, _, _, rfl, rfl, er6, small1000 (by rw [pml]; omega), ?_⟩
  refine ⟨_, rfl, _, rfl, ?_⟩
  have pmr : pm ≠ ro := ne_of em6 er6 (fun z => by cases z)
  rw [ew] at hw2 hcons
  refine ⟨⟨y6, some (.int (ns.getD k 0)), some (.ref pm), y9, pm, kvs6, pre ++ [k], l - 2 ^ k, k, num - sumTo ns ss (nearX ns ss (List.range ns.length)) (endsP ns ss false) l e i, ?_, (ex5.trans (ex6.wide fun c z => .inl z)).trans (Ex.put _ (.inr rfl)), ?_, M6, ?_, ?_, by omega, Nat.le_of_lt hkn, ?_, hw2, ?_⟩, ?_⟩
  ·rw [lastO_lt hkn, show ((num - sumTo ns ss (nearX ns ss (List.range ns.length)) (endsP ns ss false) l e i : Nat) : Int) = (num : Int) - ((sumTo ns ss (nearX ns ss (List.range ns.length)) (endsP ns ss false) l e i : Nat) : Int) by omega]
   rfl
  ·refine d6.stay (upd_ne (Ne.symm rk)) fun c ys hc => ?_
   rw [upd_ne (ne_of hc er6 (fun z => by cases z))]
   exact hc
  ·rw [upd_same, List.map_append, List.map_append]
   rfl
  ·rw [upd_ne pmr]
   exact em6
  ·rw [List.length_append]
   show pre.length + 1 + cnt (l - 2 ^ k) ≤ 10
   omega
  ·rw [← hpath, hcons, List.append_assoc]
   rfl
  ·show _ < tupN [some (.ref t), some (.int (num : Nat)), some (.ref ro), some (optI (lastO ns e)), some (.ref lf), some (.ref kn), x6, x7, x8, x9] H4
   rw [hne]
   show (match upd H6 ro _ pm with | some (.tup xs) => xs.length | _ => 0) < _
   rw [upd_ne pmr, em6]
   show ((lstM ns (l - 2 ^ k)).map V.int).length < _
   have e1 : (bitsM ns.length l)[i] = k := (List.getElem?_eq_some_iff.mp hb).2
   have e2 := congrArg List.length (bits_erase h10 hl' hil)
   rw [e1, List.length_eraseIdx_of_lt hil] at e2
   unfold lstM
   rw [List.length_map, List.length_map]
   omega
 ·have h0 : l = 0 := bits_nil hl (by
   have h1 : ((lstM ns l).map V.int).isEmpty = true := by
    cases hz : ((lstM ns l).map V.int).isEmpty with
    | true => rfl
    | false => exact absurd (by rw [hz]; rfl) c
   have h2 := congrArg List.length (List.isEmpty_iff.mp h1)
   rw [lml] at h2
   exact List.length_eq_zero_iff.mp h2)
  subst h0
  have bz : byN (nearX ns ss (List.range ns.length)) (endsP ns ss false) 0 e num = [] := rfl
  rw [bz, List.append_nil] at hpath
  rw [hpath] at er5
  refine ⟨_, rfl, q ro H5 (fun c o hc => ?_) hro er5⟩
  exact ex5 _ _ (fun z => z.elim (ne_of_none hc hknH) (ne_of_none hc hro)) (g13 _ _ hc)
end
abbrev sLir : Stmt := top 46
def spLir : Sp := fun vs H Q _ => ∃ (t a b : Addr) (ns ss : List Int) (v : V) (d : PyData), vs = [.ref t, v] ∧ IsPl H t a b ns ss ∧ Dat H v d ∧ shortD d ∧ ∀ H', Same H H' → Q (.bl (rowD ns ss d)) H'
section
variable {f g1 : Addr} {fd gd1 : FuncData}
theorem scLir : FnScope ["plan", "thing", "one", "k"] ["plan", "thing"] (defScope sLir) := ⟨rfl, rfl, rfl, by decide +kernel, rfl, by decide +kernel, by decide +kernel⟩
theorem ok_lir {j : Nat} (F : Fun K "_law_is_row" "_law_is_row" sLir f fd) (B : Bt2 mg)
  (GN : FnOk P w K mg base CX0 j g1 gd1 ["plan", "one", "other"] spLN) (bN : Binds K gd1 ["plan", "one", "other"] []) (kN : Kee K g1) (mN : mg "_law_near" = some (.ref g1)) : FnOk P w K mg base CX0 (j + 1) f fd ["plan", "thing"] spLir := by
 refine F.ok scLir (fun vs H Q E h => ?_) (fun cdv A outer s H vs Q E hr h => ?_)
 ·obtain ⟨t, a, b, ns, ss, v, d, rfl, _⟩ := h
  rfl
 obtain ⟨t, a, b, ns, ss, v, d, rfl, pl, hd, sh, q⟩ := h
 refine ⟨_, (@pss_cons _ _ _ _ _ (ps_if (PW.pt (pw_or (pt_not (pt_val (pe_callB (call_isi "list") rfl B.isinstance boot_isinstance (pa_cons (pv 1) (pa_cons (pe_bltn (v := .ty "list") rfl B.list PyProof.Rows.boot_list rfl) pa_nil))))) (pw_or1 (pt_cmpR op_ne (pe_callB call_len_seq rfl B.len PySem.boot_len (pa_cons (pv 1) pa_nil)) (pe_callB call_len_seq rfl B.len PySem.boot_len (pa_cons (pe_ix ix_tup (pv 0) pe_int (fun _ _ => rfl)) pa_nil)) (nomark _))))) (@pss_one _ _ _ (ps_ret pe_bl)) pss_nil) (@pss_cons _ _ _ _ _ (ps_for PassesOwn.never rfl (pi_list (pv 1)) (pg_name (i := 2) scLir.nd rfl (Or.inl rfl)) (@pss_one _ _ _ (ps_if (PW.pt (pw_or (pt_not (pt_val (pe_callB (call_isi "int") rfl B.isinstance boot_isinstance (pa_cons (pv 2) (pa_cons (pe_bltn (v := .ty "int") rfl B.int PyProof.Rows.boot_int rfl) pa_nil))))) (pw_or1 (pt_val (pe_callB (call_isi "bool") rfl B.isinstance boot_isinstance (pa_cons (pv 2) (pa_cons (pe_bltn (v := .ty "bool") rfl B.bool PyProof.Rows.boot_bool rfl) pa_nil))))))) (@pss_one _ _ _ (ps_ret pe_bl)) pss_nil))) (@pss_cons _ _ _ _ _ (ps_if (pt_cmpR (op_neD hr.units) (pe_callB call_sorted rfl B.sorted boot_sorted (pa_cons (pv 1) pa_nil)) (pe_ix ix_tup (pv 0) pe_int (fun _ _ => rfl)) (nomark _)) (@pss_one _ _ _ (ps_ret pe_bl)) pss_nil) (@pss_cons _ _ _ _ _ (ps_for PassesOwn.never rfl (pi_range2 rfl B.range (pa_cons pe_int (pa_cons (pe_callB call_len_seq rfl B.len PySem.boot_len (pa_cons (pv 1) pa_nil)) pa_nil))) (pg_name (i := 3) scLir.nd rfl (Or.inl rfl)) (@pss_one _ _ _ (ps_if (pt_not (pt_val (pe_call GN hr rfl mN kN bN .nil pass0 (pa_cons (pv 0) (pa_cons (pe_ix ix_list (pv 1) (pe_op op_sub (pv 3) pe_int) (fun _ _ => rfl)) (pa_cons (pe_ix ix_list (pv 1) (pv 3) (fun _ _ => rfl)) pa_nil)))))) (@pss_one _ _ _ (ps_ret pe_bl)) pss_nil))) (@pss_one _ _ _ (ps_ret pe_bl)))))), ?_⟩
 refine ⟨_, rfl, _, _, isL d, rfl, hd.ty, kit_l _ d, _, rfl, ite2 (fun c => ?_) (fun c => ?_)⟩
 ·have e : rowD ns ss d = false := by cases d <;> first | rfl | cases c
  rw [e] at q
  exact q _ Same.rfl'
 cases hd with
 | lst ha hx =>
  rename_i p xs ds
  have hl := hx.len
  have nml : (ns.map V.int).length = ns.length := List.length_map _
  refine ⟨_, rfl, p, _, rfl, .inl (SqL.of ha), _, rfl, t, _, 0, _, rfl, rfl, SqT.of pl.t, rfl, a, _, rfl, .inl (SqL.of pl.a), rfl, _, rfl, ite2 (fun c1 => ?_) (fun c1 => ?_)⟩
  ·have c2 : (!decide (V.int ((xs.length : Nat) : Int) = V.int (((ns.map V.int).length : Nat) : Int))) = true := c1
   have e : rowD ns ss (.list ds) = false := by
    unfold rowD
    cases ez : intsD (.list ds) with
    | none => rfl
    | some zs =>
     show rowB ns ss zs = false
     unfold rowB
     have e1 := intsL_vals hx ez
     have e2 : zs.isPerm ns = false := Bool.eq_false_iff.mpr fun z => by
      have z2 := (List.isPerm_iff.mp z).length_eq
      rw [e1, List.length_map, nml, z2, decide_eq_true rfl] at c2
      cases c2
     rw [e2]
     rfl
   rw [e] at q
   exact q _ Same.rfl'
  refine ⟨_, rfl, p, rfl, ⟨_, SqL.of ha⟩, ?_⟩
  refine for_list (K := K) (xs := xs) (fun i σ H' => ∃ (y : Option V), σ = [some (.ref t), some (.ref p), y, none] ∧ H' = H ∧ (intsL (ds.take i)).isSome = true)
   ⟨none, rfl, rfl, rfl⟩ (fun i σ H' _ ⟨_, _, e, _⟩ => by rw [e]; exact SqL.of ha) ?_ ?_
  ·rintro i x σ H' hxi ⟨y, rfl, rfl, hb⟩
   obtain ⟨d', ed, hd'⟩ := hx.at hxi
   obtain ⟨hi, hv⟩ := List.getElem?_eq_some_iff.mp ed
   have out : isW d' = false → Q (.bl false) H' := fun e => by
    have e2 : rowD ns ss (.list ds) = false := by
     unfold rowD
     have e3 : intsD (.list ds) = none := by
      cases ez : intsD (.list ds) with
      | none => rfl
      | some zs =>
       have ha := intsL_all ds
       change intsL ds = some zs at ez
       rw [ez] at ha
       have := List.all_eq_true.mp ha.symm d' (List.mem_of_getElem? ed)
       rw [e] at this
       cases this
     rw [e3]
    rw [e2] at q
    exact q _ Same.rfl'
   refine ⟨_, rfl, _, _, isI d', rfl, hd'.ty, kit_i _ d', _, rfl, ite2 (fun c3 => ?_) (fun c3 => ?_)⟩
   ·exact out (by cases d' <;> first | rfl | cases c3)
   refine ⟨_, rfl, _, _, isB d', rfl, hd'.ty, kit_b _ d', _, rfl, ite2 (fun c4 => ?_) (fun c4 => ?_)⟩
   ·exact out (by cases d' <;> first | rfl | cases c4)
   refine ⟨_, rfl, rfl, ?_⟩
   have ew : isW d' = true := by cases d' <;> first | rfl | exact absurd rfl c3 | exact absurd rfl c4
   rw [intsL_all] at hb ⊢
   rw [List.take_add_one, ed, List.all_append, hb]
   show (true && (isW d' && true)) = true
   rw [ew]
   rfl
  ·rintro σ H' ⟨y, rfl, rfl, hb⟩
   rw [hl, List.take_of_length_le (Nat.le_refl _)] at hb
   obtain ⟨zs, ez⟩ := Option.isSome_iff_exists.mp hb
   have ex := intsL_vals hx ez
   subst ex
   have z64 : zs.length < 64 := by
    have := hl
    rw [List.length_map] at this
    change ds.length < 64 at sh
    omega
   have er : rowD ns ss (.list ds) = rowB ns ss zs := by
    unfold rowD
    show (match intsL ds with | some zs => rowB ns ss zs | none => false) = _
    rw [ez]
   rw [er] at q
   refine ⟨_, rfl, p, zs, rfl, SqL.of ha, z64, fun l ys hl hperm hle => ?_⟩
   have g3 : Same H' (upd H' l (.lst (ys.map V.int))) := Same.new hl _
   have px := pl.same g3
   refine ⟨_, rfl, t, _, 0, _, rfl, rfl, SqT.of px.t, rfl, _, rcv_ints (SqL.of upd_same) (SqL.of px.a), _, rfl, ?_⟩
   rw [sort_is pl.ok.n.up hperm hle]
   generalize upd H' l (.lst (ys.map V.int)) = H3 at g3 px ⊢
   cases cp : zs.isPerm ns with
   | false =>
    refine iteT ?_
    unfold rowB at q
    rw [cp] at q
    exact q _ g3
   | true =>
    refine iteF ?_
    have e2 : rowB ns ss zs = nbB ss zs := by unfold rowB; rw [cp, Bool.true_and]
    rw [e2] at q
    have zml : (zs.map V.int).length = zs.length := List.length_map _
    have hp3 := g3 _ _ ha
    refine ⟨_, rfl, p, _, rfl, .inl (SqL.of hp3), 1, ((zs.length : Nat) : Int), by rw [zml], ⟨by decide, by decide, by omega, by omega⟩, ?_⟩
    refine for_range (lo := 1) (n := ((zs.length : Int) - 1).toNat) (fun i σ H' => ∃ (y2 y3 : Option V), σ = [some (.ref t), some (.ref p), y2, y3] ∧ H' = H3 ∧ ((List.range i).all fun i => addUp ss (zs.getD i 0) (zs.getD (i + 1) 0)) = true) ⟨_, _, rfl, rfl, rfl⟩ ?_ ?_
    ·rintro i σ H4 hi ⟨y2, y3, rfl, rfl, hall⟩
     have hi1 : i + 1 < zs.length := by omega
     have x1 : atI (zs.map V.int) (1 + (i : Int) - 1) = some (.int (zs.getD i 0)) := by
      rw [show 1 + (i : Int) - 1 = ((i : Nat) : Int) by omega]
      refine atI_nat ?_
      rw [List.getElem?_map, List.getD_eq_getElem?_getD, List.getElem?_eq_getElem (by omega : i < zs.length)]
      rfl
     have x2 : atI (zs.map V.int) (1 + (i : Int)) = some (.int (zs.getD (i + 1) 0)) := by
      rw [show 1 + (i : Int) = ((i + 1 : Nat) : Int) by omega]
      refine atI_nat ?_
      rw [List.getElem?_map, List.getD_eq_getElem?_getD, List.getElem?_eq_getElem hi1]
      rfl
     have stp : ((List.range (i + 1)).all fun i => addUp ss (zs.getD i 0) (zs.getD (i + 1) 0)) = addUp ss (zs.getD i 0) (zs.getD (i + 1) 0) := by
      rw [List.range_succ, List.all_append, hall, Bool.true_and, List.all_cons, List.all_nil, Bool.and_true]
     refine ⟨_, rfl, _, rfl, _, rfl, _, _, rfl, rfl, p, _, _, _, rfl, rfl, SqL.of hp3, x1, _, rfl, _, rfl, p, _, _, _, rfl, rfl, SqL.of hp3, x2, t, a, b, ns, ss, _, _, rfl, px, _, rfl, ?_⟩
     cases ca : addUp ss (zs.getD i 0) (zs.getD (i + 1) 0) with
     | false =>
      refine iteT ?_
      have e3 : nbB ss zs = false := by
       cases hh : nbB ss zs with
       | false => rfl
       | true =>
        have h4 := List.all_eq_true.mp hh i (List.mem_range.mpr (by omega))
        rw [ca] at h4
        cases h4
      rw [e3] at q
      exact q _ g3
     | true =>
      refine iteF ?_
      refine ⟨_, _, rfl, rfl, ?_⟩
      rw [stp]
      exact ca
    ·rintro σ H4 ⟨y2, y3, rfl, rfl, hall⟩
     have e4 : nbB ss zs = true := by
      unfold nbB
      rw [show zs.length - 1 = ((zs.length : Int) - 1).toNat by omega]
      exact hall
     rw [e4] at q
     exact q _ g3
 | _ => exact absurd rfl c
end
theorem perm_of_sub : ∀ {zs ns : List Int}, zs.Nodup → (∀ x ∈ zs, x ∈ ns) → zs.length = ns.length → zs.Perm ns
 | [], ns, _, _, hl => by
  have : ns = [] := List.eq_nil_of_length_eq_zero hl.symm
  rw [this]
 | x :: r, ns, hn, hs, hl => by
  rw [List.nodup_cons] at hn
  have hx := hs x List.mem_cons_self
  refine (List.Perm.cons x (perm_of_sub hn.2 (fun y hy => ?_) ?_)).trans (List.perm_cons_erase hx).symm
  ·exact (List.mem_erase_of_ne (fun e : y = x => hn.1 (by rw [← e]; exact hy))).mpr (hs y (List.mem_cons_of_mem _ hy))
  ·rw [List.length_erase_of_mem hx]
   rw [List.length_cons] at hl
   omega
theorem cnt_whole : ∀ n ≤ 10, cnt (2 ^ n - 1) = n := by decide
theorem idx_at {ns : List Int} (up : ns.Pairwise (· < ·)) {k : Nat} (hk : k < ns.length) : ns.idxOf (ns.getD k 0) = k := by
 have e : ns.getD k 0 = ns[k] := by rw [List.getD_eq_getElem?_getD, List.getElem?_eq_getElem hk]; rfl
 have hm : ns.getD k 0 ∈ ns := by rw [e]; exact List.getElem_mem hk
 have il := List.idxOf_lt_length_iff.mpr hm
 have ev : ns[ns.idxOf (ns.getD k 0)] = ns[k] := by rw [List.getElem_idxOf, e]
 rcases Nat.lt_trichotomy (ns.idxOf (ns.getD k 0)) k with z | z | z
 ·have := List.pairwise_iff_getElem.mp up _ _ il hk z
  omega
 ·exact z
 ·have := List.pairwise_iff_getElem.mp up _ _ hk il z
  omega
theorem walk_nb {near : Nat → List Nat} : ∀ {ks : List Nat} {e : Nat}, Walk near e ks → ∀ i (h : i + 1 < ks.length), ks[i + 1] ∈ near ks[i]
 | _ :: [], _, _, i, h => by
  have : i + 1 < 1 := h
  omega
 | a :: b :: r, e, w, 0, h => w.2.1
 | a :: b :: r, e, w, i + 1, h => walk_nb (ks := b :: r) w.2 i (by simpa using h)
theorem rowN_row {ns ss : List Int} (ok : PlanOk ns ss) {num : Nat} (h : num < cntW ns ss false) : rowB ns ss (rowN ns ss num) = true ∧ numW ns ss (rowN ns ss num) = num := by
 have N := near_all ok
 have n10 := ok.n2
 have wl := whole_lt n10
 have h' : num < ways (nearX ns ss (List.range ns.length)) (endsP ns ss false) (2 ^ ns.length - 1) ns.length := h
 obtain ⟨w1, w2, w3, w4⟩ := by_walk N _ _ _ _ (cnt_whole _ n10) wl (Nat.le_refl _) h'
 have e5 := num_by N _ _ _ _ (cnt_whole _ n10) wl (Nat.le_refl _) h'
 unfold rowN numW
 generalize byN (nearX ns ss (List.range ns.length)) (endsP ns ss false) (2 ^ ns.length - 1) ns.length num = ks at w1 w2 w3 w4 e5 ⊢
 have at_ : ∀ i (hi : i < ks.length), ks[i] < ns.length := fun i hi => (w3 _ (List.getElem_mem hi)).1
 refine ⟨?_, ?_⟩
 ·unfold rowB
  rw [Bool.and_eq_true, List.isPerm_iff]
  refine ⟨perm_of_sub ?_ (fun x hx => ?_) (by rw [List.length_map, w1]), ?_⟩
  ·refine List.pairwise_map.mpr (w2.imp_of_mem fun {x y} hx hy ne e => ne ?_)
   rw [← idx_at ok.n.up (w3 x hx).1, ← idx_at ok.n.up (w3 y hy).1, e]
  ·obtain ⟨k, hk, rfl⟩ := List.mem_map.mp hx
   exact List.mem_of_getElem? (getD_at (w3 k hk).1)
  ·unfold nbB
   refine List.all_eq_true.mpr fun i hi => ?_
   have hi' := List.mem_range.mp hi
   rw [List.length_map] at hi'
   have i1 : i + 1 < ks.length := by omega
   have i0 : i < ks.length := by omega
   have m := walk_nb w4 i i1
   unfold nearX at m
   rw [if_pos (at_ i i0)] at m
   unfold nearP at m
   have m2 := (List.mem_filter.mp m).2
   have g0 : (ks.map fun k => ns.getD k 0).getD i 0 = ns.getD ks[i] 0 := by rw [List.getD_eq_getElem?_getD, List.getElem?_map, List.getElem?_eq_getElem i0]; rfl
   have g1 : (ks.map fun k => ns.getD k 0).getD (i + 1) 0 = ns.getD ks[i + 1] 0 := by rw [List.getD_eq_getElem?_getD, List.getElem?_map, List.getElem?_eq_getElem i1]; rfl
   rw [g0, g1]
   exact m2
 ·have e6 : (ks.map fun k => ns.getD k 0).map (fun z => ns.idxOf z) = ks := by
   rw [List.map_map]
   refine (List.map_congr_left fun k hk => ?_).trans (List.map_id _)
   exact idx_at ok.n.up (w3 k hk).1
  rw [e6]
  exact e5
abbrev sKin : Stmt := top 47
theorem boot_ValueError : bootBuiltins "ValueError" = some (.type "ValueError") := by decide +kernel
structure ExT (mg : Str → Option Value) (x0 x1 x2 x3 x4 x5 x6 x7 x8 x9 x10 x11 XS : Addr) : Prop where
 m0 : mg "NoPlan" = some (.ref x0)
 m1 : mg "NoNumber" = some (.ref x1)
 m2 : mg "NoKind" = some (.ref x2)
 m3 : mg "NoPlace" = some (.ref x3)
 m4 : mg "NoRow" = some (.ref x4)
 m5 : mg "NoCut" = some (.ref x5)
 m6 : mg "NoPart" = some (.ref x6)
 m7 : mg "NoSum" = some (.ref x7)
 m8 : mg "TooMany" = some (.ref x8)
 m9 : mg "NoText" = some (.ref x9)
 m10 : mg "NoName" = some (.ref x10)
 m11 : mg "NoSaying" = some (.ref x11)
 mS : mg "SumError" = some (.ref XS)
 mV : mg "ValueError" = none
structure ExD (K : PySem.W.Frag) (xs : List Addr) (XS D : Addr) (n : Int) : Prop where
 k : xs.map (fun x => PySem.W.kitOne K (.ref D) (.ref x)) = (List.range 12).map fun i : Nat => some (decide ((i : Int) = n))
 v : PySem.W.kitOne K (.ref D) (.type "ValueError") = some true
 c : ExcCls K D
 e : PySem.W.exmOne K (.ref D) (.ref XS) = some true
 i : PySem.W.excIn K D bmV "ValueError.__new__" = true
 lt : n < 12
theorem rcv_bls {K : PySem.W.Frag} {H : Hp} {a b : Addr} {bs : List Bool} (h1 : H a = some (.lst (bs.map V.bl))) (h2 : H b = some (.lst (bs.map V.bl))) : RcV K H (.ref a) (.ref b) true := by
 have q : RcV K H (.ref a) (.ref b) ((List.range (bs.map V.bl).length).all fun _ => true) := by
  refine RcV.lst (SqL.of h1) (SqL.of h2) rfl fun j x y hx hy => ?_
  rw [hx] at hy
  cases hy
  rw [List.getElem?_map] at hx
  cases e : bs[j]? with
  | none => rw [e] at hx; cases hx
  | some z =>
   rw [e] at hx
   cases hx
   have q := EqV.bl (K := K) (H := H) (n := 4) z z
   rw [beq_self_eq_true] at q
   exact q
 rw [List.all_eq_true.mpr fun _ _ => rfl] at q
 exact q
def spKin3 (K : PySem.W.Frag) (xs : List Addr) (XS : Addr) : Sp := fun vs H Q _ => ∃ (ea D : Addr), vs = [.ref ea, .int 3] ∧ H ea = some (.ext (ExcAt ea (.ref D))) ∧ ExD K xs XS D 4 ∧ ∀ H', Same H H' → Q (.bl true) H'
section
variable {f x0 x1 x2 x3 x4 x5 x6 x7 x8 x9 x10 x11 XS : Addr} {fd : FuncData}
theorem scKin : FnScope ["caught", "due", "kinds"] ["caught", "due"] (defScope sKin) := ⟨rfl, rfl, rfl, by decide +kernel, rfl, by decide +kernel, by decide +kernel⟩
theorem ok_kin (F : Fun K "_law_kinds" "_law_kinds" sKin f fd) (B : Bt2 mg) (T : ExT mg x0 x1 x2 x3 x4 x5 x6 x7 x8 x9 x10 x11 XS) : FnOk P w K mg base CX0 1 f fd ["caught", "due"] (spKin3 K [x0, x1, x2, x3, x4, x5, x6, x7, x8, x9, x10, x11] XS) := by
 refine F.ok scKin (fun vs H Q E h => ?_) (fun cdv A outer s H vs Q E hr h => ?_)
 ·obtain ⟨ea, D, rfl, _⟩ := h
  rfl
 obtain ⟨ea, D, rfl, he, ex, q⟩ := h
 refine ⟨_, (@pss_cons _ _ _ _ _ (ps_set (i := 2) scKin.nd rfl (Or.inl rfl) (pe_lst (pa_cons (pe_callB call_isiE rfl B.isinstance boot_isinstance (pa_cons (pv 0) (pa_cons (pe_glob (v := .ref x0) rfl T.m0 rfl) pa_nil))) (pa_cons (pe_callB call_isiE rfl B.isinstance boot_isinstance (pa_cons (pv 0) (pa_cons (pe_glob (v := .ref x1) rfl T.m1 rfl) pa_nil))) (pa_cons (pe_callB call_isiE rfl B.isinstance boot_isinstance (pa_cons (pv 0) (pa_cons (pe_glob (v := .ref x3) rfl T.m3 rfl) pa_nil))) pa_nil))))) (@pss_cons _ _ _ _ _ (ps_set (i := 2) scKin.nd rfl (Or.inl rfl) (pe_op op_cat (pv 2) (pe_lst (pa_cons (pe_callB call_isiE rfl B.isinstance boot_isinstance (pa_cons (pv 0) (pa_cons (pe_glob (v := .ref x4) rfl T.m4 rfl) pa_nil))) (pa_cons (pe_callB call_isiE rfl B.isinstance boot_isinstance (pa_cons (pv 0) (pa_cons (pe_glob (v := .ref x2) rfl T.m2 rfl) pa_nil))) pa_nil))))) (@pss_cons _ _ _ _ _ (ps_set (i := 2) scKin.nd rfl (Or.inl rfl) (pe_op op_cat (pv 2) (pe_lst (pa_cons (pe_callB call_isiE rfl B.isinstance boot_isinstance (pa_cons (pv 0) (pa_cons (pe_glob (v := .ref x5) rfl T.m5 rfl) pa_nil))) (pa_cons (pe_callB call_isiE rfl B.isinstance boot_isinstance (pa_cons (pv 0) (pa_cons (pe_glob (v := .ref x6) rfl T.m6 rfl) pa_nil))) pa_nil))))) (@pss_cons _ _ _ _ _ (ps_set (i := 2) scKin.nd rfl (Or.inl rfl) (pe_op op_cat (pv 2) (pe_lst (pa_cons (pe_callB call_isiE rfl B.isinstance boot_isinstance (pa_cons (pv 0) (pa_cons (pe_glob (v := .ref x7) rfl T.m7 rfl) pa_nil))) (pa_cons (pe_callB call_isiE rfl B.isinstance boot_isinstance (pa_cons (pv 0) (pa_cons (pe_glob (v := .ref x8) rfl T.m8 rfl) pa_nil))) pa_nil))))) (@pss_cons _ _ _ _ _ (ps_set (i := 2) scKin.nd rfl (Or.inl rfl) (pe_op op_cat (pv 2) (pe_lst (pa_cons (pe_callB call_isiE rfl B.isinstance boot_isinstance (pa_cons (pv 0) (pa_cons (pe_glob (v := .ref x9) rfl T.m9 rfl) pa_nil))) (pa_cons (pe_callB call_isiE rfl B.isinstance boot_isinstance (pa_cons (pv 0) (pa_cons (pe_glob (v := .ref x10) rfl T.m10 rfl) pa_nil))) pa_nil))))) (@pss_cons _ _ _ _ _ (ps_expr (pe_bm PySem.F.plainAttrs_list PySem.F.slot_list_append PySem.F.type_list_append mt_append (pv 2) (pa_cons (pe_callB call_isiE rfl B.isinstance boot_isinstance (pa_cons (pv 0) (pa_cons (pe_glob (v := .ref x11) rfl T.m11 rfl) pa_nil))) pa_nil))) (@pss_cons _ _ _ _ _ (ps_if (PW.pt (pw_or (pt_cmpR op_isN (pv 0) pe_non (nomark _)) (pw_or1 (pt_not (pt_val (pe_callB call_isiE rfl B.isinstance boot_isinstance (pa_cons (pv 0) (pa_cons (pe_bltn (v := .ty "ValueError") rfl T.mV boot_ValueError rfl) pa_nil)))))))) (@pss_one _ _ _ (ps_ret pe_bl)) pss_nil) (@pss_one _ _ _ (ps_ret (pe_cmpR (op_eqD hr.units) (pv 2) (pe_comp ["k"] rfl (blk_ok (defScope sKin) ["caught", "due", "kinds"] rfl rfl (by decide +kernel)) (pi_range1 rfl B.range (pa_cons pe_int pa_nil)) (fun pins C fp s3 H3 => ⟨(pg_name (i := 0) (show (blkN ["k"] ["caught", "due", "kinds"]).Nodup by decide +kernel) rfl (Or.inl rfl)), pif_nil, (pe_cmpR op_eq (pv 0) (pv 2) (nomark _))⟩)) (nomark _))))))))))), ?_⟩
 have kk : ∀ (i : Nat) (x : Addr), [x0, x1, x2, x3, x4, x5, x6, x7, x8, x9, x10, x11][i]? = some x → PySem.W.kitOne K (.ref D) (.ref x) = some (decide ((i : Int) = 4)) := fun i x hx => by
  have hk := congrArg (fun l : List (Option Bool) => l[i]?) ex.k
  simp only [List.getElem?_map, hx, Option.map_some] at hk
  have hi : i < 12 := (List.getElem?_eq_some_iff.mp hx).1
  rw [List.getElem?_range hi] at hk
  exact Option.some.inj hk
 refine ⟨_, rfl, ea, D, _, _, _, rfl, he, ex.c, fun _ z => z, kk 0 _ rfl, _, rfl, ea, D, _, _, _, rfl, he, ex.c, fun _ z => z, kk 1 _ rfl, _, rfl, ea, D, _, _, _, rfl, he, ex.c, fun _ z => z, kk 3 _ rfl, (by show 3 ≤ sizeLine; decide), ?_⟩
 intro q0 hq0
 have kq0 : Same H (upd H q0 (.lst [V.bl (decide (((0 : Nat) : Int) = 4)), V.bl (decide (((1 : Nat) : Int) = 4)), V.bl (decide (((3 : Nat) : Int) = 4))])) := Same.new hq0 _
 have eq0 : upd H q0 (.lst [V.bl (decide (((0 : Nat) : Int) = 4)), V.bl (decide (((1 : Nat) : Int) = 4)), V.bl (decide (((3 : Nat) : Int) = 4))]) q0 = some (.lst [V.bl (decide (((0 : Nat) : Int) = 4)), V.bl (decide (((1 : Nat) : Int) = 4)), V.bl (decide (((3 : Nat) : Int) = 4))]) := upd_same
 have cq0 : H q0 = none := hq0
 generalize upd H q0 (.lst [V.bl (decide (((0 : Nat) : Int) = 4)), V.bl (decide (((1 : Nat) : Int) = 4)), V.bl (decide (((3 : Nat) : Int) = 4))]) = H0 at kq0 eq0 ⊢
 have g0 := kq0
 refine ⟨_, rfl, _, rfl, ea, D, _, _, _, rfl, (g0 _ _ he), ex.c, fun _ z => z, kk 4 _ rfl, _, rfl, ea, D, _, _, _, rfl, (g0 _ _ he), ex.c, fun _ z => z, kk 2 _ rfl, two_le, ?_⟩
 intro q1 hq1
 have kq1 : Same H0 (upd H0 q1 (.lst [V.bl (decide (((4 : Nat) : Int) = 4)), V.bl (decide (((2 : Nat) : Int) = 4))])) := Same.new hq1 _
 have eq1 : upd H0 q1 (.lst [V.bl (decide (((4 : Nat) : Int) = 4)), V.bl (decide (((2 : Nat) : Int) = 4))]) q1 = some (.lst [V.bl (decide (((4 : Nat) : Int) = 4)), V.bl (decide (((2 : Nat) : Int) = 4))]) := upd_same
 have cq1 : H q1 = none := none_of_same g0 hq1
 generalize upd H0 q1 (.lst [V.bl (decide (((4 : Nat) : Int) = 4)), V.bl (decide (((2 : Nat) : Int) = 4))]) = H1 at kq1 eq1 ⊢
 have g1 := g0.trans kq1
 refine ⟨_, _, _, _, rfl, rfl, kq1 _ _ eq0, eq1, (by show 5 ≤ sizeLine; decide), ?_⟩
 intro q2 hq2
 have kq2 : Same H1 (upd H1 q2 (.lst ([V.bl (decide (((0 : Nat) : Int) = 4)), V.bl (decide (((1 : Nat) : Int) = 4)), V.bl (decide (((3 : Nat) : Int) = 4))] ++ [V.bl (decide (((4 : Nat) : Int) = 4)), V.bl (decide (((2 : Nat) : Int) = 4))]))) := Same.new hq2 _
 have eq2 : upd H1 q2 (.lst ([V.bl (decide (((0 : Nat) : Int) = 4)), V.bl (decide (((1 : Nat) : Int) = 4)), V.bl (decide (((3 : Nat) : Int) = 4))] ++ [V.bl (decide (((4 : Nat) : Int) = 4)), V.bl (decide (((2 : Nat) : Int) = 4))])) q2 = some (.lst ([V.bl (decide (((0 : Nat) : Int) = 4)), V.bl (decide (((1 : Nat) : Int) = 4)), V.bl (decide (((3 : Nat) : Int) = 4))] ++ [V.bl (decide (((4 : Nat) : Int) = 4)), V.bl (decide (((2 : Nat) : Int) = 4))])) := upd_same
 have cq2 : H q2 = none := none_of_same g1 hq2
 generalize upd H1 q2 (.lst ([V.bl (decide (((0 : Nat) : Int) = 4)), V.bl (decide (((1 : Nat) : Int) = 4)), V.bl (decide (((3 : Nat) : Int) = 4))] ++ [V.bl (decide (((4 : Nat) : Int) = 4)), V.bl (decide (((2 : Nat) : Int) = 4))])) = H2 at kq2 eq2 ⊢
 have g2 := g1.trans kq2
 refine ⟨_, rfl, _, rfl, ea, D, _, _, _, rfl, (g2 _ _ he), ex.c, fun _ z => z, kk 5 _ rfl, _, rfl, ea, D, _, _, _, rfl, (g2 _ _ he), ex.c, fun _ z => z, kk 6 _ rfl, two_le, ?_⟩
 intro q3 hq3
 have kq3 : Same H2 (upd H2 q3 (.lst [V.bl (decide (((5 : Nat) : Int) = 4)), V.bl (decide (((6 : Nat) : Int) = 4))])) := Same.new hq3 _
 have eq3 : upd H2 q3 (.lst [V.bl (decide (((5 : Nat) : Int) = 4)), V.bl (decide (((6 : Nat) : Int) = 4))]) q3 = some (.lst [V.bl (decide (((5 : Nat) : Int) = 4)), V.bl (decide (((6 : Nat) : Int) = 4))]) := upd_same
 have cq3 : H q3 = none := none_of_same g2 hq3
 generalize upd H2 q3 (.lst [V.bl (decide (((5 : Nat) : Int) = 4)), V.bl (decide (((6 : Nat) : Int) = 4))]) = H3 at kq3 eq3 ⊢
 have g3 := g2.trans kq3
 refine ⟨_, _, _, _, rfl, rfl, kq3 _ _ eq2, eq3, (by show 7 ≤ sizeLine; decide), ?_⟩
 intro q4 hq4
 have kq4 : Same H3 (upd H3 q4 (.lst (([V.bl (decide (((0 : Nat) : Int) = 4)), V.bl (decide (((1 : Nat) : Int) = 4)), V.bl (decide (((3 : Nat) : Int) = 4))] ++ [V.bl (decide (((4 : Nat) : Int) = 4)), V.bl (decide (((2 : Nat) : Int) = 4))]) ++ [V.bl (decide (((5 : Nat) : Int) = 4)), V.bl (decide (((6 : Nat) : Int) = 4))]))) := Same.new hq4 _
 have eq4 : upd H3 q4 (.lst (([V.bl (decide (((0 : Nat) : Int) = 4)), V.bl (decide (((1 : Nat) : Int) = 4)), V.bl (decide (((3 : Nat) : Int) = 4))] ++ [V.bl (decide (((4 : Nat) : Int) = 4)), V.bl (decide (((2 : Nat) : Int) = 4))]) ++ [V.bl (decide (((5 : Nat) : Int) = 4)), V.bl (decide (((6 : Nat) : Int) = 4))])) q4 = some (.lst (([V.bl (decide (((0 : Nat) : Int) = 4)), V.bl (decide (((1 : Nat) : Int) = 4)), V.bl (decide (((3 : Nat) : Int) = 4))] ++ [V.bl (decide (((4 : Nat) : Int) = 4)), V.bl (decide (((2 : Nat) : Int) = 4))]) ++ [V.bl (decide (((5 : Nat) : Int) = 4)), V.bl (decide (((6 : Nat) : Int) = 4))])) := upd_same
 have cq4 : H q4 = none := none_of_same g3 hq4
 generalize upd H3 q4 (.lst (([V.bl (decide (((0 : Nat) : Int) = 4)), V.bl (decide (((1 : Nat) : Int) = 4)), V.bl (decide (((3 : Nat) : Int) = 4))] ++ [V.bl (decide (((4 : Nat) : Int) = 4)), V.bl (decide (((2 : Nat) : Int) = 4))]) ++ [V.bl (decide (((5 : Nat) : Int) = 4)), V.bl (decide (((6 : Nat) : Int) = 4))])) = H4 at kq4 eq4 ⊢
 have g4 := g3.trans kq4
 refine ⟨_, rfl, _, rfl, ea, D, _, _, _, rfl, (g4 _ _ he), ex.c, fun _ z => z, kk 7 _ rfl, _, rfl, ea, D, _, _, _, rfl, (g4 _ _ he), ex.c, fun _ z => z, kk 8 _ rfl, two_le, ?_⟩
 intro q5 hq5
 have kq5 : Same H4 (upd H4 q5 (.lst [V.bl (decide (((7 : Nat) : Int) = 4)), V.bl (decide (((8 : Nat) : Int) = 4))])) := Same.new hq5 _
 have eq5 : upd H4 q5 (.lst [V.bl (decide (((7 : Nat) : Int) = 4)), V.bl (decide (((8 : Nat) : Int) = 4))]) q5 = some (.lst [V.bl (decide (((7 : Nat) : Int) = 4)), V.bl (decide (((8 : Nat) : Int) = 4))]) := upd_same
 have cq5 : H q5 = none := none_of_same g4 hq5
 generalize upd H4 q5 (.lst [V.bl (decide (((7 : Nat) : Int) = 4)), V.bl (decide (((8 : Nat) : Int) = 4))]) = H5 at kq5 eq5 ⊢
 have g5 := g4.trans kq5
 refine ⟨_, _, _, _, rfl, rfl, kq5 _ _ eq4, eq5, (by show 9 ≤ sizeLine; decide), ?_⟩
 intro q6 hq6
 have kq6 : Same H5 (upd H5 q6 (.lst ((([V.bl (decide (((0 : Nat) : Int) = 4)), V.bl (decide (((1 : Nat) : Int) = 4)), V.bl (decide (((3 : Nat) : Int) = 4))] ++ [V.bl (decide (((4 : Nat) : Int) = 4)), V.bl (decide (((2 : Nat) : Int) = 4))]) ++ [V.bl (decide (((5 : Nat) : Int) = 4)), V.bl (decide (((6 : Nat) : Int) = 4))]) ++ [V.bl (decide (((7 : Nat) : Int) = 4)), V.bl (decide (((8 : Nat) : Int) = 4))]))) := Same.new hq6 _
 have eq6 : upd H5 q6 (.lst ((([V.bl (decide (((0 : Nat) : Int) = 4)), V.bl (decide (((1 : Nat) : Int) = 4)), V.bl (decide (((3 : Nat) : Int) = 4))] ++ [V.bl (decide (((4 : Nat) : Int) = 4)), V.bl (decide (((2 : Nat) : Int) = 4))]) ++ [V.bl (decide (((5 : Nat) : Int) = 4)), V.bl (decide (((6 : Nat) : Int) = 4))]) ++ [V.bl (decide (((7 : Nat) : Int) = 4)), V.bl (decide (((8 : Nat) : Int) = 4))])) q6 = some (.lst ((([V.bl (decide (((0 : Nat) : Int) = 4)), V.bl (decide (((1 : Nat) : Int) = 4)), V.bl (decide (((3 : Nat) : Int) = 4))] ++ [V.bl (decide (((4 : Nat) : Int) = 4)), V.bl (decide (((2 : Nat) : Int) = 4))]) ++ [V.bl (decide (((5 : Nat) : Int) = 4)), V.bl (decide (((6 : Nat) : Int) = 4))]) ++ [V.bl (decide (((7 : Nat) : Int) = 4)), V.bl (decide (((8 : Nat) : Int) = 4))])) := upd_same
 have cq6 : H q6 = none := none_of_same g5 hq6
 generalize upd H5 q6 (.lst ((([V.bl (decide (((0 : Nat) : Int) = 4)), V.bl (decide (((1 : Nat) : Int) = 4)), V.bl (decide (((3 : Nat) : Int) = 4))] ++ [V.bl (decide (((4 : Nat) : Int) = 4)), V.bl (decide (((2 : Nat) : Int) = 4))]) ++ [V.bl (decide (((5 : Nat) : Int) = 4)), V.bl (decide (((6 : Nat) : Int) = 4))]) ++ [V.bl (decide (((7 : Nat) : Int) = 4)), V.bl (decide (((8 : Nat) : Int) = 4))])) = H6 at kq6 eq6 ⊢
 have g6 := g5.trans kq6
 refine ⟨_, rfl, _, rfl, ea, D, _, _, _, rfl, (g6 _ _ he), ex.c, fun _ z => z, kk 9 _ rfl, _, rfl, ea, D, _, _, _, rfl, (g6 _ _ he), ex.c, fun _ z => z, kk 10 _ rfl, two_le, ?_⟩
 intro q7 hq7
 have kq7 : Same H6 (upd H6 q7 (.lst [V.bl (decide (((9 : Nat) : Int) = 4)), V.bl (decide (((10 : Nat) : Int) = 4))])) := Same.new hq7 _
 have eq7 : upd H6 q7 (.lst [V.bl (decide (((9 : Nat) : Int) = 4)), V.bl (decide (((10 : Nat) : Int) = 4))]) q7 = some (.lst [V.bl (decide (((9 : Nat) : Int) = 4)), V.bl (decide (((10 : Nat) : Int) = 4))]) := upd_same
 have cq7 : H q7 = none := none_of_same g6 hq7
 generalize upd H6 q7 (.lst [V.bl (decide (((9 : Nat) : Int) = 4)), V.bl (decide (((10 : Nat) : Int) = 4))]) = H7 at kq7 eq7 ⊢
 have g7 := g6.trans kq7
 refine ⟨_, _, _, _, rfl, rfl, kq7 _ _ eq6, eq7, (by show 11 ≤ sizeLine; decide), ?_⟩
 intro q8 hq8
 have kq8 : Same H7 (upd H7 q8 (.lst (((([V.bl (decide (((0 : Nat) : Int) = 4)), V.bl (decide (((1 : Nat) : Int) = 4)), V.bl (decide (((3 : Nat) : Int) = 4))] ++ [V.bl (decide (((4 : Nat) : Int) = 4)), V.bl (decide (((2 : Nat) : Int) = 4))]) ++ [V.bl (decide (((5 : Nat) : Int) = 4)), V.bl (decide (((6 : Nat) : Int) = 4))]) ++ [V.bl (decide (((7 : Nat) : Int) = 4)), V.bl (decide (((8 : Nat) : Int) = 4))]) ++ [V.bl (decide (((9 : Nat) : Int) = 4)), V.bl (decide (((10 : Nat) : Int) = 4))]))) := Same.new hq8 _
 have eq8 : upd H7 q8 (.lst (((([V.bl (decide (((0 : Nat) : Int) = 4)), V.bl (decide (((1 : Nat) : Int) = 4)), V.bl (decide (((3 : Nat) : Int) = 4))] ++ [V.bl (decide (((4 : Nat) : Int) = 4)), V.bl (decide (((2 : Nat) : Int) = 4))]) ++ [V.bl (decide (((5 : Nat) : Int) = 4)), V.bl (decide (((6 : Nat) : Int) = 4))]) ++ [V.bl (decide (((7 : Nat) : Int) = 4)), V.bl (decide (((8 : Nat) : Int) = 4))]) ++ [V.bl (decide (((9 : Nat) : Int) = 4)), V.bl (decide (((10 : Nat) : Int) = 4))])) q8 = some (.lst (((([V.bl (decide (((0 : Nat) : Int) = 4)), V.bl (decide (((1 : Nat) : Int) = 4)), V.bl (decide (((3 : Nat) : Int) = 4))] ++ [V.bl (decide (((4 : Nat) : Int) = 4)), V.bl (decide (((2 : Nat) : Int) = 4))]) ++ [V.bl (decide (((5 : Nat) : Int) = 4)), V.bl (decide (((6 : Nat) : Int) = 4))]) ++ [V.bl (decide (((7 : Nat) : Int) = 4)), V.bl (decide (((8 : Nat) : Int) = 4))]) ++ [V.bl (decide (((9 : Nat) : Int) = 4)), V.bl (decide (((10 : Nat) : Int) = 4))])) := upd_same
 have cq8 : H q8 = none := none_of_same g7 hq8
 generalize upd H7 q8 (.lst (((([V.bl (decide (((0 : Nat) : Int) = 4)), V.bl (decide (((1 : Nat) : Int) = 4)), V.bl (decide (((3 : Nat) : Int) = 4))] ++ [V.bl (decide (((4 : Nat) : Int) = 4)), V.bl (decide (((2 : Nat) : Int) = 4))]) ++ [V.bl (decide (((5 : Nat) : Int) = 4)), V.bl (decide (((6 : Nat) : Int) = 4))]) ++ [V.bl (decide (((7 : Nat) : Int) = 4)), V.bl (decide (((8 : Nat) : Int) = 4))]) ++ [V.bl (decide (((9 : Nat) : Int) = 4)), V.bl (decide (((10 : Nat) : Int) = 4))])) = H8 at kq8 eq8 ⊢
 have g8 := g7.trans kq8
 refine ⟨_, rfl, .inl ⟨rfl, _, SqL.of eq8⟩, _, rfl, ea, D, _, _, _, rfl, g8 _ _ he, ex.c, fun _ z => z, kk 11 _ rfl, q8, _, _, rfl, rfl, eq8, (by show 11 < sizeLine; decide), ?_⟩
 have gA : Same H (upd H8 q8 (.lst (((List.range 12).map fun i : Nat => decide ((i : Int) = 3)).map V.bl))) := fun b u hb => by rw [upd_ne (ne_of_none hb cq8)]; exact g8 _ _ hb
 have eA : upd H8 q8 (.lst (((List.range 12).map fun i : Nat => decide ((i : Int) = 3)).map V.bl)) q8 = some (.lst (((List.range 12).map fun i : Nat => decide ((i : Int) = 3)).map V.bl)) := upd_same
 rw [show ((((([V.bl (decide (((0 : Nat) : Int) = 4)), V.bl (decide (((1 : Nat) : Int) = 4)), V.bl (decide (((3 : Nat) : Int) = 4))] ++ [V.bl (decide (((4 : Nat) : Int) = 4)), V.bl (decide (((2 : Nat) : Int) = 4))]) ++ [V.bl (decide (((5 : Nat) : Int) = 4)), V.bl (decide (((6 : Nat) : Int) = 4))]) ++ [V.bl (decide (((7 : Nat) : Int) = 4)), V.bl (decide (((8 : Nat) : Int) = 4))]) ++ [V.bl (decide (((9 : Nat) : Int) = 4)), V.bl (decide (((10 : Nat) : Int) = 4))]) ++ [V.bl (decide (((11 : Nat) : Int) = 4))] : List V) = ((List.range 12).map fun i : Nat => decide ((i : Int) = 3)).map V.bl from rfl]
 generalize upd H8 q8 (.lst (((List.range 12).map fun i : Nat => decide ((i : Int) = 3)).map V.bl)) = HZ at eA gA ⊢
 refine ⟨_, rfl, rfl, _, rfl, iteF ?_⟩
 refine ⟨_, rfl, ea, D, _, _, _, rfl, gA _ _ he, ex.c, fun _ z => z, ex.v, _, rfl, iteF ?_⟩
 refine ⟨_, rfl, 12, rfl, by decide, by decide, fun D' hD => ?_⟩
 refine turns_range (σ := [some (.ref ea), some (.int 3), some (.ref q8)]) (lo := 0) (n := (12 : Int).toNat) (fun _ => true) (fun i => .bl (decide ((i : Int) = 3))) hD (by decide) (fun i H' hi g P hP => hP _ Same.rfl') (fun i H' hi _ g P hP => ?_) fun H8 g8 e8 => ?_
 ·refine ⟨_, rfl, _, rfl, rfl, ?_⟩
  have e : decide (V.int (0 + (i : Int)) = V.int 3) = decide ((i : Int) = 3) := by
   rw [Int.zero_add]
   exact decide_eq_decide.mpr ⟨fun h => V.int.inj h, fun h => by rw [h]⟩
  rw [e]
  exact hP _ Same.rfl'
 ·refine ⟨true, rcv_bls (bs := (List.range 12).map fun i : Nat => decide ((i : Int) = 3)) (g8 _ _ eA) ?_, q _ (gA.trans g8)⟩
  rw [e8, List.filter_eq_self.mpr fun _ _ => rfl, List.map_map]
  rfl
end
abbrev sCau : Stmt := top 49
abbrev sRight : Stmt := top 50
def spCauR (XR : Addr) : Sp := fun vs H Q _ => ∃ (t a b : Addr) (ns ss : List Int) (v : V) (d : PyData), vs = [.ref t, v] ∧ IsPl H t a b ns ss ∧ Dat H v d ∧ shortD d ∧
 (rowD ns ss d = true → ∀ (l : Addr) (H' : Hp), Same H H' → H l = none → H' l = some (.lst [.int (numD ns ss d : Nat), .non]) → Q (.ref l) H') ∧
 (rowD ns ss d = false → ∀ (l ea : Addr) (H' : Hp), Same H H' → H' l = some (.lst [.non, .ref ea]) → H' ea = some (.ext (ExcAt ea (.ref XR))) → Q (.ref l) H')
def spRight : Sp := fun vs H Q _ => ∃ (t a b : Addr) (ns ss : List Int) (v : V) (d : PyData), vs = [.ref t, v] ∧ IsPl H t a b ns ss ∧ Dat H v d ∧ Fine 2000 4 d ∧ shortD d ∧ ∀ H', Same H H' → Q (.bl true) H'
section
variable {f no cp ca ir ki XP XR XS : Addr} {xs : List Addr} {fd nod cpd cad ird kid : FuncData}
theorem scCau : FnScope ["plan", "thing", "caught", "found", "e"] ["plan", "thing"] (defScope sCau) := ⟨rfl, rfl, rfl, by decide +kernel, rfl, by decide +kernel, by decide +kernel⟩
theorem ok_cau {j : Nat} (F : Fun K "_law_caught" "_law_caught" sCau f fd) (mXS : mg "SumError" = some (.ref XS)) (exR : ExD K xs XS XR 4)
  (GN : FnOk P w K mg base (CX1 P w) j no nod ["plan", "thing"] (spNo XP XR)) (bN : Binds K nod ["plan", "thing"] []) (kN : Kee K no) (mN : mg "number_of" = some (.ref no)) : FnOk P w K mg base CX0 (j + 1) f fd ["plan", "thing"] (spCauR XR) := by
 refine F.ok scCau (fun vs H Q E h => ?_) (fun cdv A outer s H vs Q E hr h => ?_)
 ·obtain ⟨t, a, b, ns, ss, v, d, rfl, _⟩ := h
  rfl
 obtain ⟨t, a, b, ns, ss, v, d, rfl, pl, hd, sh, q1, q2⟩ := h
 obtain ⟨d0, hd0, c0⟩ := pl.dat
 refine ⟨_, (@pss_cons _ _ _ _ _ (ps_set (i := 2) scCau.nd rfl (Or.inl rfl) pe_non) (@pss_cons _ _ _ _ _ (ps_set (i := 3) scCau.nd rfl (Or.inl rfl) pe_non) (@pss_cons _ _ _ _ _ (ps_try (S := XS) (i := 2) (j := 4) (pb_set (i := 3) (fun _ _ z => z) scCau.nd rfl (Or.inl rfl) GN hr rfl mN kN bN .nil (pa_cons (pv 0) (pa_cons (pv 1) pa_nil))) rfl rfl rfl scCau.nd rfl mXS rfl (Or.inl rfl) rfl rfl (by decide)) (@pss_one _ _ _ (ps_ret (pe_lst (pa_cons (pv 3) (pa_cons (pv 2) pa_nil)))))))), ?_⟩
 refine ⟨_, rfl, _, rfl, .ref t, d0, v, d, rfl, hd0, hd, sh, fun _ t' a' b' ns' ss' et pl' => ?_, fun c => ?_⟩
 ·cases et
  have ea : a = a' ∧ b = b' := by
   have z := pl.t.symm.trans pl'.t
   cases z
   exact ⟨rfl, rfl⟩
  obtain ⟨rfl, rfl⟩ := ea
  have en : ns = ns' := by
   have z := pl.a.symm.trans pl'.a
   exact map_inj_on (fun _ _ _ _ h => V.int.inj h) (HO.lst.inj (Option.some.inj z))
  have es : ss = ss' := by
   have z := pl.b.symm.trans pl'.b
   exact map_inj_on (fun _ _ _ _ h => V.int.inj h) (HO.lst.inj (Option.some.inj z))
  subst en
  subst es
  refine ⟨fun c H1 g1 => ?_, fun c H1 g1 => ?_⟩
  ·refine ⟨_, rfl, _, rfl, two_le, fun l hl => ?_⟩
   exact q1 c l _ (g1.trans (Same.new hl _)) (none_of_same g1 hl) upd_same
  ·refine ⟨exR.e, fun ea hn => ?_⟩
   refine ⟨_, rfl, _, rfl, two_le, fun l hl => ?_⟩
   have g2 := Same.new hn (.ext (ExcAt ea (.ref XR)))
   have g3 := Same.new hl (.lst [.non, .ref ea])
   exact q2 c l ea _ (g1.trans (g2.trans g3)) upd_same (g3 _ _ upd_same)
 ·rw [c0] at c
  cases c
theorem scRight : FnScope ["plan", "thing", "handed", "kept", "found", "caught"] ["plan", "thing"] (defScope sRight) := ⟨rfl, rfl, rfl, by decide +kernel, rfl, by decide +kernel, by decide +kernel⟩
theorem ok_right {j : Nat} (F : Fun K "_law_right" "_law_right" sRight f fd) (B : BtR mg) (exR : ExD K xs XS XR 4)
  (GP : FnOk P w K mg base CX0 j cp cpd ["plan"] spCopy) (bP : Binds K cpd ["plan"] []) (kP : Kee K cp) (mP : mg "_law_copy" = some (.ref cp))
  (GC : FnOk P w K mg base CX0 j ca cad ["plan", "thing"] (spCauR XR)) (bC : Binds K cad ["plan", "thing"] []) (kC : Kee K ca) (mC : mg "_law_caught" = some (.ref ca))
  (GI : FnOk P w K mg base CX0 j ir ird ["plan", "thing"] spLir) (bI : Binds K ird ["plan", "thing"] []) (kI : Kee K ir) (mI : mg "_law_is_row" = some (.ref ir))
  (GK : FnOk P w K mg base CX0 j ki kid ["caught", "due"] (spKin3 K xs XS)) (bK : Binds K kid ["caught", "due"] []) (kK : Kee K ki) (mK : mg "_law_kinds" = some (.ref ki)) : FnOk P w K mg base CX0 (j + 1) f fd ["plan", "thing"] spRight := by
 refine F.ok scRight (fun vs H Q E h => ?_) (fun cdv A outer s H vs Q E hr h => ?_)
 ·obtain ⟨t, a, b, ns, ss, v, d, rfl, _⟩ := h
  rfl
 obtain ⟨t, a, b, ns, ss, v, d, rfl, pl, hd, fB, sh, q⟩ := h
 have dl := fB.len (by decide)
 refine ⟨_, (@pss_cons _ _ _ _ _ (ps_set (i := 2) scRight.nd rfl (Or.inl rfl) (pe_call GP hr rfl mP kP bP .nil pass0 (pa_cons (pv 0) pa_nil))) (@pss_cons _ _ _ _ _ (ps_set (i := 3) scRight.nd rfl (Or.inl rfl) (pe_callB (call_repr hr.units hr.gd) rfl B.repr boot_repr (pa_cons (pv 1) pa_nil))) (@pss_cons _ _ _ _ _ (ps_asg (pe_call GC hr rfl mC kC bC .nil pass0 (pa_cons (pv 2) (pa_cons (pv 1) pa_nil))) (pg_tupL rfl (pgs_cons (pg_name (i := 4) scRight.nd rfl (Or.inl rfl)) (pgs_cons (pg_name (i := 5) scRight.nd rfl (Or.inl rfl)) pgs_nil)))) (@pss_cons _ _ _ _ _ (ps_if (PW.pt (pw_or (pt_cmpR (op_neD hr.units) (pv 2) (pv 0) (nomark _)) (pw_or1 (pt_cmpR op_ne (pe_callB (call_repr hr.units hr.gd) rfl B.repr boot_repr (pa_cons (pv 1) pa_nil)) (pv 3) (nomark _))))) (@pss_one _ _ _ (ps_ret pe_bl)) pss_nil) (@pss_cons _ _ _ _ _ (ps_if (pt_val (pe_call GI hr rfl mI kI bI .nil pass0 (pa_cons (pv 0) (pa_cons (pv 1) pa_nil)))) (@pss_one _ _ _ (ps_ret (pe_and (pe_cmpR op_isN (pv 5) pe_non (nomark _)) (pe_and (pe_callB (call_isi "int") rfl B.isinstance boot_isinstance (pa_cons (pv 4) (pa_cons (pe_bltn (v := .ty "int") rfl B.int PyProof.Rows.boot_int rfl) pa_nil))) (pe_one (pe_not (pe_callB (call_isi "bool") rfl B.isinstance boot_isinstance (pa_cons (pv 4) (pa_cons (pe_bltn (v := .ty "bool") rfl B.bool PyProof.Rows.boot_bool rfl) pa_nil))))))))) pss_nil) (@pss_one _ _ _ (ps_ret (pe_and (pe_cmpR op_isN (pv 4) pe_non (nomark _)) (pe_one (pe_call GK hr rfl mK kK bK .nil pass0 (pa_cons (pv 5) (pa_cons pe_int pa_nil)))))))))))), ?_⟩
 refine ⟨_, rfl, t, a, b, ns, ss, rfl, pl, fun t' a' b' H1 g1 nt' na' nb' _ pl1' => ?_⟩
 have aa' : a ≠ a' := ne_of_none pl.a na'
 have bb' : b ≠ b' := ne_of_none pl.b nb'
 refine ⟨_, rfl, v, d, rfl, hd.same g1, fB.show_, Nat.le_trans fB.deep (by decide), dl, ?_⟩
 have fin1 : ∀ {H' : Hp}, Same H1 H' → RcV K H' (.ref t') (.ref t) true := fun g => rcv_plan (pl1'.same g).t ((pl.same g1).same g).t (pl1'.same g).a (pl1'.same g).b ((pl.same g1).same g).a ((pl.same g1).same g).b (Ne.symm aa') (Ne.symm bb')
 refine ⟨_, rfl, _, rfl, t', a', b', ns, ss, v, d, rfl, pl1', hd.same g1, sh, fun c l H2 g2 hl el => ?_, fun c l ea H2 g2 el ee => ?_⟩
 ·refine ⟨l, _, rfl, SqL.of el, rfl, _, _, rfl, _, _, rfl, rfl, ?_⟩
  have g12 := g1.trans g2
  refine ⟨_, rfl, _, rfl, true, fin1 g2, _, rfl, iteF ⟨_, rfl, v, d, rfl, hd.same g12, fB.show_, Nat.le_trans fB.deep (by decide), dl, _, rfl, rfl, _, rfl, ite2 (fun c => absurd c (by simp)) (fun _ => ?_)⟩⟩
  refine ⟨_, rfl, _, rfl, t, a, b, ns, ss, v, d, rfl, pl.same g12, hd.same g12, sh, fun H3 g3 => ⟨_, rfl, ?_⟩⟩
  rw [c]
  refine iteT ?_
  refine ⟨_, rfl, rfl, _, rfl, iteT ⟨_, rfl, _, _, true, rfl, (Dat.int _).ty, kit_i _ (.int _), _, rfl, iteT ⟨_, rfl, _, _, false, rfl, (Dat.int _).ty, kit_b _ (.int _), _, rfl, ?_⟩⟩⟩
  exact q _ (g12.trans g3)
 ·refine ⟨l, _, rfl, SqL.of el, rfl, _, _, rfl, _, _, rfl, rfl, ?_⟩
  have g12 := g1.trans g2
  refine ⟨_, rfl, _, rfl, true, fin1 g2, _, rfl, iteF ⟨_, rfl, v, d, rfl, hd.same g12, fB.show_, Nat.le_trans fB.deep (by decide), dl, _, rfl, rfl, _, rfl, ite2 (fun c => absurd c (by simp)) (fun _ => ?_)⟩⟩
  refine ⟨_, rfl, _, rfl, t, a, b, ns, ss, v, d, rfl, pl.same g12, hd.same g12, sh, fun H3 g3 => ⟨_, rfl, ?_⟩⟩
  rw [c]
  refine iteF ?_
  refine ⟨_, rfl, rfl, _, rfl, iteT ⟨_, rfl, ea, XR, rfl, g3 _ _ ee, exR, fun H4 g4 => ?_⟩⟩
  exact q _ (g12.trans (g3.trans g4))
end
def S1 (d : Addr) : Addr → Prop := fun b => b = d
structure Lv (d p : Addr) (H0 H : Hp) (bs : List (Addr × HO)) : Prop where
 D : Sto H d p
 pp : ∃ u, msk (S1 d) H0 p = some u
 G : Same (msk (S1 d) H0) (msk (S1 d) H)
 L : ∀ x ∈ bs, msk (S1 d) H x.1 = some x.2
 F : ∀ x ∈ bs, msk (S1 d) H0 x.1 = none
 nd : (bs.map Prod.fst).Nodup
theorem Sto.out3 {H : Hp} {d p x : Addr} (D : Sto H d p) (h : H x = none) : ¬ S1 d x := fun z => by
 obtain ⟨c, e⟩ := D.at_
 have z' : x = d := z
 rw [z', e] at h
 cases h
section
variable {d p : Addr} {H0 H : Hp} {bs : List (Addr × HO)}
theorem Lv.start (D : Sto H d p) : Lv d p H H [] := ⟨D, (by obtain ⟨xs, h, _⟩ := D.pl; exact ⟨_, by rw [msk_in (S := S1 d) D.ne]; exact h⟩), fun _ _ h => h, (fun _ h => nomatch h), (fun _ h => nomatch h), List.nodup_nil⟩
theorem Lv.new (h : Lv d p H0 H bs) {q : Addr} (hq : H q = none) (o : HO) : Lv d p H0 (upd H q o) ((q, o) :: bs) := by
 have sm : Same H (upd H q o) := Same.new hq o
 refine ⟨h.D.ex sm, h.pp, fun b u e => msk_same sm _ _ (h.G _ _ e), fun x hx => ?_, fun x hx => ?_, ?_⟩
 ·rcases List.mem_cons.mp hx with e | e
  ·rw [e]
   show msk (S1 d) (upd H q o) q = some o
   rw [msk_in (h.D.out3 hq)]
   exact upd_same
  ·exact msk_same sm _ _ (h.L x e)
 ·rcases List.mem_cons.mp hx with e | e
  ·rw [e]
   show msk (S1 d) H0 q = none
   cases z : msk (S1 d) H0 q with
   | none => rfl
   | some u =>
    have y := msk_le _ _ (h.G _ _ z)
    rw [hq] at y
    cases y
  ·exact h.F x e
 ·rw [List.map_cons, List.nodup_cons]
  refine ⟨fun z => ?_, h.nd⟩
  obtain ⟨x, hx, e⟩ := List.mem_map.mp z
  have y := msk_le _ _ (h.L x hx)
  rw [e] at y
  change H q = _ at y
  rw [hq] at y
  cases y
theorem Lv.mv (h : Lv d p H0 H bs) {H' : Hp} (D : Sto H' d p) (g : Same (msk (S1 d) H) (msk (S1 d) H')) : Lv d p H0 H' bs := ⟨D, h.pp, fun b u e => g _ _ (h.G _ _ e), fun x hx => g _ _ (h.L x hx), h.F, h.nd⟩
theorem off_msk {H' : Hp} (o : OffD d H H') : Same (msk (S1 d) H) (msk (S1 d) H') := fun b u e => by
 obtain ⟨n, e⟩ := msk_some e
 rw [msk_in n]
 exact (o b fun z => n z).trans e
theorem Lv.m (h : Lv d p H0 H bs) {q : Addr} {o : HO} (e : (q, o) ∈ bs) : msk (S1 d) H q = some o := h.L _ e
theorem Lv.at (h : Lv d p H0 H bs) {q : Addr} {o : HO} (e : (q, o) ∈ bs) : H q = some o := msk_le _ _ (h.L _ e)
theorem Lv.old (h : Lv d p H0 H bs) {q : Addr} {o : HO} (e : msk (S1 d) H0 q = some o) : H q = some o := msk_le _ _ (h.G _ _ e)
theorem Lv.perm {bs' : List (Addr × HO)} (h : Lv d p H0 H bs) (e : bs'.Perm bs) : Lv d p H0 H bs' :=
 ⟨h.D, h.pp, h.G, fun x hx => h.L x (e.mem_iff.mp hx), fun x hx => h.F x (e.mem_iff.mp hx), (e.map Prod.fst).nodup_iff.mpr h.nd⟩
theorem Lv.put {l : Addr} {o : HO} (h : Lv d p H0 H ((l, o) :: bs)) (o' : HO) : Lv d p H0 (upd H l o') ((l, o') :: bs) := by
 have hl := h.L _ List.mem_cons_self
 have hf := h.F _ List.mem_cons_self
 have hn := h.nd
 rw [List.map_cons, List.nodup_cons] at hn
 obtain ⟨nl, el⟩ := msk_some hl
 have keep : ∀ b u, b ≠ l → msk (S1 d) H b = some u → msk (S1 d) (upd H l o') b = some u := fun b u ne e => by
  obtain ⟨n, e⟩ := msk_some e
  rw [msk_in n, upd_ne ne]
  exact e
 have lp : p ≠ l := fun z => by
  obtain ⟨u, hu⟩ := h.pp
  rw [z] at hu
  change msk (S1 d) H0 l = none at hf
  rw [hf] at hu
  cases hu
 have ld : d ≠ l := fun z => nl z.symm
 have D2 : Sto (upd H l o') d p := ⟨(by obtain ⟨c, e⟩ := h.D.at_; exact ⟨c, by rw [upd_ne ld]; exact e⟩), (by obtain ⟨xs, e, r⟩ := h.D.pl; exact ⟨xs, by rw [upd_ne lp]; exact e, r⟩)⟩
 refine ⟨D2, h.pp, fun b u e => keep b u (fun z => ?_) (h.G _ _ e), fun x hx => ?_, fun x hx => ?_, ?_⟩
 ·rw [z] at e
  change msk (S1 d) H0 l = none at hf
  rw [hf] at e
  cases e
 ·rcases List.mem_cons.mp hx with e | e
  ·rw [e]
   show msk (S1 d) (upd H l o') l = some o'
   rw [msk_in nl]
   exact upd_same
  ·exact keep _ _ (fun z => hn.1 (List.mem_map.mpr ⟨x, e, z⟩)) (h.L x (List.mem_cons_of_mem _ e))
 ·rcases List.mem_cons.mp hx with e | e
  ·rw [e]; exact hf
  ·exact h.F x (List.mem_cons_of_mem _ e)
 ·rw [List.map_cons, List.nodup_cons]
  exact hn
end
theorem cut_mem {xs : List V} {lo hi : Option Int} {x : V} (h : x ∈ cutV xs lo hi) : x ∈ xs := List.mem_of_mem_drop (List.mem_of_mem_take h)
structure QE (X : Cx) (e : Expr) (t : TE) : Prop where
 h : PE X e t
structure QA (X : Cx) (es : List Expr) (t : TA) : Prop where
 h : PA X es t
structure QI (X : Cx) (tg iter : Expr) (t : TI) : Prop where
 h : PI X tg iter t
structure QS (X : Cx) (st : Stmt) (t : TS) : Prop where
 h : PS X st t
structure QSs (X : Cx) (st : List Stmt) (t : TS) : Prop where
 h : PSs X st t
section
variable {X : Cx} {e tg : Expr} {es : List Expr} {te : TE} {t : TA} {pos : Pos} {st : Stmt} {rest : List Stmt} {u v : TS}
theorem qa_nil : QA X [] tNil := ⟨pa_nil⟩
theorem qa_cons (ha : QE X e te) (hr : QA X es t) (hs : starEach (e :: es) X.env = (false, eval e X.env) :: starEach es X.env := by rfl) : QA X (e :: es) (tCons te t) := ⟨pa_cons ha.h hr.h hs⟩
theorem qe_lst (h : QA X es t) : QE X (.List es pos) (tLst t) := ⟨pe_lst h.h⟩
theorem qe_tup {x1} (h : QA X es t) : QE X (.Tuple es x1 pos) (tTup t) := ⟨pe_tup h.h⟩
theorem qe_op {a b : Expr} {op : Operator} {ta tb : TE} {r : R2} (hr : OpR X (binaryOp op) r) (ha : QE X a ta) (hb : QE X b tb) : QE X (.BinOp a op b pos) (tOp r ta tb) := ⟨pe_op hr ha.h hb.h⟩
end
abbrev sSpo : Stmt := top 48
def ItS (M : Hp) (v : V) : Prop := ∃ d, Dat M v d ∧ Fine 2000 4 d ∧ shortD d
theorem ItS.same {M M' : Hp} {v : V} (h : ItS M v) (g : Same M M') : ItS M' v := let ⟨d, a, b, c⟩ := h; ⟨d, a.same g, b, c⟩
theorem its_of {M : Hp} {v : V} (th : Th M v 2000 4) (h : ∀ (a : Addr) (xs : List V), v = .ref a → M a = some (.lst xs) → xs.length < 64) : ItS M v := by
 obtain ⟨d, hd, f⟩ := th
 refine ⟨d, hd, f, ?_⟩
 cases hd with
 | lst ha hx =>
  have := h _ _ rfl ha
  have e := hx.len
  show List.length _ < 64
  omega
 | _ => trivial
theorem its_lst {M : Hp} {a : Addr} {xs : List V} (e : M a = some (.lst xs)) (hl : xs.length ≤ 40) (h : ∀ x ∈ xs, Th M x 40 2) : ItS M (.ref a) := by
 refine its_of ((Th.lst e h).mono ?_ (by decide)) fun a' xs' e' h' => ?_
 ·have : xs.length * (40 + 1) ≤ 40 * (40 + 1) := Nat.mul_le_mul_right _ hl
  omega
 ·cases e'
  rw [e] at h'
  cases h'
  omega
theorem st_eq {t : TS} {D : Ends} {σ σ' : L2.St} {H : Hp} (e : σ = σ') (h : t D σ' H) : t D σ H := by rw [e]; exact h
theorem ixN_lt {n : Nat} {i : Int} (h0 : 0 ≤ i) (h : i < (n : Int)) : ixN n i = some i.toNat := by
 unfold ixN
 rw [if_pos h0, if_pos h]
def spSpo : Sp := fun vs H Q _ => ∃ (d p r a : Addr) (zs ns : List Int), vs = [.ref d, .ref r, .ref a] ∧ Sto H d p ∧ msk (S1 d) H r = some (.lst (zs.map V.int)) ∧ msk (S1 d) H a = some (.lst (ns.map V.int)) ∧ 1 ≤ zs.length ∧ zs.length ≤ 10 ∧ 1 ≤ ns.length ∧ ns.length ≤ 10 ∧
 (∀ x ∈ zs, 0 ≤ x ∧ x < 10 ^ 29) ∧ (∀ x ∈ ns, 0 ≤ x ∧ x < 10 ^ 29) ∧
 ∀ (l : Addr) (xs : List V) (H' : Hp), Sto H' d p → Same (msk (S1 d) H) (msk (S1 d) H') → msk (S1 d) H' l = some (.lst xs) → xs.length = 12 → (∀ x ∈ xs, ItS (msk (S1 d) H') x) → Q (.ref l) H'
section
variable {f tk : Addr} {fd tkd : FuncData}
theorem scSpo : FnScope ["store", "row", "numbers", "at", "to", "x", "odd", "other", "low", "high", "ahead", "behind", "some"] ["store", "row", "numbers"] (defScope sSpo) := ⟨rfl, rfl, rfl, by decide +kernel, rfl, by decide +kernel, by decide +kernel⟩
set_option maxHeartbeats 0 in
theorem ok_spo (F : Fun K "_law_spoilt" "_law_spoilt" sSpo f fd) (B : BtR mg) (GT : FnOk P w K mg base CX0 1 tk tkd ["store", "many"] spTk) (bT : Binds K tkd ["store", "many"] []) (kT : Kee K tk) (mT : mg "_law_take" = some (.ref tk)) : FnOk P w K mg base CX0 2 f fd ["store", "row", "numbers"] spSpo := by
 refine F.ok scSpo (fun vs H Q E h => ?_) (fun cdv A outer s H0 vs Q E hr h => ?_)
 ·obtain ⟨d, p, r, a, zs, ns, rfl, _⟩ := h
  rfl
 obtain ⟨d, p, r, a, zs, ns, rfl, D, hz, ha, z1, z10, n1, n10, bz, bn, q⟩ := h
 refine ⟨_, (@pss_cons _ _ _ _ _ (ps_set (i := 3) scSpo.nd rfl (Or.inl rfl) (pe_call GT hr rfl mT kT bT .nil pass0 (QA.h (qa_cons (QE.mk (pv 0)) (qa_cons (QE.mk (pe_callB call_len_seq rfl B.len PySem.boot_len (QA.h (qa_cons (QE.mk (pv 1)) qa_nil)))) qa_nil))))) (@pss_cons _ _ _ _ _ (ps_set (i := 4) scSpo.nd rfl (Or.inl rfl) (pe_call GT hr rfl mT kT bT .nil pass0 (QA.h (qa_cons (QE.mk (pv 0)) (qa_cons (QE.mk (pe_callB call_len_seq rfl B.len PySem.boot_len (QA.h (qa_cons (QE.mk (pv 1)) qa_nil)))) qa_nil))))) (@pss_cons _ _ _ _ _ (ps_set (i := 5) scSpo.nd rfl (Or.inl rfl) (pe_ix ix_list (pv 2) (pe_call GT hr rfl mT kT bT .nil pass0 (QA.h (qa_cons (QE.mk (pv 0)) (qa_cons (QE.mk (pe_callB call_len_seq rfl B.len PySem.boot_len (QA.h (qa_cons (QE.mk (pv 2)) qa_nil)))) qa_nil)))) (fun _ _ => rfl))) (@pss_cons _ _ _ _ _ (ps_set (i := 6) scSpo.nd rfl (Or.inl rfl) (QE.h (qe_lst (qa_cons (QE.mk (pv 5)) (qa_cons (qe_op op_add (QE.mk (pe_ix ix_list (pv 1) (pv 3) (fun _ _ => rfl))) (QE.mk pe_int)) (qa_cons (QE.mk (pe_un un_neg pe_int)) (qa_cons (QE.mk pe_bl) (qa_cons (QE.mk pe_bl) (qa_cons (QE.mk pe_non) (qa_cons (QE.mk pe_str) (qa_cons (qe_lst (qa_cons (QE.mk (pv 5)) qa_nil)) (qa_cons (qe_tup (qa_cons (QE.mk (pv 5)) qa_nil)) (qa_cons (qe_op op_pow (QE.mk pe_int) (QE.mk pe_int)) (qa_cons (QE.mk pe_dnewK) (qa_cons (QE.mk (pv 5)) qa_nil))))))))))))))) (@pss_cons _ _ _ _ _ (ps_set (i := 6) scSpo.nd rfl (Or.inl rfl) (pe_ix ix_list (pv 6) (pe_call GT hr rfl mT kT bT .nil pass0 (QA.h (qa_cons (QE.mk (pv 0)) (qa_cons (QE.mk pe_int) qa_nil)))) (fun _ _ => rfl))) (@pss_cons _ _ _ _ _ (ps_set (i := 7) scSpo.nd rfl (Or.inl rfl) (pe_callTy call_list_of rfl B.list PyProof.Rows.boot_list (QA.h (qa_cons (QE.mk (pv 1)) qa_nil)))) (@pss_cons _ _ _ _ _ (ps_asg (pe_ix ix_list (pv 1) (pv 4) (fun _ _ => rfl)) (pg_sub (pv 7) (pv 3) set_list)) (@pss_cons _ _ _ _ _ (ps_asg (pe_ix ix_list (pv 1) (pv 3) (fun _ _ => rfl)) (pg_sub (pv 7) (pv 4) set_list)) (@pss_cons _ _ _ _ _ (ps_set (i := 8) scSpo.nd rfl (Or.inl rfl) (pe_callB (call_min2 rfl) rfl B.min boot_min (QA.h (qa_cons (QE.mk (pv 3)) (qa_cons (QE.mk (pv 4)) qa_nil))))) (@pss_cons _ _ _ _ _ (ps_set (i := 9) scSpo.nd rfl (Or.inl rfl) (QE.h (qe_op op_add (QE.mk (pe_callB (call_max2 rfl) rfl B.max boot_max (QA.h (qa_cons (QE.mk (pv 3)) (qa_cons (QE.mk (pv 4)) qa_nil))))) (QE.mk pe_int)))) (@pss_cons _ _ _ _ _ (ps_set (i := 10) scSpo.nd rfl (Or.inl rfl) (pe_slice sl_list (pv 1) po_none (po_some (pv 3)))) (@pss_cons _ _ _ _ _ (ps_set (i := 11) scSpo.nd rfl (Or.inl rfl) (pe_slice sl_list (pv 1) (po_some (pe_op op_add (pv 3) pe_int)) po_none)) (@pss_cons _ _ _ _ _ (ps_set (i := 12) scSpo.nd rfl (Or.inl rfl) (QE.h (qe_lst (qa_cons (qe_op op_cat (qe_op op_cat (QE.mk (pv 10)) (qe_lst (qa_cons (QE.mk (pv 6)) qa_nil))) (QE.mk (pv 11))) (qa_cons (qe_op op_cat (QE.mk (pv 10)) (QE.mk (pv 11))) (qa_cons (qe_op op_cat (qe_op op_cat (QE.mk (pv 10)) (qe_lst (qa_cons (QE.mk (pv 6)) qa_nil))) (QE.mk (pe_slice sl_list (pv 1) (po_some (pv 3)) po_none))) qa_nil)))))) (@pss_cons _ _ _ _ _ (ps_expr (pe_bm PySem.F.plainAttrs_list PySem.F.slot_list_append PySem.F.type_list_append mt_append (pv 12) (QA.h (qa_cons (QE.mk (pv 7)) qa_nil)))) (@pss_cons _ _ _ _ _ (ps_expr (pe_bm PySem.F.plainAttrs_list PySem.F.slot_list_append PySem.F.type_list_append mt_append (pv 12) (QA.h (qa_cons (qe_op op_cat (qe_op op_cat (QE.mk (pe_slice sl_list (pv 1) po_none (po_some (pv 8)))) (QE.mk (pe_rev (pe_slice sl_list (pv 1) (po_some (pv 8)) (po_some (pv 9)))))) (QE.mk (pe_slice sl_list (pv 1) (po_some (pv 9)) po_none))) qa_nil)))) (@pss_cons _ _ _ _ _ (ps_expr (pe_bm PySem.F.plainAttrs_list PySem.F.slot_list_append PySem.F.type_list_append mt_append (pv 12) (QA.h (qa_cons (qe_op op_cat (QE.mk (pe_slice sl_list (pv 1) (po_some (pv 3)) po_none)) (QE.mk (pv 10))) qa_nil)))) (@pss_one _ _ _ (ps_ret (pe_op op_cat (pv 12) (pe_lst (QA.h (qa_cons (QE.mk (pe_callTy call_tuple_of rfl B.tuple PyProof.Rows.boot_tuple (QA.h (qa_cons (QE.mk (pv 1)) qa_nil)))) (qa_cons (qe_lst (qa_cons (QE.mk (pv 1)) qa_nil)) (qa_cons (QE.mk (pv 10)) (qa_cons (qe_op op_cat (QE.mk (pv 1)) (qe_lst (qa_cons (QE.mk (pv 5)) qa_nil))) (qa_cons (QE.mk pe_non) (qa_cons (QE.mk (pe_rev (pv 1))) qa_nil))))))))))))))))))))))))))), ?_⟩
 have L0 : Lv d p H0 H0 [] := Lv.start D
 have zml : (zs.map V.int).length = zs.length := List.length_map _
 have nml : (ns.map V.int).length = ns.length := List.length_map _
 have sl1 : ∀ {H' : Hp} {bs}, Lv d p H0 H' bs → SqL K H' r (zs.map V.int) := fun L => SqL.of (L.old hz)
 refine ⟨_, rfl, _, rfl, r, _, rfl, .inl (sl1 L0), d, p, _, rfl, L0.D, by rw [zml]; omega, ?_⟩
 intro at_ H1 at_0 at_1 D1 o1
 have L1 := L0.mv D1 (off_msk o1)
 rw [zml] at at_1
 refine ⟨_, rfl, _, rfl, r, _, rfl, .inl (sl1 L1), d, p, _, rfl, L1.D, by rw [zml]; omega, ?_⟩
 intro to_ H2 to_0 to_1 D2 o2
 have L2 := L1.mv D2 (off_msk o2)
 rw [zml] at to_1
 refine ⟨_, rfl, _, rfl, _, rfl, a, _, rfl, .inl (SqL.of (L2.old ha)), d, p, _, rfl, L2.D, by rw [nml]; omega, ?_⟩
 intro r2 H3 r20 r21 D3 o3
 have L3 := L2.mv D3 (off_msk o3)
 rw [nml] at r21
 obtain ⟨x, hat, hin⟩ := pick_int ns r20 r21
 obtain ⟨ra, hra, mra⟩ := pick_int zs at_0 at_1
 obtain ⟨rt, hrt, mrt⟩ := pick_int zs to_0 to_1
 refine ⟨a, _, r2, .int x, rfl, rfl, SqL.of (L3.old ha), hat, ?_⟩
 refine ⟨_, rfl, _, rfl, _, rfl, r, _, at_, .int ra, rfl, rfl, sl1 L3, hra, _, _, rfl, rfl, _, rfl, _, rfl, (by show 1 ≤ sizeLine; decide), ?_⟩
 intro q4 hq4
 have L4 := L3.new hq4 (.lst [.int x])
 generalize upd H3 q4 (.lst [.int x]) = H4 at L4 ⊢
 refine ⟨_, rfl, (by show 1 ≤ sizeLine; decide), ?_⟩
 intro q5 hq5
 have L5 := L4.new hq5 (.tup [.int x])
 generalize upd H4 q5 (.tup [.int x]) = H5 at L5 ⊢
 refine ⟨_, _, rfl, rfl, ⟨by decide, by decide, by decide⟩, ?_⟩
 intro q6 hq6
 have L6 := L5.new hq6 (.dK [])
 generalize upd H5 q6 (.dK []) = H6 at L6 ⊢
 refine ⟨_, rfl, (by show 12 ≤ sizeLine; decide), ?_⟩
 intro q7 hq7
 have L7 := L6.new hq7 (.lst [.int x, .int (ra + 1), .int (-1), .bl true, .bl false, .non, .str "1", .ref q4, .ref q5, .int ((10 : Int) ^ (25 : Int).toNat), .ref q6, .int x])
 generalize upd H6 q7 (.lst [.int x, .int (ra + 1), .int (-1), .bl true, .bl false, .non, .str "1", .ref q4, .ref q5, .int ((10 : Int) ^ (25 : Int).toNat), .ref q6, .int x]) = H7 at L7 ⊢
 refine ⟨_, rfl, _, rfl, d, p, _, rfl, L7.D, by decide, ?_⟩
 intro r3 H8 r30 r31 D8 o8
 have L8 := L7.mv D8 (off_msk o8)
 obtain ⟨odd, hod, hom⟩ := pick_any (xs := ([.int x, .int (ra + 1), .int (-1), .bl true, .bl false, .non, .str "1", .ref q4, .ref q5, .int ((10 : Int) ^ (25 : Int).toNat), .ref q6, .int x] : List V)) r30 r31
 refine ⟨q7, _, r3, odd, rfl, rfl, SqL.of (L8.at (by repeat (first | exact List.mem_cons_self | apply List.mem_cons_of_mem))), hod, ?_⟩
 clear L0 L1 L2 L3 L4 L5 L6 L7 D1 D2 D3 D8 o1 o2 o3 o8 hq4 hq5 hq6 hq7
 dsimp only [gName]
 refine st_eq (σ' := [some (.ref d), some (.ref r), some (.ref a), some (.int at_), some (.int to_), some (.int x), some odd, none, none, none, none, none, none]) rfl ?_
 refine ⟨_, rfl, r, _, rfl, .inl (sl1 L8), ?_⟩
 intro q8 hq8
 have L9 := L8.new hq8 (.lst (zs.map V.int))
 generalize upd H8 q8 (.lst (zs.map V.int)) = H9 at L9 ⊢
 refine ⟨_, rfl, _, rfl, r, _, to_, .int rt, rfl, rfl, sl1 L9, hrt, _, rfl, _, rfl, q8, _, at_, at_.toNat, rfl, rfl, L9.at (by repeat (first | exact List.mem_cons_self | apply List.mem_cons_of_mem)), ixN_lt at_0 (by rw [zml]; exact at_1), ?_⟩
 have L10 := L9.put (.lst ((zs.map V.int).set at_.toNat (.int rt)))
 have l10 : ((zs.map V.int).set at_.toNat (.int rt)).length = zs.length := by rw [List.length_set, zml]
 have m10 : ∀ y ∈ (zs.map V.int).set at_.toNat (.int rt), y ∈ zs.map V.int := fun y hy => (List.mem_or_eq_of_mem_set hy).elim id fun e => by rw [e]; exact List.mem_map_of_mem mrt
 generalize (zs.map V.int).set at_.toNat (.int rt) = o1 at L10 l10 m10 ⊢
 generalize upd H9 q8 (.lst o1) = H10 at L10 ⊢
 refine ⟨_, rfl, _, rfl, r, _, at_, .int ra, rfl, rfl, sl1 L10, hra, _, rfl, _, rfl, q8, _, to_, to_.toNat, rfl, rfl, L10.at (by repeat (first | exact List.mem_cons_self | apply List.mem_cons_of_mem)), ixN_lt to_0 (by rw [l10]; exact to_1), ?_⟩
 have L11 := L10.put (.lst (o1.set to_.toNat (.int ra)))
 have l11 : (o1.set to_.toNat (.int ra)).length = zs.length := by rw [List.length_set, l10]
 have m11 : ∀ y ∈ o1.set to_.toNat (.int ra), y ∈ zs.map V.int := fun y hy => (List.mem_or_eq_of_mem_set hy).elim (m10 y) fun e => by rw [e]; exact List.mem_map_of_mem mra
 generalize o1.set to_.toNat (.int ra) = oo at L11 l11 m11 ⊢
 generalize upd H10 q8 (.lst oo) = H11 at L11 ⊢
 clear L8 L9 L10 hq8 m10 l10
 refine ⟨_, rfl, _, rfl, _, _, rfl, ?_⟩
 refine ⟨_, rfl, _, rfl, _, _, rfl, _, _, rfl, rfl, ?_⟩
 generalize (if to_ < at_ then to_ else at_) = low
 generalize (if to_ > at_ then to_ else at_) = hi0
 have cl : ∀ lo hi, (cutV (zs.map V.int) lo hi).length ≤ 10 := fun lo hi => Nat.le_trans (cutV_length _ _ _) (by rw [zml]; exact z10)
 have k1 := cl none (some low)
 have k2 := cl (some low) (some (hi0 + 1))
 have k3 := cl (some (hi0 + 1)) none
 have k5 := cl none (some at_)
 have k6 := cl (some (at_ + 1)) none
 have k7 := cl (some at_) none
 generalize hc1 : cutV (zs.map V.int) none (some low) = c1 at k1
 generalize hc2 : cutV (zs.map V.int) (some low) (some (hi0 + 1)) = c2 at k2
 generalize hc3 : cutV (zs.map V.int) (some (hi0 + 1)) none = c3 at k3
 generalize hc5 : cutV (zs.map V.int) none (some at_) = c5 at k5
 generalize hc6 : cutV (zs.map V.int) (some (at_ + 1)) none = c6 at k6
 generalize hc7 : cutV (zs.map V.int) (some at_) none = c7 at k7
 refine ⟨_, rfl, _, rfl, _, rfl, r, _, rfl, sl1 L11, ?_⟩
 rw [hc5]
 intro qa hqa
 have L12 := L11.new hqa (.lst c5)
 generalize upd H11 qa (.lst c5) = H12 at L12 ⊢
 refine ⟨_, rfl, _, rfl, _, _, rfl, rfl, _, rfl, r, _, rfl, sl1 L12, ?_⟩
 rw [hc6]
 intro qb hqb
 have L13 := L12.new hqb (.lst c6)
 generalize upd H12 qb (.lst c6) = H13 at L13 ⊢
 dsimp only [gName]
 refine st_eq (σ' := [some (.ref d), some (.ref r), some (.ref a), some (.int at_), some (.int to_), some (.int x), some odd, some (.ref q8), some (.int low), some (.int (hi0 + 1)), some (.ref qa), some (.ref qb), none]) rfl ?_
 refine ⟨_, rfl, _, rfl, (by show 1 ≤ sizeLine; decide), ?_⟩
 intro q14 hq14
 have L14 := L13.new hq14 (.lst [odd])
 generalize upd H13 q14 (.lst [odd]) = H14 at L14 ⊢
 refine ⟨qa, q14, _, _, rfl, rfl, L14.at (by repeat (first | exact List.mem_cons_self | apply List.mem_cons_of_mem)), L14.at (by repeat (first | exact List.mem_cons_self | apply List.mem_cons_of_mem)), small (by show c5.length + 1 ≤ 1000; omega), ?_⟩
 intro q15 hq15
 have L15 := L14.new hq15 (.lst (c5 ++ [odd]))
 generalize upd H14 q15 (.lst (c5 ++ [odd])) = H15 at L15 ⊢
 refine ⟨_, rfl, q15, qb, _, _, rfl, rfl, L15.at (by repeat (first | exact List.mem_cons_self | apply List.mem_cons_of_mem)), L15.at (by repeat (first | exact List.mem_cons_self | apply List.mem_cons_of_mem)), small (by rw [List.length_append]; show c5.length + 1 + c6.length ≤ 1000; omega), ?_⟩
 intro q16 hq16
 have L16 := L15.new hq16 (.lst ((c5 ++ [odd]) ++ c6))
 generalize upd H15 q16 (.lst ((c5 ++ [odd]) ++ c6)) = H16 at L16 ⊢
 refine ⟨_, rfl, _, rfl, qa, qb, _, _, rfl, rfl, L16.at (by repeat (first | exact List.mem_cons_self | apply List.mem_cons_of_mem)), L16.at (by repeat (first | exact List.mem_cons_self | apply List.mem_cons_of_mem)), small (by omega), ?_⟩
 intro q17 hq17
 have L17 := L16.new hq17 (.lst (c5 ++ c6))
 generalize upd H16 q17 (.lst (c5 ++ c6)) = H17 at L17 ⊢
 refine ⟨_, rfl, _, rfl, (by show 1 ≤ sizeLine; decide), ?_⟩
 intro q18 hq18
 have L18 := L17.new hq18 (.lst [odd])
 generalize upd H17 q18 (.lst [odd]) = H18 at L18 ⊢
 refine ⟨qa, q18, _, _, rfl, rfl, L18.at (by repeat (first | exact List.mem_cons_self | apply List.mem_cons_of_mem)), L18.at (by repeat (first | exact List.mem_cons_self | apply List.mem_cons_of_mem)), small (by show c5.length + 1 ≤ 1000; omega), ?_⟩
 intro q19 hq19
 have L19 := L18.new hq19 (.lst (c5 ++ [odd]))
 generalize upd H18 q19 (.lst (c5 ++ [odd])) = H19 at L19 ⊢
 refine ⟨_, rfl, _, rfl, _, rfl, r, _, rfl, sl1 L19, ?_⟩
 rw [hc7]
 intro q20 hq20
 have L20 := L19.new hq20 (.lst c7)
 generalize upd H19 q20 (.lst c7) = H20 at L20 ⊢
 refine ⟨q19, q20, _, _, rfl, rfl, L20.at (by repeat (first | exact List.mem_cons_self | apply List.mem_cons_of_mem)), L20.at (by repeat (first | exact List.mem_cons_self | apply List.mem_cons_of_mem)), small (by rw [List.length_append]; show c5.length + 1 + c7.length ≤ 1000; omega), ?_⟩
 intro q21 hq21
 have L21 := L20.new hq21 (.lst ((c5 ++ [odd]) ++ c7))
 generalize upd H20 q21 (.lst ((c5 ++ [odd]) ++ c7)) = H21 at L21 ⊢
 refine ⟨(by show 3 ≤ sizeLine; decide), ?_⟩
 intro qs hqs
 have L22 := L21.new hqs (.lst [.ref q16, .ref q17, .ref q21])
 generalize upd H21 qs (.lst [.ref q16, .ref q17, .ref q21]) = H22 at L22 ⊢
 clear L11 L12 L13 L14 L15 L16 L17 L18 L19 L20 L21 hqa hqb hq14 hq15 hq16 hq17 hq18 hq19 hq20 hq21 hqs
 dsimp only [gName]
 refine st_eq (σ' := [some (.ref d), some (.ref r), some (.ref a), some (.int at_), some (.int to_), some (.int x), some odd, some (.ref q8), some (.int low), some (.int (hi0 + 1)), some (.ref qa), some (.ref qb), some (.ref qs)]) rfl ?_
 refine ⟨_, rfl, .inl ⟨rfl, _, SqL.of (L22.at (by repeat (first | exact List.mem_cons_self | apply List.mem_cons_of_mem)))⟩, _, rfl, qs, _, _, rfl, rfl, L22.at (by repeat (first | exact List.mem_cons_self | apply List.mem_cons_of_mem)), (by show 3 < sizeLine; decide), ?_⟩
 have L23 := L22.put (.lst ([.ref q16, .ref q17, .ref q21] ++ [.ref q8]))
 generalize upd H22 qs (.lst ([.ref q16, .ref q17, .ref q21] ++ [.ref q8])) = H23 at L23 ⊢
 refine ⟨_, rfl, .inl ⟨rfl, _, SqL.of (L23.at (by repeat (first | exact List.mem_cons_self | apply List.mem_cons_of_mem)))⟩, ?_⟩
 refine ⟨_, rfl, _, rfl, _, rfl, r, _, rfl, sl1 L23, ?_⟩
 rw [hc1]
 intro q24 hq24
 have L24 := L23.new hq24 (.lst c1)
 generalize upd H23 q24 (.lst c1) = H24 at L24 ⊢
 refine ⟨_, rfl, _, rfl, _, rfl, _, rfl, _, rfl, r, _, rfl, sl1 L24, ?_⟩
 rw [hc2]
 intro q25 hq25
 have L25 := L24.new hq25 (.lst c2)
 generalize upd H24 q25 (.lst c2) = H25 at L25 ⊢
 refine ⟨q25, _, rfl, SqL.of (L25.at (by repeat (first | exact List.mem_cons_self | apply List.mem_cons_of_mem))), ?_⟩
 intro q26 hq26
 have L26 := L25.new hq26 (.lst c2.reverse)
 generalize upd H25 q26 (.lst c2.reverse) = H26 at L26 ⊢
 refine ⟨q24, q26, _, _, rfl, rfl, L26.at (by repeat (first | exact List.mem_cons_self | apply List.mem_cons_of_mem)), L26.at (by repeat (first | exact List.mem_cons_self | apply List.mem_cons_of_mem)), small (by rw [List.length_reverse]; omega), ?_⟩
 intro q27 hq27
 have L27 := L26.new hq27 (.lst (c1 ++ c2.reverse))
 generalize upd H26 q27 (.lst (c1 ++ c2.reverse)) = H27 at L27 ⊢
 refine ⟨_, rfl, _, rfl, _, rfl, r, _, rfl, sl1 L27, ?_⟩
 rw [hc3]
 intro q28 hq28
 have L28 := L27.new hq28 (.lst c3)
 generalize upd H27 q28 (.lst c3) = H28 at L28 ⊢
 refine ⟨q27, q28, _, _, rfl, rfl, L28.at (by repeat (first | exact List.mem_cons_self | apply List.mem_cons_of_mem)), L28.at (by repeat (first | exact List.mem_cons_self | apply List.mem_cons_of_mem)), small (by rw [List.length_append, List.length_reverse]; omega), ?_⟩
 intro q29 hq29
 have L29 := L28.new hq29 (.lst ((c1 ++ c2.reverse) ++ c3))
 generalize upd H28 q29 (.lst ((c1 ++ c2.reverse) ++ c3)) = H29 at L29 ⊢
 clear L22 L23 L24 L25 L26 L27 L28 hq24 hq25 hq26 hq27 hq28 hq29
 refine ⟨qs, _, _, rfl, rfl, L29.at (by repeat (first | exact List.mem_cons_self | apply List.mem_cons_of_mem)), (by show 4 < sizeLine; decide), ?_⟩
 have L30 := (L29.perm (List.perm_middle (l₁ := [_, _, _, _, _, _])).symm).put (.lst (([.ref q16, .ref q17, .ref q21] ++ [.ref q8]) ++ [.ref q29]))
 generalize upd H29 qs (.lst (([.ref q16, .ref q17, .ref q21] ++ [.ref q8]) ++ [.ref q29])) = H30 at L30 ⊢
 clear L29
 refine ⟨_, rfl, .inl ⟨rfl, _, SqL.of (L30.at (by repeat (first | exact List.mem_cons_self | apply List.mem_cons_of_mem)))⟩, ?_⟩
 refine ⟨_, rfl, _, rfl, _, rfl, r, _, rfl, sl1 L30, ?_⟩
 rw [hc7]
 intro q31 hq31
 have L31 := L30.new hq31 (.lst c7)
 generalize upd H30 q31 (.lst c7) = H31 at L31 ⊢
 refine ⟨_, rfl, q31, qa, _, _, rfl, rfl, L31.at (by repeat (first | exact List.mem_cons_self | apply List.mem_cons_of_mem)), L31.at (by repeat (first | exact List.mem_cons_self | apply List.mem_cons_of_mem)), small (by omega), ?_⟩
 intro q32 hq32
 have L32 := L31.new hq32 (.lst (c7 ++ c5))
 generalize upd H31 q32 (.lst (c7 ++ c5)) = H32 at L32 ⊢
 refine ⟨qs, _, _, rfl, rfl, L32.at (by repeat (first | exact List.mem_cons_self | apply List.mem_cons_of_mem)), (by show 5 < sizeLine; decide), ?_⟩
 have L33 := (L32.perm (List.perm_middle (l₁ := [_, _])).symm).put (.lst ((([.ref q16, .ref q17, .ref q21] ++ [.ref q8]) ++ [.ref q29]) ++ [.ref q32]))
 generalize upd H32 qs (.lst ((([.ref q16, .ref q17, .ref q21] ++ [.ref q8]) ++ [.ref q29]) ++ [.ref q32])) = H33 at L33 ⊢
 clear L30 L31 L32 hq31 hq32
 refine ⟨_, rfl, _, rfl, r, _, rfl, .inl ⟨sl1 L33, ?_⟩⟩
 intro q34 hq34
 have L34 := L33.new hq34 (.tup (zs.map V.int))
 generalize upd H33 q34 (.tup (zs.map V.int)) = H34 at L34 ⊢
 refine ⟨_, rfl, (by show 1 ≤ sizeLine; decide), ?_⟩
 intro q35 hq35
 have L35 := L34.new hq35 (.lst [.ref r])
 generalize upd H34 q35 (.lst [.ref r]) = H35 at L35 ⊢
 refine ⟨_, rfl, _, rfl, _, rfl, (by show 1 ≤ sizeLine; decide), ?_⟩
 intro q36 hq36
 have L36 := L35.new hq36 (.lst [.int x])
 generalize upd H35 q36 (.lst [.int x]) = H36 at L36 ⊢
 refine ⟨r, q36, _, _, rfl, rfl, L36.old hz, L36.at (by repeat (first | exact List.mem_cons_self | apply List.mem_cons_of_mem)), small (by rw [zml]; show zs.length + 1 ≤ 1000; omega), ?_⟩
 intro q37 hq37
 have L37 := L36.new hq37 (.lst (zs.map V.int ++ [.int x]))
 generalize upd H36 q37 (.lst (zs.map V.int ++ [.int x])) = H37 at L37 ⊢
 refine ⟨_, rfl, r, _, rfl, sl1 L37, ?_⟩
 intro q38 hq38
 have L38 := L37.new hq38 (.lst (zs.map V.int).reverse)
 generalize upd H37 q38 (.lst (zs.map V.int).reverse) = H38 at L38 ⊢
 refine ⟨(by show 6 ≤ sizeLine; decide), ?_⟩
 intro q39 hq39
 have L39 := L38.new hq39 (.lst [.ref q34, .ref q35, .ref qa, .ref q37, .non, .ref q38])
 generalize upd H38 q39 (.lst [.ref q34, .ref q35, .ref qa, .ref q37, .non, .ref q38]) = H39 at L39 ⊢
 refine ⟨qs, q39, _, _, rfl, rfl, L39.at (by repeat (first | exact List.mem_cons_self | apply List.mem_cons_of_mem)), L39.at (by repeat (first | exact List.mem_cons_self | apply List.mem_cons_of_mem)), (by show 12 ≤ sizeLine; decide), ?_⟩
 intro q40 hq40
 have L40 := L39.new hq40 (.lst (((([.ref q16, .ref q17, .ref q21] ++ [.ref q8]) ++ [.ref q29]) ++ [.ref q32]) ++ [.ref q34, .ref q35, .ref qa, .ref q37, .non, .ref q38]))
 generalize upd H39 q40 (.lst (((([.ref q16, .ref q17, .ref q21] ++ [.ref q8]) ++ [.ref q29]) ++ [.ref q32]) ++ [.ref q34, .ref q35, .ref qa, .ref q37, .non, .ref q38])) = H40 at L40 ⊢
 clear L33 L34 L35 L36 L37 L38 L39
 refine q q40 _ H40 L40.D L40.G (L40.m (by repeat (first | exact List.mem_cons_self | apply List.mem_cons_of_mem))) rfl ?_
 have hn : ∀ (i : Int), 0 ≤ i → i < 10 ^ 29 → ∀ n k, Th (msk (S1 d) H40) (.int i) n k := fun i h0 h1 n k => Th.int (by omega)
 have hint : ∀ (n k : Nat) (y : V), y ∈ zs.map V.int → Th (msk (S1 d) H40) y n k := fun n k y hy => by
  obtain ⟨i, hi, e⟩ := List.mem_map.mp hy
  rw [← e]
  exact hn i (bz i hi).1 (bz i hi).2 n k
 have hcut : ∀ (lo hi : Option Int) (c : List V), cutV (zs.map V.int) lo hi = c → ∀ y ∈ c, Th (msk (S1 d) H40) y 40 2 := fun lo hi c e y hy => hint _ _ y (cut_mem (e ▸ hy))
 have t1 := hcut _ _ _ hc1
 have t2 := hcut _ _ _ hc2
 have t3 := hcut _ _ _ hc3
 have t5 := hcut _ _ _ hc5
 have t6 := hcut _ _ _ hc6
 have t7 := hcut _ _ _ hc7
 have bx := bn x hin
 have tx : ∀ n k, Th (msk (S1 d) H40) (.int x) n k := hn x bx.1 bx.2
 have todd : Th (msk (S1 d) H40) odd 40 2 := by
  have bra := bz ra mra
  simp only [List.mem_cons, List.not_mem_nil, or_false] at hom
  rcases hom with e | e | e | e | e | e | e | e | e | e | e | e <;> rw [e]
  ·exact tx _ _
  ·exact Th.int (by omega)
  ·exact Th.int (by decide)
  ·exact Th.bl _
  ·exact Th.bl _
  ·exact Th.non
  ·exact Th.str rfl (by decide)
  ·exact (Th.lst (n := 1) (k := 0) (L40.m (q := q4) (by repeat (first | exact List.mem_cons_self | apply List.mem_cons_of_mem))) fun y hy => by rw [List.mem_singleton.mp hy]; exact tx _ _).mono (by show 1 * 2 ≤ 40; decide) (by decide)
  ·exact (Th.tup (n := 1) (k := 0) (L40.m (q := q5) (by repeat (first | exact List.mem_cons_self | apply List.mem_cons_of_mem))) fun y hy => by rw [List.mem_singleton.mp hy]; exact tx _ _).mono (by show 1 * 2 ≤ 40; decide) (by decide)
  ·exact Th.int (by decide)
  ·exact (Th.dct (n := 1) (k := 0) (L40.m (q := q6) (by repeat (first | exact List.mem_cons_self | apply List.mem_cons_of_mem)))).mono (by decide) (by decide)
  ·exact tx _ _
 have t1odd : ∀ y ∈ [odd], Th (msk (S1 d) H40) y 40 2 := fun y hy => by rw [List.mem_singleton.mp hy]; exact todd
 have app : ∀ {us vs : List V}, (∀ y ∈ us, Th (msk (S1 d) H40) y 40 2) → (∀ y ∈ vs, Th (msk (S1 d) H40) y 40 2) → ∀ y ∈ us ++ vs, Th (msk (S1 d) H40) y 40 2 := fun h1 h2 y hy => (List.mem_append.mp hy).elim (h1 y) (h2 y)
 have tz : ∀ y ∈ zs.map V.int, Th (msk (S1 d) H40) y 40 2 := fun y hy => hint _ _ y hy
 have hz' := L40.G _ _ hz
 have trow : Th (msk (S1 d) H40) (.ref r) 40 2 := (Th.lst (n := 1) (k := 0) hz' fun y hy => hint _ _ y hy).mono (by rw [zml]; omega) (by decide)
 intro y hy
 have hy2 : y ∈ [V.ref q16, .ref q17, .ref q21, .ref q8, .ref q29, .ref q32, .ref q34, .ref q35, .ref qa, .ref q37, .non, .ref q38] := hy
 simp only [List.mem_cons, List.not_mem_nil, or_false] at hy2
 rcases hy2 with e | e | e | e | e | e | e | e | e | e | e | e <;> rw [e]
 ·exact its_lst (L40.m (q := q16) (by repeat (first | exact List.mem_cons_self | apply List.mem_cons_of_mem))) (by simp only [List.length_append, List.length_cons, List.length_nil]; omega) (app (app t5 t1odd) t6)
 ·exact its_lst (L40.m (q := q17) (by repeat (first | exact List.mem_cons_self | apply List.mem_cons_of_mem))) (by simp only [List.length_append]; omega) (app t5 t6)
 ·exact its_lst (L40.m (q := q21) (by repeat (first | exact List.mem_cons_self | apply List.mem_cons_of_mem))) (by simp only [List.length_append, List.length_cons, List.length_nil]; omega) (app (app t5 t1odd) t7)
 ·exact its_lst (L40.m (q := q8) (by repeat (first | exact List.mem_cons_self | apply List.mem_cons_of_mem))) (by omega) fun y hy => tz y (m11 y hy)
 ·exact its_lst (L40.m (q := q29) (by repeat (first | exact List.mem_cons_self | apply List.mem_cons_of_mem))) (by simp only [List.length_append, List.length_reverse]; omega) (app (app t1 fun y hy => t2 y (List.mem_reverse.mp hy)) t3)
 ·exact its_lst (L40.m (q := q32) (by repeat (first | exact List.mem_cons_self | apply List.mem_cons_of_mem))) (by simp only [List.length_append]; omega) (app t7 t5)
 ·refine its_of ((Th.tup (n := 1) (k := 0) (L40.m (q := q34) (by repeat (first | exact List.mem_cons_self | apply List.mem_cons_of_mem))) fun y hy => hint _ _ y hy).mono (by rw [zml]; omega) (by decide)) fun a' xs' e' h' => ?_
  cases e'
  rw [L40.m (q := q34) (by repeat (first | exact List.mem_cons_self | apply List.mem_cons_of_mem))] at h'
  cases h'
 ·exact its_lst (L40.m (q := q35) (by repeat (first | exact List.mem_cons_self | apply List.mem_cons_of_mem))) (by show 1 ≤ 40; decide) fun y hy => by rw [List.mem_singleton.mp hy]; exact trow
 ·exact its_lst (L40.m (q := qa) (by repeat (first | exact List.mem_cons_self | apply List.mem_cons_of_mem))) (by omega) t5
 ·exact its_lst (L40.m (q := q37) (by repeat (first | exact List.mem_cons_self | apply List.mem_cons_of_mem))) (by simp only [List.length_append, List.length_cons, List.length_nil, zml]; omega) (app tz fun y hy => by rw [List.mem_singleton.mp hy]; exact tx _ _)
 ·exact its_of Th.non fun a' xs' e' h' => by cases e'
 ·exact its_lst (L40.m (q := q38) (by repeat (first | exact List.mem_cons_self | apply List.mem_cons_of_mem))) (by rw [List.length_reverse, zml]; omega) fun y hy => tz y (List.mem_reverse.mp hy)
end
theorem intsL_map : ∀ zs : List Int, intsL (zs.map PyData.int) = some zs
 | [] => rfl
 | z :: r => by
  show (intsL (r.map PyData.int)).map (z :: ·) = _
  rw [intsL_map r]
  rfl
theorem rcv_numN {K : PySem.W.Frag} {H : Hp} {a b : Addr} {m : Int} (h1 : H a = some (.lst [.int m, .non])) (h2 : H b = some (.lst [.int m, .non])) : RcV K H (.ref a) (.ref b) true := by
 have q : RcV K H (.ref a) (.ref b) ((List.range [V.int m, V.non].length).all fun _ => true) := by
  refine RcV.lst (SqL.of h1) (SqL.of h2) rfl fun j x y hx hy => ?_
  match j, hx, hy with
  | 0, hx, hy =>
   cases hx
   cases hy
   have q := EqV.int (K := K) (H := H) (n := 4) m m
   rw [beq_self_eq_true] at q
   exact q
  | 1, hx, hy =>
   cases hx
   cases hy
   exact EqV.non
  | j + 2, hx, hy => cases hx
 rw [List.all_eq_true.mpr fun _ _ => rfl] at q
 exact q
section
variable {f XR XS : Addr} {xs : List Addr} {fd : FuncData}
theorem scLaw : FnScope ["script", "store", "turn", "plan", "many", "row", "k", "far", "number", "thing"] ["script"] (defScope sLaw) := ⟨rfl, rfl, rfl, by decide +kernel, rfl, by decide +kernel, by decide +kernel⟩
theorem ok_law {j : Nat} {ds mk cp al tk fr ca sp ri : Addr} {dsd mkd cpd ald tkd frd cad spd rid : FuncData} (F : Fun K "law" "law" sLaw f fd) (B : Bt3 mg)
  (GD : FnOk P w K mg base CX0 j ds dsd ["script", "many"] (spDs K)) (bD : Binds K dsd ["script", "many"] []) (kD : Kee K ds) (mD : mg "_law_draws" = some (.ref ds))
  (GM : FnOk P w K mg base CX0 j mk mkd ["store"] spSp) (bM : Binds K mkd ["store"] []) (kM : Kee K mk) (mM : mg "_law_plan" = some (.ref mk))
  (GP : FnOk P w K mg base CX0 j cp cpd ["plan"] spCopy) (bP : Binds K cpd ["plan"] []) (kP : Kee K cp) (mP : mg "_law_copy" = some (.ref cp))
  (GA : FnOk P w K mg base CX0 j al ald ["plan"] (spCount fun ns ss => cntW ns ss false)) (bA : Binds K ald ["plan"] []) (kA : Kee K al) (mA : mg "_law_all_ways" = some (.ref al))
  (GT : FnOk P w K mg base CX0 j tk tkd ["store", "many"] spTk) (bT : Binds K tkd ["store", "many"] []) (kT : Kee K tk) (mT : mg "_law_take" = some (.ref tk))
  (GF : FnOk P w K mg base CX0 j fr frd ["plan", "number"] spRb) (bF : Binds K frd ["plan", "number"] []) (kF : Kee K fr) (mF : mg "_law_by_number" = some (.ref fr))
  (GC : FnOk P w K mg base CX0 j ca cad ["plan", "thing"] (spCauR XR)) (bC : Binds K cad ["plan", "thing"] []) (kC : Kee K ca) (mC : mg "_law_caught" = some (.ref ca))
  (GS : FnOk P w K mg base CX0 j sp spd ["store", "row", "numbers"] spSpo) (bS : Binds K spd ["store", "row", "numbers"] []) (kS : Kee K sp) (mS : mg "_law_spoilt" = some (.ref sp))
  (GR : FnOk P w K mg base CX0 j ri rid ["plan", "thing"] spRight) (bR : Binds K rid ["plan", "thing"] []) (kR : Kee K ri) (mR : mg "_law_right" = some (.ref ri)) : FnOk P w K mg base CX0 (j + 1) f fd ["script"] (spLaw K) := by
 refine F.ok scLaw (fun vs H Q E h => ?_) (fun cdv A outer s H vs Q E hr h => ?_)
 ·obtain ⟨a, ns, rfl, _⟩ := h
  rfl
 obtain ⟨a0, ns0, rfl, hS, h63, q⟩ := h
 refine ⟨_, (@pss_cons _ _ _ _ _ (ps_set (i := 1) scLaw.nd rfl (Or.inl rfl) (pe_lst (pa_cons (pe_call GD hr rfl mD kD bD .nil pass0 (pa_cons (pv 0) (pa_cons pe_int pa_nil))) (pa_cons pe_int pa_nil)))) (@pss_cons _ _ _ _ _ (ps_for PassesOwn.never rfl (pi_range1 rfl B.range (pa_cons pe_int pa_nil)) (pg_name (i := 2) scLaw.nd rfl (Or.inl rfl)) (@pss_cons _ _ _ _ _ (ps_set (i := 3) scLaw.nd rfl (Or.inl rfl) (pe_call GM hr rfl mM kM bM .nil pass0 (pa_cons (pv 1) pa_nil))) (@pss_cons _ _ _ _ _ (ps_set (i := 4) scLaw.nd rfl (Or.inl rfl) (pe_call GA hr rfl mA kA bA .nil pass0 (pa_cons (pv 3) pa_nil))) (@pss_cons _ _ _ _ _ (ps_set (i := 5) scLaw.nd rfl (Or.inl rfl) (pe_callTy call_list_of rfl B.list PyProof.Rows.boot_list (pa_cons (pe_ix ix_tup (pv 3) pe_int (fun _ _ => rfl)) pa_nil))) (@pss_cons _ _ _ _ _ (ps_for PassesOwn.never rfl (pi_range1 rfl B.range (pa_cons (pe_op op_mul pe_int (pe_callTy call_int1 rfl B.int PyProof.Rows.boot_int (pa_cons (pe_cmpR op_gt (pv 4) pe_int (nomark _)) pa_nil))) pa_nil)) (pg_name (i := 6) scLaw.nd rfl (Or.inl rfl)) (@pss_cons _ _ _ _ _ (ps_set (i := 7) scLaw.nd rfl (Or.inl rfl) (pe_op op_add (pe_op op_mul (pe_call GT hr rfl mT kT bT .nil pass0 (pa_cons (pv 1) (pa_cons pe_int pa_nil))) pe_int) (pe_call GT hr rfl mT kT bT .nil pass0 (pa_cons (pv 1) (pa_cons pe_int pa_nil))))) (@pss_cons _ _ _ _ _ (ps_set (i := 8) scLaw.nd rfl (Or.inl rfl) (pe_ix ix_list (pe_lst (pa_cons pe_int (pa_cons (pe_op op_sub (pv 4) pe_int) (pa_cons (pe_op op_mod (pv 7) (pv 4)) pa_nil)))) (pv 6) (fun _ _ => rfl))) (@pss_cons _ _ _ _ _ (ps_set (i := 5) scLaw.nd rfl (Or.inl rfl) (pe_call GF hr rfl mF kF bF .nil pass0 (pa_cons (pv 3) (pa_cons (pv 8) pa_nil)))) (@pss_one _ _ _ (ps_if (pt_cmpR (op_neD hr.units) (pe_call GC hr rfl mC kC bC .nil pass0 (pa_cons (pe_call GP hr rfl mP kP bP .nil pass0 (pa_cons (pv 3) pa_nil)) (pa_cons (pe_callTy call_list_of rfl B.list PyProof.Rows.boot_list (pa_cons (pv 5) pa_nil)) pa_nil))) (pe_lst (pa_cons (pv 8) (pa_cons pe_non pa_nil))) (nomark _)) (@pss_one _ _ _ (ps_ret pe_bl)) pss_nil)))))) (@pss_one _ _ _ (ps_for PassesOwn.never rfl (pi_list (pe_op op_cat (pe_call GS hr rfl mS kS bS .nil pass0 (pa_cons (pv 1) (pa_cons (pv 5) (pa_cons (pe_ix ix_tup (pv 3) pe_int (fun _ _ => rfl)) pa_nil)))) (pe_lst (QA.h (qa_cons (qe_lst qa_nil) (qa_cons (QE.mk pe_dnewK) (qa_cons (QE.mk pe_str) (qa_cons (QE.mk pe_bl) (qa_cons (QE.mk pe_int) (qa_cons (qe_lst (qa_cons (QE.mk pe_non) qa_nil)) (qa_cons (QE.mk (pe_callTy call_list_of rfl B.list PyProof.Rows.boot_list (pa_cons (pe_ix ix_tup (pv 3) pe_int (fun _ _ => rfl)) pa_nil))) qa_nil))))))))))) (pg_name (i := 9) scLaw.nd rfl (Or.inl rfl)) (@pss_one _ _ _ (ps_if (pt_not (pt_val (pe_call GR hr rfl mR kR bR .nil pass0 (pa_cons (pv 3) (pa_cons (pv 9) pa_nil))))) (@pss_one _ _ _ (ps_ret pe_bl)) pss_nil))))))))) (@pss_one _ _ _ (ps_ret pe_bl)))), ?_⟩
 refine ⟨_, rfl, a0, ns0, rfl, hS, h63, fun p xs H1 g1 hp e1 x0 x1000 xn => ⟨two_le, fun d hd => ?_⟩⟩
 have s2 := Same.new hd (.lst [.ref p, .int 0])
 have S2 : Sto (upd H1 d (.lst [.ref p, .int 0])) d p := ⟨⟨0, upd_same⟩, ⟨xs, s2 _ _ e1, x0, x1000, xn⟩⟩
 generalize upd H1 d (.lst [.ref p, .int 0]) = H2 at s2 S2 ⊢
 refine ⟨_, rfl, by decide, by decide, ?_⟩
 refine for_range (lo := 0) (n := (4 : Int).toNat) (fun i σ H' => ∃ (y2 y3 y4 y5 y6 y7 y8 y9 : Option V), σ = [some (.ref a0), some (.ref d), y2, y3, y4, y5, y6, y7, y8, y9] ∧ Sto H' d p) ⟨_, _, _, _, _, _, _, _, rfl, S2⟩ ?_ ?_
 ·rintro i σ H3 hi ⟨y2, y3, y4, y5, y6, y7, y8, y9, rfl, S3⟩
  refine ⟨_, rfl, d, p, rfl, S3, fun t a b ns ss H4 S4 E4 nt na nb nab et ea eb ok lt95 lt96 => ?_⟩
  have pl4 : IsPl H4 t a b ns ss := ⟨et, ea, eb, ok⟩
  have ot : t ≠ d := S3.out nt
  have oa : a ≠ d := S3.out na
  have ob : b ≠ d := S3.out nb
  have n1 := ok.n1
  have n10 := ok.n2
  have bn : ∀ x ∈ ns, 0 ≤ x ∧ x < 10 ^ 29 := fun x hx => ⟨(ok.n.bd x hx), Int.lt_trans (lt95 x hx) (by decide)⟩
  refine ⟨_, rfl, t, a, b, ns, ss, rfl, pl4, fun H6 g6 => ?_⟩
  have pl6 := pl4.same g6
  have S6 := S4.ex g6
  refine ⟨_, rfl, t, _, 0, _, rfl, rfl, SqT.of pl6.t, rfl, a, _, rfl, .inl (SqL.of pl6.a), fun ro hro => ?_⟩
  have g7 := Same.new hro (.lst (ns.map V.int))
  have oro : ro ≠ d := S6.out hro
  have ero : upd H6 ro (.lst (ns.map V.int)) ro = some (.lst (ns.map V.int)) := upd_same
  have pl7 := pl6.same g7
  have S7 := S6.ex g7
  generalize upd H6 ro (.lst (ns.map V.int)) = H7 at g7 ero pl7 S7 ⊢
  have mv : ∀ {G G' : Hp} {t a b : Addr}, t ≠ d → a ≠ d → b ≠ d → IsPl G t a b ns ss → OffD d G G' → IsPl G' t a b ns ss := fun h1 h2 h3 pl o => ⟨(o _ h1).trans pl.t, (o _ h2).trans pl.a, (o _ h3).trans pl.b, pl.ok⟩
  obtain ⟨nn, enn⟩ : ∃ nn : Int, nn = 3 * (if decide (((cntW ns ss false : Nat) : Int) > 0) = true then 1 else 0) := ⟨_, rfl⟩
  have hnn : 0 ≤ nn ∧ nn ≤ 3 ∧ (0 < nn → nn = 3 ∧ 0 < cntW ns ss false) := by
   by_cases hc : ((cntW ns ss false : Nat) : Int) > 0
   ·rw [if_pos (decide_eq_true hc)] at enn
    exact ⟨by omega, by omega, fun _ => ⟨by omega, by omega⟩⟩
   ·rw [if_neg (by rw [decide_eq_false hc]; exact Bool.false_ne_true)] at enn
    exact ⟨by omega, by omega, fun z => by omega⟩
  refine ⟨_, rfl, _, _, rfl, rfl, .inr ⟨_, rfl, _, _, rfl, rfl, .inl ⟨by decide, by decide⟩, ?_⟩⟩
  refine ⟨nn, congrArg (fun x => [V.int x]) enn.symm, by omega, by omega, ?_⟩
  refine for_range (lo := 0) (n := nn.toNat) (fun j σ H' => ∃ (ro : Addr) (zs : List Int) (z6 z7 z8 : Option V), σ = [some (.ref a0), some (.ref d), some (.int (0 + (i : Int))), some (.ref t), some (.int (cntW ns ss false : Nat)), some (.ref ro), z6, z7, z8, y9] ∧ Sto H' d p ∧ IsPl H' t a b ns ss ∧ ro ≠ d ∧ H' ro = some (.lst (zs.map V.int)) ∧ zs.Perm ns) ⟨ro, ns, _, _, _, rfl, S7, pl7, oro, ero, List.Perm.refl _⟩ ?_ ?_
  ·rintro j σ H7 hj ⟨ro, zs0, z6, z7, z8, rfl, S7, pl7, _, _, _⟩
   obtain ⟨n4, hm⟩ := hnn.2.2 (by omega)
   refine ⟨_, rfl, d, p, 10007, rfl, S7, by decide, fun r1 H8 r10 r11 S8 o8 => ⟨_, _, rfl, rfl, .inl ⟨by omega, by omega⟩, _, rfl, d, p, 10007, rfl, S8, by decide, fun r2 H9 r20 r21 S9 o9 => ⟨_, _, rfl, rfl, ?_⟩⟩⟩
   have pl9 := mv ot oa ob (mv ot oa ob pl7 o8) o9
   obtain ⟨far, efar⟩ : ∃ far : Int, far = r1 * 10007 + r2 := ⟨_, rfl⟩
   have hfar : 0 ≤ far := by rw [efar]; have := Int.mul_nonneg r10 (show (0 : Int) ≤ 10007 by decide); omega
   dsimp only
   rw [← efar]
   refine ⟨_, rfl, _, _, rfl, rfl, _, rfl, _, rfl, _, _, rfl, rfl, (by omega), (by show 3 ≤ sizeLine; decide), fun ls hls => ?_⟩
   obtain ⟨c, ec⟩ : ∃ c : Int, c = ((cntW ns ss false : Nat) : Int) := ⟨_, rfl⟩
   rw [← ec]
   obtain ⟨v, hv, mv'⟩ := pick_int [0, c - 1, far % c] (r := 0 + (j : Int)) (by omega) (by show 0 + (j : Int) < 3; omega)
   refine ⟨_, rfl, ls, _, _, _, rfl, rfl, SqL.of upd_same, hv, ?_⟩
   have hv0 : 0 ≤ v ∧ v < c := by
    have m1 := Int.emod_nonneg far (show c ≠ 0 by omega)
    have m2 := Int.emod_lt_of_pos far (show 0 < c by omega)
    simp only [List.mem_cons, List.not_mem_nil, or_false] at mv'
    omega
   obtain ⟨num, enum⟩ : ∃ num : Nat, v = (num : Int) := ⟨v.toNat, by omega⟩
   subst enum
   have hnum : num < cntW ns ss false := by omega
   refine ⟨_, rfl, _, rfl, t, a, b, ns, ss, num, rfl, pl9.same (Same.new hls _), hnum, fun du H11 g11 ndu edu => ?_⟩
   have S11 : Sto H11 d p := (S9.ex (Same.new hls _)).ex g11
   have odu : du ≠ d := (S9.ex (Same.new hls _)).out ndu
   obtain ⟨rw1, rw2⟩ := rowN_row ok hnum
   obtain ⟨zs, ezs⟩ : ∃ zs, zs = rowN ns ss num := ⟨_, rfl⟩
   rw [← ezs] at edu rw1 rw2
   have zp : zs.Perm ns := List.isPerm_iff.mp (Bool.and_eq_true_iff.mp rw1).1
   have zl := zp.length_eq
   have zml : (zs.map V.int).length = zs.length := List.length_map _
   have pl11 : IsPl H11 t a b ns ss := (pl9.same (Same.new hls _)).same g11
   refine ⟨_, rfl, t, a, b, ns, ss, rfl, pl11, fun t' a' b' H12 g12 nt' na' nb' _ pl12' => ⟨_, rfl, du, _, rfl, .inl (SqL.of (g12 _ _ edu)), fun lr hlr => ?_⟩⟩
   have g13 := Same.new hlr (.lst (zs.map V.int))
   have e13 : upd H12 lr (.lst (zs.map V.int)) lr = some (.lst (zs.map V.int)) := upd_same
   generalize upd H12 lr (.lst (zs.map V.int)) = H13 at g13 e13 ⊢
   have rd : rowD ns ss (.list (zs.map PyData.int)) = true := by
    show (match intsL (zs.map PyData.int) with | some zs => rowB ns ss zs | none => false) = true
    rw [intsL_map]
    exact rw1
   have nd : numD ns ss (.list (zs.map PyData.int)) = num := by
    show (match intsL (zs.map PyData.int) with | some zs => numW ns ss zs | none => 0) = num
    rw [intsL_map]
    exact rw2
   refine ⟨t', a', b', ns, ss, .ref lr, .list (zs.map PyData.int), rfl, pl12'.same g13, .lst e13 (DatAll.ints zs), by show (zs.map PyData.int).length < 64; rw [List.length_map]; omega, fun _ l H14 g14 hl el => ?_, fun c => absurd c (by rw [rd]; decide)⟩
   rw [nd] at el
   refine ⟨_, rfl, two_le, fun l2 hl2 => ?_⟩
   have g15 := Same.new hl2 (.lst [.int (num : Nat), .non])
   have e15 : upd H14 l2 (.lst [.int (num : Nat), .non]) l2 = some (.lst [.int (num : Nat), .non]) := upd_same
   generalize upd H14 l2 (.lst [.int (num : Nat), .non]) = H15 at g15 e15 ⊢
   have gg := g12.trans (g13.trans (g14.trans g15))
   refine ⟨true, rcv_numN (g15 _ _ el) e15, _, rfl, iteF ?_⟩
   rw [ec]
   exact ⟨du, zs, _, _, _, rfl, S11.ex gg, pl11.same gg, odu, gg _ _ edu, zp⟩
  ·rintro σ H7 ⟨ro, zs, z6, z7, z8, rfl, S7, pl7, oro, ero, zp⟩
   have zl := zp.length_eq
   have mk1 : ∀ {G : Hp} {c : Addr} {o : HO}, c ≠ d → G c = some o → msk (S1 d) G c = some o := fun h e => by rw [msk_in (S := S1 d) h]; exact e
   refine ⟨_, rfl, _, rfl, _, rfl, t, _, 0, _, rfl, rfl, SqT.of pl7.t, rfl, d, p, ro, a, zs, ns, rfl, S7, mk1 oro ero, mk1 oa pl7.a, by omega, by omega, n1, n10, fun x hx => bn x (zp.mem_iff.mp hx), bn, fun l ys H8 S8 g8 el8 l12 its => ?_⟩
   have pl8 : IsPl H8 t a b ns ss := ⟨msk_le _ _ (g8 _ _ (mk1 ot pl7.t)), msk_le _ _ (g8 _ _ (mk1 oa pl7.a)), msk_le _ _ (g8 _ _ (mk1 ob pl7.b)), ok⟩
   have el8 := msk_le _ _ el8
   have its : ∀ x ∈ ys, ItS H8 x := fun x hx => (its x hx).same msk_le
   refine ⟨(by show 0 ≤ sizeLine; decide), fun w1 hw1 => ?_⟩
   have g9 := Same.new hw1 (.lst [])
   have e9 : upd H8 w1 (.lst []) w1 = some (.lst []) := upd_same
   generalize upd H8 w1 (.lst []) = H9 at g9 e9 ⊢
   refine fun w2 hw2 => ?_
   have g10 := Same.new hw2 (.dK [])
   have e10 : upd H9 w2 (.dK []) w2 = some (.dK []) := upd_same
   generalize upd H9 w2 (.dK []) = H10 at g10 e10 ⊢
   refine ⟨(by show 1 ≤ sizeLine; decide), fun w3 hw3 => ?_⟩
   have g11 := Same.new hw3 (.lst [.non])
   have e11 : upd H10 w3 (.lst [.non]) w3 = some (.lst [.non]) := upd_same
   generalize upd H10 w3 (.lst [.non]) = H11 at g11 e11 ⊢
   have pl11 := ((pl8.same g9).same g10).same g11
   refine ⟨_, rfl, t, _, 0, _, rfl, rfl, SqT.of pl11.t, rfl, a, _, rfl, .inl (SqL.of pl11.a), fun w4 hw4 => ?_⟩
   have g12 := Same.new hw4 (.lst (ns.map V.int))
   have e12 : upd H11 w4 (.lst (ns.map V.int)) w4 = some (.lst (ns.map V.int)) := upd_same
   generalize upd H11 w4 (.lst (ns.map V.int)) = H12 at g12 e12 ⊢
   refine ⟨(by show 7 ≤ sizeLine; decide), fun w5 hw5 => ?_⟩
   have g13 := Same.new hw5 (.lst [.ref w1, .ref w2, .str "", .bl true, .int 0, .ref w3, .ref w4])
   have e13 : upd H12 w5 (.lst [.ref w1, .ref w2, .str "", .bl true, .int 0, .ref w3, .ref w4]) w5 = some (.lst [.ref w1, .ref w2, .str "", .bl true, .int 0, .ref w3, .ref w4]) := upd_same
   generalize upd H12 w5 (.lst [.ref w1, .ref w2, .str "", .bl true, .int 0, .ref w3, .ref w4]) = H13 at g13 e13 ⊢
   have g8d := g9.trans (g10.trans (g11.trans (g12.trans g13)))
   refine ⟨l, w5, _, _, rfl, rfl, g8d _ _ el8, e13, small (by rw [l12]; show 12 + 7 ≤ 1000; decide), fun w6 hw6 => ?_⟩
   obtain ⟨vs, evs⟩ : ∃ vs : List V, vs = ys ++ [.ref w1, .ref w2, .str "", .bl true, .int 0, .ref w3, .ref w4] := ⟨_, rfl⟩
   rw [← evs]
   have g14 := Same.new hw6 (.lst vs)
   have e14 : upd H13 w6 (.lst vs) w6 = some (.lst vs) := upd_same
   generalize upd H13 w6 (.lst vs) = H14 at g14 e14 ⊢
   have g9d := g10.trans (g11.trans (g12.trans (g13.trans g14)))
   have tn : ∀ y ∈ ns.map V.int, Th H14 y 40 2 := fun y hy => by
    obtain ⟨x, hx, rfl⟩ := List.mem_map.mp hy
    have := bn x hx
    exact Th.int (by omega)
   have itv : ∀ x ∈ vs, ItS H14 x := fun x hx => by
    rw [evs] at hx
    rcases List.mem_append.mp hx with h | h
    ·exact (its x h).same (g8d.trans g14)
    ·simp only [List.mem_cons, List.not_mem_nil, or_false] at h
     rcases h with e | e | e | e | e | e | e <;> rw [e]
     ·exact its_lst (g9d _ _ e9) (by decide) (fun _ h => nomatch h)
     ·refine its_of ((Th.dct (n := 1) (k := 0) ((g11.trans (g12.trans (g13.trans g14))) _ _ e10)).mono (by decide) (by decide)) fun a' xs' e' h' => ?_
      cases e'
      rw [(g11.trans (g12.trans (g13.trans g14))) _ _ e10] at h'
      cases h'
     ·exact its_of (Th.str rfl (by decide)) fun a' xs' e' h' => by cases e'
     ·exact its_of (Th.bl _) fun a' xs' e' h' => by cases e'
     ·exact its_of (Th.int (by decide)) fun a' xs' e' h' => by cases e'
     ·exact its_lst ((g12.trans (g13.trans g14)) _ _ e11) (by decide) fun y hy => by rw [List.mem_singleton.mp hy]; exact Th.non
     ·exact its_lst ((g13.trans g14) _ _ e12) (by rw [List.length_map]; omega) tn
   have pl14 := pl8.same (g8d.trans g14)
   have S14 := S8.ex (g8d.trans g14)
   clear evs
   refine ⟨w6, rfl, ⟨_, SqL.of e14⟩, ?_⟩
   refine for_list (K := K) (xs := vs) (fun k σ H' => ∃ (z9 : Option V), σ = [some (.ref a0), some (.ref d), some (.int (0 + (i : Int))), some (.ref t), some (.int (cntW ns ss false : Nat)), some (.ref ro), z6, z7, z8, z9] ∧ Same H14 H') ⟨_, rfl, Same.rfl'⟩ (fun k σ H' _ ⟨_, _, g⟩ => SqL.of (g _ _ e14)) ?_ ?_
   ·rintro k x σ H' hx ⟨z9, rfl, g⟩
    obtain ⟨dx, hdx, fx, sx⟩ := (itv x (List.mem_of_getElem? hx)).same g
    exact ⟨_, rfl, _, rfl, t, a, b, ns, ss, x, dx, rfl, pl14.same g, hdx, fx, sx, fun H'' g'' => ⟨_, rfl, iteF ⟨_, rfl, g.trans g''⟩⟩⟩
   ·rintro σ H' ⟨z9, rfl, g⟩
    exact ⟨_, _, _, _, _, _, _, _, rfl, S14.ex g⟩
 ·rintro σ H3 ⟨y2, y3, y4, y5, y6, y7, y8, y9, rfl, S3⟩
  exact q _
end
theorem all_mk {l : PySem.W.OpenLaw} {w : World} {K : PySem.W.Frag} {h : Heap} {mg : Str → Option Value} {fa f1 f2 f3 f4 f5 f6 f7 f8 f9 f10 f11 f12 f13 f14 f15 f16 f17 f18 f19 f20 f21 f22 f23 f24 f25 f26 f27 f28 f29 f30 f31 f32 f33 f34 f35  x0 x1 x2 x3 x4 x5 x6 x7 x8 x9 x10 x11 XS C1 B1 : Addr} (X : K.In h) (G : h.Ns mainGlobals mg) (hfa : mg "law" = some (.ref fa))
  {od1 an1 od2 an2 od3 an3 od4 an4 od5 an5 od6 an6 od7 an7 od8 an8 od9 an9 od10 an10 od11 an11 od12 an12 od13 an13 od14 an14 od15 an15 od16 an16 od17 an17 od18 an18 od19 an19 od20 an20 od21 an21 od22 an22 od23 an23 od24 an24 od25 an25 od26 an26 od27 an27 od28 an28 od29 an29 od30 an30 od31 an31 od32 an32 od33 an33 od34 an34 od35 an35 : Option Addr} {sl1 sl2 sl3 sl4 sl5 sl6 sl7 sl8 sl9 sl10 sl11 sl12 sl13 sl14 sl15 sl16 sl17 sl18 sl19 sl20 sl21 sl22 sl23 sl24 sl25 sl26 sl27 sl28 sl29 sl30 sl31 sl32 sl33 sl34 sl35 : Array (Option Value)} {oc1 kV1 dc1 pm1 cd1 ct1 oc2 kV2 dc2 pm2 cd2 ct2 oc3 kV3 dc3 pm3 cd3 ct3 oc4 kV4 dc4 pm4 cd4 ct4 oc5 kV5 dc5 pm5 cd5 ct5 oc6 kV6 dc6 pm6 cd6 ct6 oc7 kV7 dc7 pm7 cd7 ct7 oc8 kV8 dc8 pm8 cd8 ct8 oc9 kV9 dc9 pm9 cd9 ct9 oc10 kV10 dc10 pm10 cd10 ct10 oc11 kV11 dc11 pm11 cd11 ct11 oc12 kV12 dc12 pm12 cd12 ct12 oc13 kV13 dc13 pm13 cd13 ct13 oc14 kV14 dc14 pm14 cd14 ct14 oc15 kV15 dc15 pm15 cd15 ct15 oc16 kV16 dc16 pm16 cd16 ct16 oc17 kV17 dc17 pm17 cd17 ct17 oc18 kV18 dc18 pm18 cd18 ct18 oc19 kV19 dc19 pm19 cd19 ct19 oc20 kV20 dc20 pm20 cd20 ct20 oc21 kV21 dc21 pm21 cd21 ct21 oc22 kV22 dc22 pm22 cd22 ct22 oc23 kV23 dc23 pm23 cd23 ct23 oc24 kV24 dc24 pm24 cd24 ct24 oc25 kV25 dc25 pm25 cd25 ct25 oc26 kV26 dc26 pm26 cd26 ct26 oc27 kV27 dc27 pm27 cd27 ct27 oc28 kV28 dc28 pm28 cd28 ct28 oc29 kV29 dc29 pm29 cd29 ct29 oc30 kV30 dc30 pm30 cd30 ct30 oc31 kV31 dc31 pm31 cd31 ct31 oc32 kV32 dc32 pm32 cd32 ct32 oc33 kV33 dc33 pm33 cd33 ct33 oc34 kV34 dc34 pm34 cd34 ct34 oc35 kV35 dc35 pm35 cd35 ct35 mc1 : Value}
  {t1 : Tok}
  (a1 : PySem.W.nsIn K mainGlobals "is_whole" = some (some (.ref f1))) (l1 : K.lookup f1 = some ⟨oc1, od1, .func (PySem.W.fnOf "is_whole" "is_whole" (defArgs sWhole) (defBody sWhole) (defScope sWhole) .none kV1 dc1 pm1 an1 cd1 ct1), sl1⟩) (c1 : PySem.W.codeIn K cd1 "is_whole" = true) (k1 : PySem.W.keepIn K (.ref f1) = true)
  (a2 : PySem.W.nsIn K mainGlobals "is_list_of_wholes" = some (some (.ref f2))) (l2 : K.lookup f2 = some ⟨oc2, od2, .func (PySem.W.fnOf "is_list_of_wholes" "is_list_of_wholes" (defArgs sLw) (defBody sLw) (defScope sLw) .none kV2 dc2 pm2 an2 cd2 ct2), sl2⟩) (c2 : PySem.W.codeIn K cd2 "is_list_of_wholes" = true) (k2 : PySem.W.keepIn K (.ref f2) = true)
  (a3 : PySem.W.nsIn K mainGlobals "is_rising_list" = some (some (.ref f3))) (l3 : K.lookup f3 = some ⟨oc3, od3, .func (PySem.W.fnOf "is_rising_list" "is_rising_list" (defArgs sRise) (defBody sRise) (defScope sRise) .none kV3 dc3 pm3 an3 cd3 ct3), sl3⟩) (c3 : PySem.W.codeIn K cd3 "is_rising_list" = true) (k3 : PySem.W.keepIn K (.ref f3) = true)
  (a4 : PySem.W.nsIn K mainGlobals "is_plan" = some (some (.ref f4))) (l4 : K.lookup f4 = some ⟨oc4, od4, .func (PySem.W.fnOf "is_plan" "is_plan" (defArgs sIsP) (defBody sIsP) (defScope sIsP) .none kV4 dc4 pm4 an4 cd4 ct4), sl4⟩) (c4 : PySem.W.codeIn K cd4 "is_plan" = true) (k4 : PySem.W.keepIn K (.ref f4) = true)
  (a5 : PySem.W.nsIn K mainGlobals "check_plan" = some (some (.ref f5))) (l5 : K.lookup f5 = some ⟨oc5, od5, .func (PySem.W.fnOf "check_plan" "check_plan" (defArgs sCkP) (defBody sCkP) (defScope sCkP) .none kV5 dc5 pm5 an5 cd5 ct5), sl5⟩) (c5 : PySem.W.codeIn K cd5 "check_plan" = true) (k5 : PySem.W.keepIn K (.ref f5) = true)
  (a6 : PySem.W.nsIn K mainGlobals "add_up" = some (some (.ref f6))) (l6 : K.lookup f6 = some ⟨oc6, od6, .func (PySem.W.fnOf "add_up" "add_up" (defArgs sAdd) (defBody sAdd) (defScope sAdd) .none kV6 dc6 pm6 an6 cd6 ct6), sl6⟩) (c6 : PySem.W.codeIn K cd6 "add_up" = true) (k6 : PySem.W.keepIn K (.ref f6) = true)
  (a7 : PySem.W.nsIn K mainGlobals "all_places" = some (some (.ref f7))) (l7 : K.lookup f7 = some ⟨oc7, od7, .func (PySem.W.fnOf "all_places" "all_places" (defArgs sAllP) (defBody sAllP) (defScope sAllP) .none kV7 dc7 pm7 an7 cd7 ct7), sl7⟩) (c7 : PySem.W.codeIn K cd7 "all_places" = true) (k7 : PySem.W.keepIn K (.ref f7) = true)
  (a8 : PySem.W.nsIn K mainGlobals "near_places" = some (some (.ref f8))) (l8 : K.lookup f8 = some ⟨oc8, od8, .func (PySem.W.fnOf "near_places" "near_places" (defArgs sNear) (defBody sNear) (defScope sNear) .none kV8 dc8 pm8 an8 cd8 ct8), sl8⟩) (c8 : PySem.W.codeIn K cd8 "near_places" = true) (k8 : PySem.W.keepIn K (.ref f8) = true)
  (a9 : PySem.W.nsIn K mainGlobals "are_neighbours" = some (some (.ref f9))) (l9 : K.lookup f9 = some ⟨oc9, od9, .func (PySem.W.fnOf "are_neighbours" "are_neighbours" (defArgs sNb) (defBody sNb) (defScope sNb) .none kV9 dc9 pm9 an9 cd9 ct9), sl9⟩) (c9 : PySem.W.codeIn K cd9 "are_neighbours" = true) (k9 : PySem.W.keepIn K (.ref f9) = true)
  (a10 : PySem.W.nsIn K mainGlobals "holds_all" = some (some (.ref f10))) (l10 : K.lookup f10 = some ⟨oc10, od10, .func (PySem.W.fnOf "holds_all" "holds_all" (defArgs sHo) (defBody sHo) (defScope sHo) .none kV10 dc10 pm10 an10 cd10 ct10), sl10⟩) (c10 : PySem.W.codeIn K cd10 "holds_all" = true) (k10 : PySem.W.keepIn K (.ref f10) = true)
  (a11 : PySem.W.nsIn K mainGlobals "is_row" = some (some (.ref f11))) (l11 : K.lookup f11 = some ⟨oc11, od11, .func (PySem.W.fnOf "is_row" "is_row" (defArgs sIsR) (defBody sIsR) (defScope sIsR) .none kV11 dc11 pm11 an11 cd11 ct11), sl11⟩) (c11 : PySem.W.codeIn K cd11 "is_row" = true) (k11 : PySem.W.keepIn K (.ref f11) = true)
  (a12 : PySem.W.nsIn K mainGlobals "tally_of_rows" = some (some (.ref f12))) (l12 : K.lookup f12 = some ⟨oc12, od12, .func (PySem.W.fnOf "tally_of_rows" "tally_of_rows" (defArgs sTr) (defBody sTr) (defScope sTr) .none kV12 dc12 pm12 an12 cd12 ct12), sl12⟩) (c12 : PySem.W.codeIn K cd12 "tally_of_rows" = true) (k12 : PySem.W.keepIn K (.ref f12) = true)
  (a13 : PySem.W.nsIn K mainGlobals "number_of" = some (some (.ref f13))) (l13 : K.lookup f13 = some ⟨oc13, od13, .func (PySem.W.fnOf "number_of" "number_of" (defArgs sNo) (defBody sNo) (defScope sNo) .none kV13 dc13 pm13 an13 cd13 ct13), sl13⟩) (c13 : PySem.W.codeIn K cd13 "number_of" = true) (k13 : PySem.W.keepIn K (.ref f13) = true)
  (a14 : PySem.W.nsIn K mainGlobals "_law_draws" = some (some (.ref f14))) (l14 : K.lookup f14 = some ⟨oc14, od14, .func (PySem.W.fnOf "_law_draws" "_law_draws" (defArgs sDs) (defBody sDs) (defScope sDs) .none kV14 dc14 pm14 an14 cd14 ct14), sl14⟩) (c14 : PySem.W.codeIn K cd14 "_law_draws" = true) (k14 : PySem.W.keepIn K (.ref f14) = true)
  (a15 : PySem.W.nsIn K mainGlobals "_law_take" = some (some (.ref f15))) (l15 : K.lookup f15 = some ⟨oc15, od15, .func (PySem.W.fnOf "_law_take" "_law_take" (defArgs sTk) (defBody sTk) (defScope sTk) .none kV15 dc15 pm15 an15 cd15 ct15), sl15⟩) (c15 : PySem.W.codeIn K cd15 "_law_take" = true) (k15 : PySem.W.keepIn K (.ref f15) = true)
  (a16 : PySem.W.nsIn K mainGlobals "_law_numbers" = some (some (.ref f16))) (l16 : K.lookup f16 = some ⟨oc16, od16, .func (PySem.W.fnOf "_law_numbers" "_law_numbers" (defArgs sNu) (defBody sNu) (defScope sNu) .none kV16 dc16 pm16 an16 cd16 ct16), sl16⟩) (c16 : PySem.W.codeIn K cd16 "_law_numbers" = true) (k16 : PySem.W.keepIn K (.ref f16) = true)
  (a17 : PySem.W.nsIn K mainGlobals "_law_plan" = some (some (.ref f17))) (l17 : K.lookup f17 = some ⟨oc17, od17, .func (PySem.W.fnOf "_law_plan" "_law_plan" (defArgs sSp) (defBody sSp) (defScope sSp) .none kV17 dc17 pm17 an17 cd17 ct17), sl17⟩) (c17 : PySem.W.codeIn K cd17 "_law_plan" = true) (k17 : PySem.W.keepIn K (.ref f17) = true)
  (a18 : PySem.W.nsIn K mainGlobals "_law_copy" = some (some (.ref f18))) (l18 : K.lookup f18 = some ⟨oc18, od18, .func (PySem.W.fnOf "_law_copy" "_law_copy" (defArgs sCopy) (defBody sCopy) (defScope sCopy) .none kV18 dc18 pm18 an18 cd18 ct18), sl18⟩) (c18 : PySem.W.codeIn K cd18 "_law_copy" = true) (k18 : PySem.W.keepIn K (.ref f18) = true)
  (a19 : PySem.W.nsIn K mainGlobals "_law_near" = some (some (.ref f19))) (l19 : K.lookup f19 = some ⟨oc19, od19, .func (PySem.W.fnOf "_law_near" "_law_near" (defArgs sLN) (defBody sLN) (defScope sLN) .none kV19 dc19 pm19 an19 cd19 ct19), sl19⟩) (c19 : PySem.W.codeIn K cd19 "_law_near" = true) (k19 : PySem.W.keepIn K (.ref f19) = true)
  (a20 : PySem.W.nsIn K mainGlobals "_law_ways" = some (some (.ref f20))) (l20 : K.lookup f20 = some ⟨oc20, od20, .func (PySem.W.fnOf "_law_ways" "_law_ways" (defArgs sLW) (defBody sLW) (defScope sLW) .none kV20 dc20 pm20 an20 cd20 ct20), sl20⟩) (c20 : PySem.W.codeIn K cd20 "_law_ways" = true) (k20 : PySem.W.keepIn K (.ref f20) = true)
  (a21 : PySem.W.nsIn K mainGlobals "_law_all_ways" = some (some (.ref f21))) (l21 : K.lookup f21 = some ⟨oc21, od21, .func (PySem.W.fnOf "_law_all_ways" "_law_all_ways" (defArgs sAlw) (defBody sAlw) (defScope sAlw) .none kV21 dc21 pm21 an21 cd21 ct21), sl21⟩) (c21 : PySem.W.codeIn K cd21 "_law_all_ways" = true) (k21 : PySem.W.keepIn K (.ref f21) = true)
  (a22 : PySem.W.nsIn K mainGlobals "_law_by_number" = some (some (.ref f22))) (l22 : K.lookup f22 = some ⟨oc22, od22, .func (PySem.W.fnOf "_law_by_number" "_law_by_number" (defArgs sByn) (defBody sByn) (defScope sByn) .none kV22 dc22 pm22 an22 cd22 ct22), sl22⟩) (c22 : PySem.W.codeIn K cd22 "_law_by_number" = true) (k22 : PySem.W.keepIn K (.ref f22) = true)
  (a23 : PySem.W.nsIn K mainGlobals "_law_is_row" = some (some (.ref f23))) (l23 : K.lookup f23 = some ⟨oc23, od23, .func (PySem.W.fnOf "_law_is_row" "_law_is_row" (defArgs sLir) (defBody sLir) (defScope sLir) .none kV23 dc23 pm23 an23 cd23 ct23), sl23⟩) (c23 : PySem.W.codeIn K cd23 "_law_is_row" = true) (k23 : PySem.W.keepIn K (.ref f23) = true)
  (a24 : PySem.W.nsIn K mainGlobals "_law_kinds" = some (some (.ref f24))) (l24 : K.lookup f24 = some ⟨oc24, od24, .func (PySem.W.fnOf "_law_kinds" "_law_kinds" (defArgs sKin) (defBody sKin) (defScope sKin) .none kV24 dc24 pm24 an24 cd24 ct24), sl24⟩) (c24 : PySem.W.codeIn K cd24 "_law_kinds" = true) (k24 : PySem.W.keepIn K (.ref f24) = true)
  (a25 : PySem.W.nsIn K mainGlobals "_law_spoilt" = some (some (.ref f25))) (l25 : K.lookup f25 = some ⟨oc25, od25, .func (PySem.W.fnOf "_law_spoilt" "_law_spoilt" (defArgs sSpo) (defBody sSpo) (defScope sSpo) .none kV25 dc25 pm25 an25 cd25 ct25), sl25⟩) (c25 : PySem.W.codeIn K cd25 "_law_spoilt" = true) (k25 : PySem.W.keepIn K (.ref f25) = true)
  (a26 : PySem.W.nsIn K mainGlobals "_law_caught" = some (some (.ref f26))) (l26 : K.lookup f26 = some ⟨oc26, od26, .func (PySem.W.fnOf "_law_caught" "_law_caught" (defArgs sCau) (defBody sCau) (defScope sCau) .none kV26 dc26 pm26 an26 cd26 ct26), sl26⟩) (c26 : PySem.W.codeIn K cd26 "_law_caught" = true) (k26 : PySem.W.keepIn K (.ref f26) = true)
  (a27 : PySem.W.nsIn K mainGlobals "_law_right" = some (some (.ref f27))) (l27 : K.lookup f27 = some ⟨oc27, od27, .func (PySem.W.fnOf "_law_right" "_law_right" (defArgs sRight) (defBody sRight) (defScope sRight) .none kV27 dc27 pm27 an27 cd27 ct27), sl27⟩) (c27 : PySem.W.codeIn K cd27 "_law_right" = true) (k27 : PySem.W.keepIn K (.ref f27) = true)
  (a28 : PySem.W.nsIn K mainGlobals "law" = some (some (.ref f28))) (l28 : K.lookup f28 = some ⟨oc28, od28, .func (PySem.W.fnOf "law" "law" (defArgs sLaw) (defBody sLaw) (defScope sLaw) .none kV28 dc28 pm28 an28 cd28 ct28), sl28⟩) (c28 : PySem.W.codeIn K cd28 "law" = true) (k28 : PySem.W.keepIn K (.ref f28) = true)
  (aC1 : PySem.W.nsIn K mainGlobals "Tally" = some (some (.ref C1))) (pg1 : PySem.W.plainGet K C1 Str.empty = true) (hd1 : PySem.W.hasDictIn K C1 = true) (po1 : PySem.W.plainOver K C1 = true) (sa1 : PySem.W.findIn K (.ref C1) "__setattr__" = some (some (.builtin "object.__setattr__"))) (mk1 : PySem.W.makesIn K C1 = true) (kc1 : PySem.W.keepIn K (.ref C1) = true)
  (nn1_1 : PySem.W.findIn K (.ref C1) "ahead" = some none)
  (nn1_2 : PySem.W.findIn K (.ref C1) "near" = some none)
  (nn1_3 : PySem.W.findIn K (.ref C1) "whole" = some none)
  (nn1_4 : PySem.W.findIn K (.ref C1) "last_places" = some none)
  (nn1_5 : PySem.W.findIn K (.ref C1) "known" = some none)
  (aB1 : PySem.W.nsIn K mainGlobals "Steps" = some (some (.ref B1))) (ty1 : PySem.W.typeIn K (.ref B1) = some mc1) (ga1 : PySem.W.specialIn K (.ref B1) "__getattribute__" = some (some (.builtin "type.__getattribute__"))) (rd1 : PySem.W.readsIn K B1 mc1 = true)
  (a29 : PySem.W.findIn K (.ref C1) "__init__" = some (some (.ref f29))) (i29 : PySem.W.isFn K (.ref f29) = true) (l29 : K.lookup f29 = some ⟨oc29, od29, .func (PySem.W.fnOf "__init__" "Tally.__init__" (defArgs sTIn) (defBody sTIn) (defScope sTIn) .none kV29 dc29 pm29 an29 cd29 ct29), sl29⟩) (c29 : PySem.W.codeIn K cd29 "Tally.__init__" = true) (k29 : PySem.W.keepIn K (.ref f29) = true)
  (a30 : PySem.W.findIn K (.ref C1) "ways" = some (some (.ref f30))) (i30 : PySem.W.isFn K (.ref f30) = true) (l30 : K.lookup f30 = some ⟨oc30, od30, .func (PySem.W.fnOf "ways" "Tally.ways" (defArgs sWy) (defBody sWy) (defScope sWy) .none kV30 dc30 pm30 an30 cd30 ct30), sl30⟩) (c30 : PySem.W.codeIn K cd30 "Tally.ways" = true) (k30 : PySem.W.keepIn K (.ref f30) = true)
  (a31 : PySem.W.findIn K (.ref C1) "ways_by" = some (some (.ref f31))) (i31 : PySem.W.isFn K (.ref f31) = true) (l31 : K.lookup f31 = some ⟨oc31, od31, .func (PySem.W.fnOf "ways_by" "Tally.ways_by" (defArgs sWb) (defBody sWb) (defScope sWb) .none kV31 dc31 pm31 an31 cd31 ct31), sl31⟩) (c31 : PySem.W.codeIn K cd31 "Tally.ways_by" = true) (k31 : PySem.W.keepIn K (.ref f31) = true)
  (a32 : PySem.W.findIn K (.ref C1) "ways_ahead" = some (some (.ref f32))) (i32 : PySem.W.isFn K (.ref f32) = true) (l32 : K.lookup f32 = some ⟨oc32, od32, .func (PySem.W.fnOf "ways_ahead" "Tally.ways_ahead" (defArgs sWah) (defBody sWah) (defScope sWah) .none kV32 dc32 pm32 an32 cd32 ct32), sl32⟩) (c32 : PySem.W.codeIn K cd32 "Tally.ways_ahead" = true) (k32 : PySem.W.keepIn K (.ref f32) = true)
  (a33 : PySem.W.findIn K (.ref C1) "number_at" = some (some (.ref f33))) (i33 : PySem.W.isFn K (.ref f33) = true) (l33 : K.lookup f33 = some ⟨oc33, od33, .func (PySem.W.fnOf "number_at" "Tally.number_at" (defArgs sNa) (defBody sNa) (defScope sNa) .none kV33 dc33 pm33 an33 cd33 ct33), sl33⟩) (c33 : PySem.W.codeIn K cd33 "Tally.number_at" = true) (k33 : PySem.W.keepIn K (.ref f33) = true)
  (a34 : PySem.W.findIn K (.ref C1) "steps" = some (some (.ref f34))) (i34 : PySem.W.isFn K (.ref f34) = true) (l34 : K.lookup f34 = some ⟨oc34, od34, .func (PySem.W.fnOf "steps" "Steps.steps" (defArgs sSteps) (defBody sSteps) (defScope sSteps) .none kV34 dc34 pm34 an34 cd34 ct34), sl34⟩) (c34 : PySem.W.codeIn K cd34 "Steps.steps" = true) (k34 : PySem.W.keepIn K (.ref f34) = true)
  (a35 : PySem.W.findCls K (.ref B1) mc1 "__init__" = some (.val (.ref f35))) (i35 : PySem.W.isFn K (.ref f35) = true) (l35 : K.lookup f35 = some ⟨oc35, od35, .func (PySem.W.fnOf "__init__" "Steps.__init__" (defArgs sIni0) (defBody sIni0) (defScope sIni0) .none kV35 dc35 pm35 an35 cd35 ct35), sl35⟩) (c35 : PySem.W.codeIn K cd35 "Steps.__init__" = true) (k35 : PySem.W.keepIn K (.ref f35) = true)
  (m1 : PySem.W.nsIn K mainGlobals "MOST" = some (some (.int 10 t1)))
  (ax0 : PySem.W.nsIn K mainGlobals "NoPlan" = some (some (.ref x0)))
  (ax1 : PySem.W.nsIn K mainGlobals "NoNumber" = some (some (.ref x1)))
  (ax2 : PySem.W.nsIn K mainGlobals "NoKind" = some (some (.ref x2)))
  (ax3 : PySem.W.nsIn K mainGlobals "NoPlace" = some (some (.ref x3)))
  (ax4 : PySem.W.nsIn K mainGlobals "NoRow" = some (some (.ref x4)))
  (ax5 : PySem.W.nsIn K mainGlobals "NoCut" = some (some (.ref x5)))
  (ax6 : PySem.W.nsIn K mainGlobals "NoPart" = some (some (.ref x6)))
  (ax7 : PySem.W.nsIn K mainGlobals "NoSum" = some (some (.ref x7)))
  (ax8 : PySem.W.nsIn K mainGlobals "TooMany" = some (some (.ref x8)))
  (ax9 : PySem.W.nsIn K mainGlobals "NoText" = some (some (.ref x9)))
  (ax10 : PySem.W.nsIn K mainGlobals "NoName" = some (some (.ref x10)))
  (ax11 : PySem.W.nsIn K mainGlobals "NoSaying" = some (some (.ref x11)))
  (axS : PySem.W.nsIn K mainGlobals "SumError" = some (some (.ref XS)))
  (gaP : PySem.W.findIn K (.ref x0) "__getattribute__" = some (some (.builtin "BaseException.__getattribute__")))
  (ghP : PySem.W.findIn K (.ref x0) "__getattr__" = some none)
  (caP : PySem.W.findIn K (.ref x0) "__class__" = some (some (.builtin "object.__class__")))
  (obP : PySem.W.mroIn K x0 (.type "object") = some true)
  (beP : PySem.W.mroIn K x0 (.type "BaseException") = some true)
  (clP : (PySem.W.clsIn K x0).isSome = true)
  (vvP : PySem.W.kitOne K (.ref x0) (.type "ValueError") = some true)
  (emP : PySem.W.exmOne K (.ref x0) (.ref XS) = some true)
  (eiP : PySem.W.excIn K x0 [.type "ValueError", .type "Exception", .type "BaseException", .type "object"] "ValueError.__new__" = true)
  (kkP : [x0, x1, x2, x3, x4, x5, x6, x7, x8, x9, x10, x11].map (fun x => PySem.W.kitOne K (.ref x0) (.ref x)) = (List.range 12).map fun i : Nat => some (decide ((i : Int) = 0)))
  (gaR : PySem.W.findIn K (.ref x4) "__getattribute__" = some (some (.builtin "BaseException.__getattribute__")))
  (ghR : PySem.W.findIn K (.ref x4) "__getattr__" = some none)
  (caR : PySem.W.findIn K (.ref x4) "__class__" = some (some (.builtin "object.__class__")))
  (obR : PySem.W.mroIn K x4 (.type "object") = some true)
  (beR : PySem.W.mroIn K x4 (.type "BaseException") = some true)
  (clR : (PySem.W.clsIn K x4).isSome = true)
  (vvR : PySem.W.kitOne K (.ref x4) (.type "ValueError") = some true)
  (emR : PySem.W.exmOne K (.ref x4) (.ref XS) = some true)
  (eiR : PySem.W.excIn K x4 [.type "ValueError", .type "Exception", .type "BaseException", .type "object"] "ValueError.__new__" = true)
  (kkR : [x0, x1, x2, x3, x4, x5, x6, x7, x8, x9, x10, x11].map (fun x => PySem.W.kitOne K (.ref x4) (.ref x)) = (List.range 12).map fun i : Nat => some (decide ((i : Int) = 4)))
  (hn_ : PySem.W.specialIn K (.builtin "object.__class__") "__get__" = some (some (.builtin "getset_descriptor.__get__"))) (htk_ : PySem.W.takesIn K (.builtin "object.__class__") = some true)
  (z1 : PySem.W.nsIn K mainGlobals "len" = some none)
  (z2 : PySem.W.nsIn K mainGlobals "max" = some none)
  (z3 : PySem.W.nsIn K mainGlobals "min" = some none)
  (z4 : PySem.W.nsIn K mainGlobals "range" = some none)
  (z5 : PySem.W.nsIn K mainGlobals "list" = some none)
  (z6 : PySem.W.nsIn K mainGlobals "int" = some none)
  (z7 : PySem.W.nsIn K mainGlobals "all" = some none)
  (z8 : PySem.W.nsIn K mainGlobals "isinstance" = some none)
  (z9 : PySem.W.nsIn K mainGlobals "bool" = some none)
  (z10 : PySem.W.nsIn K mainGlobals "str" = some none)
  (z11 : PySem.W.nsIn K mainGlobals "tuple" = some none)
  (z12 : PySem.W.nsIn K mainGlobals "sorted" = some none)
  (z13 : PySem.W.nsIn K mainGlobals "enumerate" = some none)
  (z14 : PySem.W.nsIn K mainGlobals "zip" = some none)
  (z15 : PySem.W.nsIn K mainGlobals "sum" = some none)
  (z16 : PySem.W.nsIn K mainGlobals "abs" = some none)
  (z17 : PySem.W.nsIn K mainGlobals "repr" = some none)
  (z18 : PySem.W.nsIn K mainGlobals "ValueError" = some none)
  : ∃ fd : FuncData, (∀ (s : Shared) (v : Value), BindsTo s fd ⟨[v], []⟩ [("script", v)]) ∧ ∀ base : Heap, K.In base → base.Ns mainGlobals mg → FnOk l.prog w K mg base CX0 28 fa fd ["script"] (spLaw K) := by
 have e := hfa.symm.trans (PySem.W.mg_of X G a28)
 cases e
 have M : ∀ (x : Str) (v : Value), PySem.W.nsIn K mainGlobals x = some (some v) → mg x = some v := fun x v h => PySem.W.mg_of X G h
 have zb : ∀ x : Str, PySem.W.nsIn K mainGlobals x = some none → mg x = none := fun x h => PySem.W.mg_none_of X G h
 have F1 := fun_mk (st := sWhole) l1 c1 k1
 have b1 := F1.binds (ps := ["thing"]) fun _ _ _ _ _ _ us hl => match us, hl with | [_], _ => rfl
 have F2 := fun_mk (st := sLw) l2 c2 k2
 have b2 := F2.binds (ps := ["thing"]) fun _ _ _ _ _ _ us hl => match us, hl with | [_], _ => rfl
 have F3 := fun_mk (st := sRise) l3 c3 k3
 have b3 := F3.binds (ps := ["thing", "fewest"]) fun _ _ _ _ _ _ us hl => match us, hl with | [_, _], _ => rfl
 have F4 := fun_mk (st := sIsP) l4 c4 k4
 have b4 := F4.binds (ps := ["thing"]) fun _ _ _ _ _ _ us hl => match us, hl with | [_], _ => rfl
 have F5 := fun_mk (st := sCkP) l5 c5 k5
 have b5 := F5.binds (ps := ["plan"]) fun _ _ _ _ _ _ us hl => match us, hl with | [_], _ => rfl
 have F6 := fun_mk (st := sAdd) l6 c6 k6
 have b6 := F6.binds (ps := ["plan", "one", "other"]) fun _ _ _ _ _ _ us hl => match us, hl with | [_, _, _], _ => rfl
 have F7 := fun_mk (st := sAllP) l7 c7 k7
 have b7 := F7.binds (ps := ["plan"]) fun _ _ _ _ _ _ us hl => match us, hl with | [_], _ => rfl
 have F8 := fun_mk (st := sNear) l8 c8 k8
 have b8 := F8.binds (ps := ["plan", "number"]) fun _ _ _ _ _ _ us hl => match us, hl with | [_, _], _ => rfl
 have F9 := fun_mk (st := sNb) l9 c9 k9
 have b9 := F9.binds (ps := ["plan", "numbers"]) fun _ _ _ _ _ _ us hl => match us, hl with | [_, _], _ => rfl
 have F10 := fun_mk (st := sHo) l10 c10 k10
 have b10 := F10.binds (ps := ["plan", "thing"]) fun _ _ _ _ _ _ us hl => match us, hl with | [_, _], _ => rfl
 have F11 := fun_mk (st := sIsR) l11 c11 k11
 have b11 := F11.binds (ps := ["plan", "thing"]) fun _ _ _ _ _ _ us hl => match us, hl with | [_, _], _ => rfl
 have F12 := fun_mk (st := sTr) l12 c12 k12
 have b12 := F12.binds (ps := ["plan"]) fun _ _ _ _ _ _ us hl => match us, hl with | [_], _ => rfl
 have F13 := fun_mk (st := sNo) l13 c13 k13
 have b13 := F13.binds (ps := ["plan", "thing"]) fun _ _ _ _ _ _ us hl => match us, hl with | [_, _], _ => rfl
 have F14 := fun_mk (st := sDs) l14 c14 k14
 have b14 := F14.binds (ps := ["script", "many"]) fun _ _ _ _ _ _ us hl => match us, hl with | [_, _], _ => rfl
 have F15 := fun_mk (st := sTk) l15 c15 k15
 have b15 := F15.binds (ps := ["store", "many"]) fun _ _ _ _ _ _ us hl => match us, hl with | [_, _], _ => rfl
 have F16 := fun_mk (st := sNu) l16 c16 k16
 have b16 := F16.binds (ps := ["store", "many"]) fun _ _ _ _ _ _ us hl => match us, hl with | [_, _], _ => rfl
 have F17 := fun_mk (st := sSp) l17 c17 k17
 have b17 := F17.binds (ps := ["store"]) fun _ _ _ _ _ _ us hl => match us, hl with | [_], _ => rfl
 have F18 := fun_mk (st := sCopy) l18 c18 k18
 have b18 := F18.binds (ps := ["plan"]) fun _ _ _ _ _ _ us hl => match us, hl with | [_], _ => rfl
 have F19 := fun_mk (st := sLN) l19 c19 k19
 have b19 := F19.binds (ps := ["plan", "one", "other"]) fun _ _ _ _ _ _ us hl => match us, hl with | [_, _, _], _ => rfl
 have F20 := fun_mk (st := sLW) l20 c20 k20
 have b20 := F20.binds (ps := ["plan", "last", "left", "ends", "known"]) fun _ _ _ _ _ _ us hl => match us, hl with | [_, _, _, _, _], _ => rfl
 have F21 := fun_mk (st := sAlw) l21 c21 k21
 have b21 := F21.binds (ps := ["plan"]) fun _ _ _ _ _ _ us hl => match us, hl with | [_], _ => rfl
 have F22 := fun_mk (st := sByn) l22 c22 k22
 have b22 := F22.binds (ps := ["plan", "number"]) fun _ _ _ _ _ _ us hl => match us, hl with | [_, _], _ => rfl
 have F23 := fun_mk (st := sLir) l23 c23 k23
 have b23 := F23.binds (ps := ["plan", "thing"]) fun _ _ _ _ _ _ us hl => match us, hl with | [_, _], _ => rfl
 have F24 := fun_mk (st := sKin) l24 c24 k24
 have b24 := F24.binds (ps := ["caught", "due"]) fun _ _ _ _ _ _ us hl => match us, hl with | [_, _], _ => rfl
 have F25 := fun_mk (st := sSpo) l25 c25 k25
 have b25 := F25.binds (ps := ["store", "row", "numbers"]) fun _ _ _ _ _ _ us hl => match us, hl with | [_, _, _], _ => rfl
 have F26 := fun_mk (st := sCau) l26 c26 k26
 have b26 := F26.binds (ps := ["plan", "thing"]) fun _ _ _ _ _ _ us hl => match us, hl with | [_, _], _ => rfl
 have F27 := fun_mk (st := sRight) l27 c27 k27
 have b27 := F27.binds (ps := ["plan", "thing"]) fun _ _ _ _ _ _ us hl => match us, hl with | [_, _], _ => rfl
 have F28 := fun_mk (st := sLaw) l28 c28 k28
 have b28 := F28.binds (ps := ["script"]) fun _ _ _ _ _ _ us hl => match us, hl with | [_], _ => rfl
 have F29 := fun_mk (st := sTIn) l29 c29 k29
 have b29 := F29.binds (ps := ["self", "plan", "first_places", "last_places"]) fun _ _ _ _ _ _ us hl => match us, hl with | [_, _, _, _], _ => rfl
 have F30 := fun_mk (st := sWy) l30 c30 k30
 have b30 := F30.binds (ps := ["self", "left", "end"]) fun _ _ _ _ _ _ us hl => match us, hl with | [_, _, _], _ => rfl
 have F31 := fun_mk (st := sWb) l31 c31 k31
 have b31 := F31.binds (ps := ["self", "left", "place"]) fun _ _ _ _ _ _ us hl => match us, hl with | [_, _, _], _ => rfl
 have F32 := fun_mk (st := sWah) l32 c32 k32
 have b32 := F32.binds (ps := ["self", "left", "end", "place"]) fun _ _ _ _ _ _ us hl => match us, hl with | [_, _, _, _], _ => rfl
 have F33 := fun_mk (st := sNa) l33 c33 k33
 have b33 := F33.binds (ps := ["self", "places"]) fun _ _ _ _ _ _ us hl => match us, hl with | [_, _], _ => rfl
 have F34 := fun_mk (st := sSteps) l34 c34 k34
 have b34 := F34.binds (ps := ["self", "left", "end"]) fun _ _ _ _ _ _ us hl => match us, hl with | [_, _, _], _ => rfl
 have F35 := fun_mk (st := sIni0) l35 c35 k35
 have b35 := F35.binds (ps := ["self", "plan", "first_places"]) fun _ _ _ _ _ _ us hl => match us, hl with | [_, _, _], _ => rfl
 refine ⟨PySem.W.fnOf "law" "law" (defArgs sLaw) (defBody sLaw) (defScope sLaw) .none kV28 dc28 pm28 an28 cd28 ct28, fun s v => .of_eq rfl, fun base _ _ => ?_⟩
 have exP : ExD K [x0, x1, x2, x3, x4, x5, x6, x7, x8, x9, x10, x11] XS x0 0 := ⟨kkP, vvP, ⟨gaP, ghP, caP, obP, beP, clP, hn_, htk_⟩, emP, eiP, by decide⟩
 have exR : ExD K [x0, x1, x2, x3, x4, x5, x6, x7, x8, x9, x10, x11] XS x4 4 := ⟨kkR, vvR, ⟨gaR, ghR, caR, obR, beR, clR, hn_, htk_⟩, emR, eiR, by decide⟩
 have B4 : Bt4 mg := { len := zb "len" z1, max := zb "max" z2, min := zb "min" z3, range := zb "range" z4, list := zb "list" z5, int := zb "int" z6, all := zb "all" z7, isinstance := zb "isinstance" z8, bool := zb "bool" z9, str := zb "str" z10, tuple := zb "tuple" z11, sorted := zb "sorted" z12, enumerate := zb "enumerate" z13, zip := zb "zip" z14, sum := zb "sum" z15 }
 have B := B4.toBt3
 have BA : BtA mg := { B with abs := zb "abs" z16 }
 have BR : BtR mg := { toBt2 := B.toBt2, repr := zb "repr" z17 }
 have TX : ExT mg x0 x1 x2 x3 x4 x5 x6 x7 x8 x9 x10 x11 XS := ⟨M _ _ ax0, M _ _ ax1, M _ _ ax2, M _ _ ax3, M _ _ ax4, M _ _ ax5, M _ _ ax6, M _ _ ax7, M _ _ ax8, M _ _ ax9, M _ _ ax10, M _ _ ax11, M _ _ axS, zb "ValueError" z18⟩
 have T : TyT K C1 := { cl := ⟨pg1, hd1, po1, sa1⟩, nA := nn1_1, nN := nn1_2, nW := nn1_3, nL := nn1_4, nK := nn1_5 }
 have OW := ok_wholeD (P := l.prog) (w := w) (base := base) F1 B.toBt2
 have OL := ok_lwD F2 B.toBt2 OW b1 k1 (M _ _ a1)
 have OR := ok_riseD F3 B.toBt2 (M _ _ m1) OW b1 k1 (M _ _ a1)
 have OI := ok_isPD F4 B.toBt2 OR b3 k3 (M _ _ a3)
 have OC := ok_ckX F5 exP.i TX.m0 OI b4 k4 (M _ _ a4)
 have OA := ok_add (P := l.prog) (w := w) (mg := mg) (base := base) F6
 have ONB := ok_nb F9 B4 OA b6 k6 (M _ _ a6)
 have OH := ok_hoD F10 B.toBt2 OL b2 k2 (M _ _ a2)
 have OIR := ok_isRX F11 OC b5 k5 (M _ _ a5) (OH.mono (by decide)) b10 k10 (M _ _ a10) (ONB.mono (by decide)) b9 k9 (M _ _ a9)
 have OAP := ok_allP (P := l.prog) (w := w) (base := base) F7 B
 have ON := ok_near F8 B OA b6 k6 (M _ _ a6)
 have OI0 := ok_ini0 F35 B T.toSrT ON b8 k8 (M _ _ a8)
 have OTI := ok_tin F29 B T ⟨ga1, rd1, a35, k35⟩ (M _ _ aB1) OI0 b35
 have OST := ok_steps (P := l.prog) (w := w) (mg := mg) (base := base) F34 T.toSrT
 have OWB := ok_wb F31 T ⟨a30, i30, k30⟩ (ok_ways F30 F31 B4 T ⟨a30, i30, k30⟩ ⟨a31, i31, k31⟩ ⟨a34, i34, k34⟩ OST b34 b30 b31 9) b30
 have OWA := ok_wah F32 B4 T ⟨a31, i31, k31⟩ ⟨a34, i34, k34⟩ (OWB.mono (by decide : 21 ≤ 22)) b31 (OST.mono (by decide)) b34
 have ONA := ok_na F33 T ⟨a32, i32, k32⟩ OWA b32
 have OTR := ok_tr F12 ⟨mk1, a29, i29, kc1⟩ (M _ _ aC1) OTI b29 (OAP.mono (by decide)) b7 k7 (M _ _ a7)
 have ONO := ok_no F13 T ⟨a33, i33, k33⟩ exR.i TX.m4 ONA b33 (OIR.mono (by decide)) b11 k11 (M _ _ a11) (OTR.mono (by decide)) b12 k12 (M _ _ a12)
 have OT := ok_tk (P := l.prog) (w := w) (base := base) F15 B
 have OD := ok_ds (P := l.prog) (w := w) (base := base) F14 BA
 have ONU := ok_nu F16 B OT b15 k15 (M _ _ a15)
 have OSP := ok_sp F17 B (OT.mono (by decide)) b15 k15 (M _ _ a15) ONU b16 k16 (M _ _ a16)
 have OCP := ok_copy (P := l.prog) (w := w) (base := base) F18 B.toBt2
 have OLN := ok_LN (P := l.prog) (w := w) (mg := mg) (base := base) F19
 have OLW := ok_LW F20 B OLN b19 k19 (M _ _ a19) b20 k20 (M _ _ a20) 11
 have OAL := ok_alw F21 B OLW b20 k20 (M _ _ a20)
 have OBY := ok_byn F22 B OLW b20 k20 (M _ _ a20) (OLN.mono (by decide)) b19 k19 (M _ _ a19)
 have OLI := ok_lir F23 B.toBt2 OLN b19 k19 (M _ _ a19)
 have OKI := ok_kin (P := l.prog) (w := w) (base := base) F24 B.toBt2 TX
 have OSO := ok_spo F25 BR OT b15 k15 (M _ _ a15)
 have OCA := ok_cau F26 TX.mS exR ONO b13 k13 (M _ _ a13)
 have ORI := ok_right F27 BR exR (OCP.mono (by decide)) b18 k18 (M _ _ a18) OCA b26 k26 (M _ _ a26) (OLI.mono (by decide)) b23 k23 (M _ _ a23) (OKI.mono (by decide)) b24 k24 (M _ _ a24)
 exact ok_law F28 B (OD.mono (by decide)) b14 k14 (M _ _ a14) (OSP.mono (by decide)) b17 k17 (M _ _ a17) (OCP.mono (by decide)) b18 k18 (M _ _ a18) (OAL.mono (by decide)) b21 k21 (M _ _ a21) (OT.mono (by decide)) b15 k15 (M _ _ a15) (OBY.mono (by decide)) b22 k22 (M _ _ a22) (OCA.mono (by decide)) b26 k26 (M _ _ a26) (OSO.mono (by decide)) b25 k25 (M _ _ a25) ORI b27 k27 (M _ _ a27)
theorem walk {l : PySem.W.OpenLaw} {q : Program} {loose : List Str} {XP : (Str → Option Value) → Heap → Prop} {YP : World → Heap → Prop} {d : DefRec} {K : Params → PySem.W.Frag} (hn : l.most = some 63) (hdf : d.params.defaults = [])
  (hY : ∀ (w : World) (h : Heap), YP w h → (K w.params).In h)
  (F : ∀ (w : World) (mg : Str → Option Value) (fa : Addr) (h : Heap), (K w.params).In h → h.Ns mainGlobals mg → mg d.name = some (.ref fa) →
   ∃ fd : FuncData, (∀ (s : Shared) (u : Value), BindsTo s fd ⟨[u], []⟩ [("script", u)]) ∧ ∀ base : Heap, (K w.params).In base → base.Ns mainGlobals mg → FnOk l.prog w (K w.params) mg base CX0 28 fa fd ["script"] (spLaw (K w.params))) :
  PySem.W.WalkO q loose XP YP l.row.toRowW d [] (fun f vs => PySem.call f vs) :=
 L2.walk_of (n := 63) (k := 28) (x := "script") (CX := fun _ => CX0) (sp := fun w => spLaw (K w.params)) hn (by decide) hdf ⟨rfl, by decide, by decide, rfl⟩ hY F (fun _ _ a ns hl _ hS => ⟨a, ns, rfl, hS, hl, fun _ => rfl⟩) fun _ _ _ _ _ z => z
end N16
def PySem.W.Fast.tw3890748312046093536 : Nat := 0
def PySem.W.Fast.tw18067496792971165450 : Nat := 0
def PySem.W.Fast.tw11360740252768282594 : Nat := 0
def PySem.W.Fast.tw17084814348683001420 : Nat := 0
def PySem.W.Fast.tw15804292677896754625 : Nat := 0
def PySem.W.Fast.tw1307312137429425330 : Nat := 0
def PySem.W.Fast.tw11691186746235517769 : Nat := 0
def PySem.W.Fast.tw1388518381984663688 : Nat := 0
def PySem.W.Fast.tw12645742834797181037 : Nat := 0
def PySem.W.Fast.tw13640580605146651185 : Nat := 0
def PySem.W.Fast.tw14562157257053876110 : Nat := 0
def PySem.W.Fast.tw12809174247770417396 : Nat := 0
def PySem.W.Fast.tw5581046958516175836 : Nat := 0
def PySem.W.Fast.tw12312643522034936152 : Nat := 0
def PySem.W.Fast.tw11450404891420864081 : Nat := 0
def PySem.W.Fast.tw16893271975377063865 : Nat := 0
def PySem.W.Fast.tw10245199121253792887 : Nat := 0
def PySem.W.Fast.tw5995771860605813535 : Nat := 0
def PySem.W.Fast.tw7933289540222690358 : Nat := 0
def PySem.W.Fast.tw4420175353962945602 : Nat := 0
def PySem.W.Fast.tw8782238626195584745 : Nat := 0
def PySem.W.Fast.tw6696969120053708349 : Nat := 0
def PySem.W.Fast.tw2379733189861120275 : Nat := 0
def PySem.W.Fast.tw1598443340792573132 : Nat := 0
def PySem.W.Fast.tw2385239181416900416 : Nat := 0
def PySem.W.Fast.tw4657413831716397226 : Nat := 0
def PySem.W.Fast.tw8581258619540064366 : Nat := 0
def PySem.W.Fast.tw331800735010407093 : Nat := 0
def PySem.W.Fast.tw17952838856209165069 : Nat := 0
def PySem.W.Fast.tw4679589883154451779 : Nat := 0
def PySem.W.Fast.tw13905970321877450294 : Nat := 0
def PySem.W.Fast.tw6766474028504415768 : Nat := 0
def PySem.W.Fast.tw7272303493324112725 : Nat := 0
def PySem.W.Fast.tw7318548172137876966 : Nat := 0
def PySem.W.Fast.tw9293083919169897756 : Nat := 0
def PySem.W.Fast.tw720606354159686144 : Nat := 0
def PySem.W.Fast.tw4987470564933461890 : Nat := 0
def PySem.W.Fast.tw16692337107208880406 : Nat := 0
def PySem.W.Fast.tw15261447475579441980 : Nat := 0
def PySem.W.Fast.tw886821192744106392 : Nat := 0
def PySem.W.Fast.tw2054168395402935516 : Nat := 0
def PySem.W.Fast.tw14483530350037991985 : Nat := 0
def PySem.W.Fast.tw7603681377891117163 : Nat := 0
def PySem.W.Fast.tw14526313409160163675 : Nat := 0
def PySem.W.Fast.tw17889665711083906716 : Nat := 0
def PySem.W.Fast.tw14013997968526373654 : Nat := 0
def PySem.W.Fast.tw4557606897980552136 : Nat := 0
def PySem.W.Fast.tw11848019025476722108 : Nat := 0
def PySem.W.Fast.tw1501505732164050516 : Nat := 0
def PySem.W.Fast.tw7428761255708575018 : Nat := 0
def PySem.W.Fast.tw3306337832801974080 : Nat := 0
def PySem.W.Fast.tw16119487515704924919 : Nat := 0
def PySem.W.Fast.tw12635008329067767849 : Nat := 0
def PySem.W.Fast.tw10397274975260398100 : Nat := 0
def PySem.W.Fast.tw7888673767690705490 : Nat := 0
def PySem.W.Fast.tw10430573544227749944 : Nat := 0
def PySem.W.Fast.tw17645593221489172821 : Nat := 0
def PySem.W.Fast.tw8854198928496690478 : Nat := 0
def PySem.W.Fast.tw16529688575553554774 : Nat := 0
def PySem.W.Fast.tw9945594189592675235 : Nat := 0
def PySem.W.Fast.tw4264336448979517553 : Nat := 0
def PySem.W.Fast.tw4537772800511624196 : Nat := 0
def PySem.W.Fast.tw5808209013675357645 : Nat := 0
def PySem.W.Fast.tw4648098937461219611 : Nat := 0
def PySem.W.Fast.tw2818467837334091544 : Nat := 0
def PySem.W.Fast.tw11264079412080129716 : Nat := 0
def PySem.W.Fast.tw17819023172635660368 : Nat := 0
def PySem.W.Fast.tw8291317676915327403 : Nat := 0
def PySem.W.Fast.tw8956617415621956502 : Nat := 0
def PySem.W.Fast.tw2291252189045283792 : Nat := 0
def PySem.W.Fast.tw14001438161644713807 : Nat := 0
def PySem.W.Fast.tw13760108193847114502 : Nat := 0
def PySem.W.Fast.tw7608722053898110207 : Nat := 0
def PySem.W.Fast.tw7399901690808593420 : Nat := 0
def PySem.W.Fast.tw8661759108850525311 : Nat := 0
def PySem.W.Fast.tw14131582985599835117 : Nat := 0
def PySem.W.Fast.tw6386814232670812912 : Nat := 0
def PySem.W.Fast.tw3380457604514456461 : Nat := 0
def PySem.W.Fast.tw8767933577332011950 : Nat := 0
def PySem.W.Fast.tw4975004453279110222 : Nat := 0
def PySem.W.Fast.tw5617690730679168449 : Nat := 0
def PySem.W.Fast.tw7173134510170135714 : Nat := 0
def PySem.W.Fast.tw9291551582608038828 : Nat := 0
def PySem.W.Fast.tw13738649194127861438 : Nat := 0
def PySem.W.Fast.tw10607091218131491499 : Nat := 0
def PySem.W.Fast.tw2714934112536807016 : Nat := 0
def PySem.W.Fast.tw1225634643476079724 : Nat := 0
def PySem.W.Fast.tw10513378795392834605 : Nat := 0
def PySem.W.Fast.tw10872833641854184325 : Nat := 0
def PySem.W.Fast.tw2878199529694961750 : Nat := 0
def PySem.W.Fast.tw13838923768031368527 : Nat := 0
def PySem.W.Fast.tw5527093510923188037 : Nat := 0
def PySem.W.Fast.tw15631015163817746192 : Nat := 0
def PySem.W.Fast.tw7244007670480812572 : Nat := 0
def PySem.W.Fast.tw9408025508611758164 : Nat := 0
def PySem.W.Fast.tw7738246361834055354 : Nat := 0
def PySem.W.Fast.tw10205049082894209116 : Nat := 0
def PySem.W.Fast.tw8556230908505245471 : Nat := 0
def PySem.W.Fast.tw10600522695664037374 : Nat := 0
def PySem.W.Fast.tw6888504519709492863 : Nat := 0
def PySem.W.Fast.tw12459002093104196178 : Nat := 0
def PySem.W.Fast.tw15685966873458590811 : Nat := 0
def PySem.W.Fast.tw13011031628473185286 : Nat := 0
def PySem.W.Fast.tw1286439208876289089 : Nat := 0
def PySem.W.Fast.tw17809979455853693409 : Nat := 0
def PySem.W.Fast.tw12384873294683870743 : Nat := 0
def PySem.W.Fast.tw12786128362109662844 : Nat := 0
def PySem.W.Fast.tw2863019368374213490 : Nat := 0
def PySem.W.Fast.tw17507961507051221811 : Nat := 0
def PySem.W.Fast.tw4872283668725511771 : Nat := 0
def PySem.W.Fast.tw12492166797887688828 : Nat := 0
open PySem PySem.W PyProof.Rows
set_option maxRecDepth 100000 in
set_option maxHeartbeats 0 in
theorem PySem.Challenge.cw_nearsums_k16_numbers_of_rows_holds : PySem.Challenge.rw_nearsums_k16_numbers_of_rows.Holds := by
 w_on; o_law; k_head; (case hw => w_witness2)
 k_fill
 refine N16.walk (l := PySem.Challenge.rw_nearsums_k16_numbers_of_rows) rfl rfl (fun w h Y => PySem.W.kIn_of Y) ?F
 case F =>
  intro w mg fa h KX G hmg
  refine' N16.all_mk KX G hmg ?a1 ?l1 ?c1 ?k1 ?a2 ?l2 ?c2 ?k2 ?a3 ?l3 ?c3 ?k3 ?a4 ?l4 ?c4 ?k4 ?a5 ?l5 ?c5 ?k5 ?a6 ?l6 ?c6 ?k6 ?a7 ?l7 ?c7 ?k7 ?a8 ?l8 ?c8 ?k8 ?a9 ?l9 ?c9 ?k9 ?a10 ?l10 ?c10 ?k10 ?a11 ?l11 ?c11 ?k11 ?a12 ?l12 ?c12 ?k12 ?a13 ?l13 ?c13 ?k13 ?a14 ?l14 ?c14 ?k14 ?a15 ?l15 ?c15 ?k15 ?a16 ?l16 ?c16 ?k16 ?a17 ?l17 ?c17 ?k17 ?a18 ?l18 ?c18 ?k18 ?a19 ?l19 ?c19 ?k19 ?a20 ?l20 ?c20 ?k20 ?a21 ?l21 ?c21 ?k21 ?a22 ?l22 ?c22 ?k22 ?a23 ?l23 ?c23 ?k23 ?a24 ?l24 ?c24 ?k24 ?a25 ?l25 ?c25 ?k25 ?a26 ?l26 ?c26 ?k26 ?a27 ?l27 ?c27 ?k27 ?a28 ?l28 ?c28 ?k28 ?aC1 ?pg1 ?hd1 ?po1 ?sa1 ?mk1 ?kc1 ?nn1_1 ?nn1_2 ?nn1_3 ?nn1_4 ?nn1_5 ?aB1 ?ty1 ?ga1 ?rd1 ?a29 ?i29 ?l29 ?c29 ?k29 ?a30 ?i30 ?l30 ?c30 ?k30 ?a31 ?i31 ?l31 ?c31 ?k31 ?a32 ?i32 ?l32 ?c32 ?k32 ?a33 ?i33 ?l33 ?c33 ?k33 ?a34 ?i34 ?l34 ?c34 ?k34 ?a35 ?i35 ?l35 ?c35 ?k35 ?m1 ?ax0 ?ax1 ?ax2 ?ax3 ?ax4 ?ax5 ?ax6 ?ax7 ?ax8 ?ax9 ?ax10 ?ax11 ?axS ?gaP ?ghP ?caP ?obP ?beP ?clP ?vvP ?emP ?eiP ?kkP ?gaR ?ghR ?caR ?obR ?beR ?clR ?vvR ?emR ?eiR ?kkR ?hn_ ?htk_ ?z1 ?z2 ?z3 ?z4 ?z5 ?z6 ?z7 ?z8 ?z9 ?z10 ?z11 ?z12 ?z13 ?z14 ?z15 ?z16 ?z17 ?z18
  (case a1 => k_is)
  (case l1 => k_is)
  (case c1 => k_is)
  (case k1 => k_is)
  (case a2 => k_is)
  (case l2 => k_is)
  (case c2 => k_is)
  (case k2 => k_is)
  (case a3 => k_is)
  (case l3 => k_is)
  (case c3 => k_is)
  (case k3 => k_is)
  (case a4 => k_is)
  (case l4 => k_is)
  (case c4 => k_is)
  (case k4 => k_is)
  (case a5 => k_is)
  (case l5 => k_is)
  (case c5 => k_is)
  (case k5 => k_is)
  (case a6 => k_is)
  (case l6 => k_is)
  (case c6 => k_is)
  (case k6 => k_is)
  (case a7 => k_is)
  (case l7 => k_is)
  (case c7 => k_is)
  (case k7 => k_is)
  (case a8 => k_is)
  (case l8 => k_is)
  (case c8 => k_is)
  (case k8 => k_is)
  (case a9 => k_is)
  (case l9 => k_is)
  (case c9 => k_is)
  (case k9 => k_is)
  (case a10 => k_is)
  (case l10 => k_is)
  (case c10 => k_is)
  (case k10 => k_is)
  (case a11 => k_is)
  (case l11 => k_is)
  (case c11 => k_is)
  (case k11 => k_is)
  (case a12 => k_is)
  (case l12 => k_is)
  (case c12 => k_is)
  (case k12 => k_is)
  (case a13 => k_is)
  (case l13 => k_is)
  (case c13 => k_is)
  (case k13 => k_is)
  (case a14 => k_is)
  (case l14 => k_is)
  (case c14 => k_is)
  (case k14 => k_is)
  (case a15 => k_is)
  (case l15 => k_is)
  (case c15 => k_is)
  (case k15 => k_is)
  (case a16 => k_is)
  (case l16 => k_is)
  (case c16 => k_is)
  (case k16 => k_is)
  (case a17 => k_is)
  (case l17 => k_is)
  (case c17 => k_is)
  (case k17 => k_is)
  (case a18 => k_is)
  (case l18 => k_is)
  (case c18 => k_is)
  (case k18 => k_is)
  (case a19 => k_is)
  (case l19 => k_is)
  (case c19 => k_is)
  (case k19 => k_is)
  (case a20 => k_is)
  (case l20 => k_is)
  (case c20 => k_is)
  (case k20 => k_is)
  (case a21 => k_is)
  (case l21 => k_is)
  (case c21 => k_is)
  (case k21 => k_is)
  (case a22 => k_is)
  (case l22 => k_is)
  (case c22 => k_is)
  (case k22 => k_is)
  (case a23 => k_is)
  (case l23 => k_is)
  (case c23 => k_is)
  (case k23 => k_is)
  (case a24 => k_is)
  (case l24 => k_is)
  (case c24 => k_is)
  (case k24 => k_is)
  (case a25 => k_is)
  (case l25 => k_is)
  (case c25 => k_is)
  (case k25 => k_is)
  (case a26 => k_is)
  (case l26 => k_is)
  (case c26 => k_is)
  (case k26 => k_is)
  (case a27 => k_is)
  (case l27 => k_is)
  (case c27 => k_is)
  (case k27 => k_is)
  (case a28 => k_is)
  (case l28 => k_is)
  (case c28 => k_is)
  (case k28 => k_is)
  (case aC1 => k_is)
  (case pg1 => k_is)
  (case hd1 => k_is)
  (case po1 => k_is)
  (case sa1 => k_is)
  (case mk1 => k_is)
  (case kc1 => k_is)
  (case nn1_1 => k_is)
  (case nn1_2 => k_is)
  (case nn1_3 => k_is)
  (case nn1_4 => k_is)
  (case nn1_5 => k_is)
  (case aB1 => k_is)
  (case ty1 => k_is)
  (case ga1 => k_is)
  (case rd1 => k_is)
  (case a29 => k_is)
  (case i29 => k_is)
  (case l29 => k_is)
  (case c29 => k_is)
  (case k29 => k_is)
  (case a30 => k_is)
  (case i30 => k_is)
  (case l30 => k_is)
  (case c30 => k_is)
  (case k30 => k_is)
  (case a31 => k_is)
  (case i31 => k_is)
  (case l31 => k_is)
  (case c31 => k_is)
  (case k31 => k_is)
  (case a32 => k_is)
  (case i32 => k_is)
  (case l32 => k_is)
  (case c32 => k_is)
  (case k32 => k_is)
  (case a33 => k_is)
  (case i33 => k_is)
  (case l33 => k_is)
  (case c33 => k_is)
  (case k33 => k_is)
  (case a34 => k_is)
  (case i34 => k_is)
  (case l34 => k_is)
  (case c34 => k_is)
  (case k34 => k_is)
  (case a35 => k_is)
  (case i35 => k_is)
  (case l35 => k_is)
  (case c35 => k_is)
  (case k35 => k_is)
  (case m1 => k_is)
  (case ax0 => k_is)
  (case ax1 => k_is)
  (case ax2 => k_is)
  (case ax3 => k_is)
  (case ax4 => k_is)
  (case ax5 => k_is)
  (case ax6 => k_is)
  (case ax7 => k_is)
  (case ax8 => k_is)
  (case ax9 => k_is)
  (case ax10 => k_is)
  (case ax11 => k_is)
  (case axS => k_is)
  (case gaP => k_is)
  (case ghP => k_is)
  (case caP => k_is)
  (case obP => k_is)
  (case beP => k_is)
  (case clP => kernel_rfl)
  (case vvP => kernel_rfl)
  (case emP => kernel_rfl)
  (case eiP => kernel_rfl)
  (case kkP => kernel_rfl)
  (case gaR => k_is)
  (case ghR => k_is)
  (case caR => k_is)
  (case obR => k_is)
  (case beR => k_is)
  (case clR => kernel_rfl)
  (case vvR => kernel_rfl)
  (case emR => kernel_rfl)
  (case eiR => kernel_rfl)
  (case kkR => kernel_rfl)
  (case hn_ => k_is)
  (case htk_ => k_is)
  (case z1 => k_is)
  (case z2 => k_is)
  (case z3 => k_is)
  (case z4 => k_is)
  (case z5 => k_is)
  (case z6 => k_is)
  (case z7 => k_is)
  (case z8 => k_is)
  (case z9 => k_is)
  (case z10 => k_is)
  (case z11 => k_is)
  (case z12 => k_is)
  (case z13 => k_is)
  (case z14 => k_is)
  (case z15 => k_is)
  (case z16 => k_is)
  (case z17 => k_is)
  (case z18 => k_is)
