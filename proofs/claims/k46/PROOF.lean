import PyProof.Rows.All
import Wide.All
import OpenK.AllK
import Wide.FinOn
import Lean
import PyProof.EqAt
import PyProof.EqKinds
import PyProof.TupleCall
import PyProof.NeKinds
import PyProof.EnumStmt
import PyProof.WalkInts
import PyProof.ZipIter
import PyProof.Rows.ZipGen
import PyProof.Rows.SumAny
import PyProof.ReprBulk
import PyProof.FitsInt
import PyProof.Draws
import PyProof.FactsAll.list_4
import KE.KDictList
import PyProof.CallStr
import PyProof.Rows.ReprOcc
import PyProof.Rows.StrWeight2
import PyProof.StrCalls2
import PyProof.StrCalls
import PyProof.StrBlockI
import KE.KIntText
import PyProof.Rows.StrSplitMax
import PyProof.StrWalks
import PyProof.StrLawsTight
import PyProof.StrLawsFirst
import PyProof.StrBlock2
import PyProof.StrCalls3
import KE.IntTextText
import KE.KTryMore
import PyProof.NsDelKeeps
import PyProof.ExcArgsOwn
import PyProof.ExcBaseAll.ValueError
import PySem.Challenge.RW_nearsums_k46_texts_that_write_no_plan
set_option Elab.async false
set_option linter.all false
set_option maxRecDepth 100000
namespace L2
open PySem PySem.Spec PyProof.Rows
abbrev Key := Sum Int Str
def keyIs : Key → Value → Bool
 | .inl k, v => Value.isInt k v
 | .inr x, v => Value.isStrOf x v
def keyH (w : World) : Key → Int
 | .inl k => hashInt k
 | .inr x => hashStr w x
theorem keyIs_shape : ∀ {k : Key} {v : Value}, keyIs k v = true → (∃ i t, k = Sum.inl i ∧ v = Value.int i t) ∨ (∃ x t, k = Sum.inr x ∧ v = Value.str x t)
 | .inl i, v, h => by
  obtain ⟨t, e⟩ := Value.isInt_shape (k := i) (v := v) h
  exact .inl ⟨i, t, rfl, e⟩
 | .inr x, v, h => by
  obtain ⟨t, e⟩ := Value.isStrOf_shape (x := x) (v := v) h
  exact .inr ⟨x, t, rfl, e⟩
theorem keyIs_int (i : Int) (t : Tok) : keyIs (.inl i) (.int i t) = true := by simp [keyIs, Value.isInt]
theorem keyIs_str (x : Str) (t : Tok) : keyIs (.inr x) (.str x t) = true := by simp [keyIs, Value.isStrOf]
theorem key_ll (a b : Int) : decide ((Sum.inl a : Key) = Sum.inl b) = (a == b) := by
 by_cases e : a = b
 ·subst e; simp
 ·have h : ¬ (Sum.inl a : Key) = Sum.inl b := fun q => e (Sum.inl.inj q)
  rw [decide_eq_false h]
  exact (beq_eq_false_iff_ne.mpr e).symm
theorem key_rr (a b : Str) : decide ((Sum.inr a : Key) = Sum.inr b) = decide (a = b) := by
 by_cases e : a = b
 ·subst e; simp
 ·have h : ¬ (Sum.inr a : Key) = Sum.inr b := fun q => e (Sum.inr.inj q)
  rw [decide_eq_false h, decide_eq_false e]
theorem key_lr (a : Int) (b : Str) : decide ((Sum.inl a : Key) = Sum.inr b) = false := decide_eq_false (fun q => nomatch q)
theorem key_rl (a : Str) (b : Int) : decide ((Sum.inr a : Key) = Sum.inl b) = false := decide_eq_false (fun q => nomatch q)
def mixKind (prog : Program) (w : World) : PySem.KeyKind prog w Key where
 is := keyIs
 hash := keyH w
 inj := fun v a b ha hb => by
  rcases keyIs_shape ha with ⟨i, t, rfl, rfl⟩ | ⟨x, t, rfl, rfl⟩
  ·rcases keyIs_shape hb with ⟨j, u, rfl, e⟩ | ⟨y, u, rfl, e⟩
   ·injection e with e1 _; rw [e1]
   ·exact nomatch e
  ·rcases keyIs_shape hb with ⟨j, u, rfl, e⟩ | ⟨y, u, rfl, e⟩
   ·exact nomatch e
   ·injection e with e1 _; rw [e1]
 byValue := fun k v h => by
  rcases keyIs_shape h with ⟨i, t, rfl, rfl⟩ | ⟨x, t, rfl, rfl⟩ <;> rfl
 pyHash := fun hv h => by
  rcases keyIs_shape hv with ⟨i, t, rfl, rfl⟩ | ⟨x, t, rfl, rfl⟩
  ·exact wpAny_pyHash_int h
  ·exact wpAny_pyHash_str h
 eqBool := fun hu hv h => by
  rcases keyIs_shape hu with ⟨i, t, rfl, rfl⟩ | ⟨x, t, rfl, rfl⟩
  ·rcases keyIs_shape hv with ⟨j, u, rfl, rfl⟩ | ⟨y, u, rfl, rfl⟩
   ·rw [key_ll] at h; exact wpAny_eqBool_int h
   ·rw [key_lr] at h; exact SeqAt.EqAt.int_str i t y u _ _ _ _ h
  ·rcases keyIs_shape hv with ⟨j, u, rfl, rfl⟩ | ⟨y, u, rfl, rfl⟩
   ·rw [key_rl] at h; exact SeqAt.EqAt.str_int x t j u _ _ _ _ h
   ·rw [key_rr] at h; exact wpAny_eqBool_str h
 «strs» := fun k x t v h => by
  rcases keyIs_shape h with ⟨i, u, rfl, e⟩ | ⟨y, u, rfl, e⟩
  ·exact nomatch e
  ·injection e with e1 _
   subst e1
   cases v <;> rfl
theorem mixKind_int (prog : Program) (w : World) (i : Int) (t : Tok) : (mixKind prog w).is (.inl i) (.int i t) = true := keyIs_int i t
theorem mixKind_str (prog : Program) (w : World) (x : Str) (t : Tok) : (mixKind prog w).is (.inr x) (.str x t) = true := keyIs_str x t
end L2
namespace L2
open PySem PySem.Spec PyProof.Rows
inductive V where
 | non | bl (b : Bool) | int (i : Int) | str (x : Str) | byt (b : Array UInt8) | flt (b : UInt64) | ref (a : Addr) | ty (n : String)
 deriving DecidableEq
def RelV : V → Value → Prop
 | .non, u => u = Value.none
 | .bl b, u => u = Value.bool b
 | .int i, u => ∃ t, u = Value.int i t
 | .str x, u => ∃ t, u = Value.str x t
 | .byt b, u => ∃ t, u = Value.bytes b t
 | .flt b, u => ∃ t, u = Value.float b t
 | .ref a, u => u = Value.ref a
 | .ty n, u => u = Value.type n
abbrev Vals : List V → List Value → Prop := Paired RelV
theorem Vals.length {xs : List V} {us : List Value} (r : Vals xs us) : xs.length = us.length := Paired.length r
theorem Vals.get : ∀ {xs : List V} {us : List Value} {i : Nat} {x : V}, Vals xs us → xs[i]? = some x → ∃ u, us[i]? = some u ∧ RelV x u
 | _, _, _, _, .nil, e => by simp at e
 | _, _, 0, _, .cons r _, e => by simp at e; subst e; exact ⟨_, rfl, r⟩
 | _, _, i + 1, x, .cons _ t, e => by
  obtain ⟨u, h1, h2⟩ := Vals.get (i := i) (x := x) t (by simpa using e)
  exact ⟨u, by simpa using h1, h2⟩
theorem Vals.set {x : V} {u : Value} (r : RelV x u) : ∀ {xs : List V} {us : List Value} (i : Nat), Vals xs us → Vals (xs.set i x) (us.set i u)
 | _, _, _, .nil => .nil
 | _, _, 0, .cons _ t => .cons r t
 | _, _, i + 1, .cons q t => .cons q (Vals.set r i t)
theorem Vals.append : ∀ {xs ys : List V} {us ws : List Value}, Vals xs us → Vals ys ws → Vals (xs ++ ys) (us ++ ws)
 | _, _, _, _, .nil, s => s
 | _, _, _, _, .cons r t, s => .cons r (Vals.append t s)
theorem Vals.take : ∀ {xs : List V} {us : List Value} (n : Nat), Vals xs us → Vals (xs.take n) (us.take n)
 | _, _, 0, _ => .nil
 | _, _, _ + 1, .nil => .nil
 | _, _, n + 1, .cons r t => .cons r (Vals.take n t)
theorem Vals.drop : ∀ {xs : List V} {us : List Value} (n : Nat), Vals xs us → Vals (xs.drop n) (us.drop n)
 | _, _, 0, r => r
 | _, _, _ + 1, .nil => .nil
 | _, _, n + 1, .cons _ t => Vals.drop n t
def RelO : Option V → Option Value → Prop
 | some v, some u => RelV v u
 | none, none => True
 | _, _ => False
def KV {κ : Type} : List (κ × V) → List (κ × Value) → Prop := Paired fun (p : κ × V) (q : κ × Value) => p.1 = q.1 ∧ RelV p.2 q.2
def kV : Key → V
 | .inl i => .int i
 | .inr x => .str x
inductive HO where
  | lst (xs : List V)
  | tup (xs : List V)
  | dK (kvs : List (Key × V)) | dT (kvs : List (List Key × V))
  | set (S : Int → Bool) (n : Nat)
  | ins (C dx : Addr) (fs : List (Str × V))
  | own (x : Addr)
  | xd (fs : List (Str × V))
  | met (f x : Addr)
  | rng (lo hi : Int)
  | frz (o : Obj) (u : HO)
  | tbl (ps : Array Value)
  | ext (φ : Heap → Prop)
abbrev Hp := Addr → Option HO
def upd (H : Hp) (a : Addr) (o : HO) : Hp := fun b => if b = a then some o else H b
theorem upd_same {H : Hp} {a : Addr} {o : HO} : upd H a o a = some o := by unfold upd; rw [if_pos rfl]
theorem upd_ne {H : Hp} {a b : Addr} {o : HO} (h : b ≠ a) : upd H a o b = H b := by unfold upd; rw [if_neg h]
theorem ne_of {H : Hp} {a b : Addr} {o u : HO} (h : H a = some o) (h' : H b = some u) (d : o ≠ u) : a ≠ b := by
 intro e; subst e; rw [h] at h'; exact d (Option.some.inj h')
theorem ne_of_none {H : Hp} {a b : Addr} {o : HO} (h : H a = some o) (h' : H b = none) : a ≠ b := by
 intro e; subst e; rw [h] at h'; cases h'
section
variable (P : Program) (w : World)
def ObjOk (H : Hp) (h : Heap) (a : Addr) : HO → Prop
 | .lst xs => xs.length ≤ sizeLine ∧ ∃ (its : List Value) (n : Nat), Vals xs its ∧ h.get? a = some { cls := .type "list", data := .seq its.toArray n }
 | .tup xs => xs.length ≤ sizeLine ∧ ∃ its : List Value, Vals xs its ∧ IsTup h a its.toArray
 | .dK kvs => kvs.length ≤ sizeLine ∧ (a == sysModules) = false ∧ ∃ vs, KV kvs vs ∧ h.DictOf (mixKind P w) a vs
 | .dT kvs => kvs.length ≤ sizeLine ∧ (a == sysModules) = false ∧ ∃ xs : List (List Key × Addr × Value),
   Paired (fun (p : List Key × V) (q : List Key × Addr × Value) => p.1 = q.1 ∧ H q.2.1 = some (.tup (p.1.map kV)) ∧ RelV p.2 q.2.2) kvs xs ∧
   ∃ o es ep, h.get? a = some o ∧ o.ExactDict ∧ o.data = .dict es ep ∧ es.toList = xs.map (entryOfKey (tupleKind (mixKind P w))) ∧ (xs.map (·.1)).Nodup
 | .set S n => h.SetOf (intKind P w) a S n
 | .ins C dx fs => H dx = some (.own a) ∧ fs.length ≤ 1000 ∧ dx ≠ a ∧ h.get? a = some (PySem.W.instObj C dx) ∧
   ∃ mA, h.Ns1 dx mA ∧ (∀ f, RelO (fs.lookup f) (mA f)) ∧ PySem.Within mA (fs.map (·.1))
 | .own _ => ∃ o, h.get? a = some o
 | .xd fs => ∃ mA, h.Ns1 a mA ∧ ∀ f, RelO (fs.lookup f) (mA f)
 | .rng lo hi => ∃ t u v, h.get? a = some { cls := .type "range", data := .fields #[.int lo t, .int hi u, .int 1 v] }
 | .frz o u => h.get? a = some o ∧ ObjOk H h a u
 | .tbl ps => h.get? a = some { cls := .none, data := .fields ps }
 | .met f x => h.get? a = some (PySem.W.methodObj (.ref f) (.ref x))
 | .ext φ => φ h ∧ (∃ o, h.get? a = some o) ∧ ∀ h1 h2 : Heap, φ h1 → (∀ o, h1.get? a = some o → h2.get? a = some o) → φ h2
def HOk (H : Hp) (h : Heap) : Prop := ∀ a o, H a = some o → ObjOk P w H h a o
end
section
variable {P : Program} {w : World} {H H' : Hp} {h h' : Heap} {a : Addr} {o : HO}
theorem ObjOk.lt (x : ObjOk P w H h a o) : a < h.objs.size := by
 cases o with
 | lst xs => obtain ⟨_, _, _, _, e⟩ := x; exact Heap.lt_size e
 | tup xs => obtain ⟨_, _, _, p⟩ := x; exact p.lt
 | dK kvs => obtain ⟨_, _, _, _, o, _, _, e, _⟩ := x; exact Heap.lt_size e
 | dT kvs => obtain ⟨_, _, _, _, o, _, _, e, _⟩ := x; exact Heap.lt_size e
 | set S n => obtain ⟨o, _, _, _, e, _⟩ := x; exact Heap.lt_size e
 | ins C dx fs => obtain ⟨_, _, _, e, _⟩ := x; exact Heap.lt_size e
 | own y => obtain ⟨_, e⟩ := x; exact Heap.lt_size e
 | xd fs => obtain ⟨_, ⟨_, _, _, e, _⟩, _⟩ := x; exact Heap.lt_size e
 | rng lo hi => obtain ⟨_, _, _, e⟩ := x; exact Heap.lt_size e
 | frz ob u => obtain ⟨e, _⟩ := x; exact Heap.lt_size e
 | tbl ps => exact Heap.lt_size (show h.get? a = some _ from x)
 | met f y => exact Heap.lt_size (show h.get? a = some _ from x)
 | ext φ => obtain ⟨_, ⟨_, e⟩, _⟩ := x; exact Heap.lt_size e
theorem Paired.mapP {α β : Type} {F G : α → β → Prop} : ∀ {l₁ : List α} {l₂ : List β}, Paired F l₁ l₂ → (∀ a b, F a b → G a b) → Paired G l₁ l₂
 | _, _, .nil, _ => .nil
 | _, _, .cons r t, f => .cons (f _ _ r) (Paired.mapP t f)
theorem ObjOk.stay (x : ObjOk P w H h a o) (k : ∀ b u, (b = a ∨ H b = some (.own a)) → h.get? b = some u → h'.get? b = some u)
  (ho : ∀ b, H b = some (.own a) → H' b = some (.own a)) (ht : ∀ b xs, H b = some (.tup xs) → H' b = some (.tup xs)) : ObjOk P w H' h' a o := by
 induction o with
 | lst xs => obtain ⟨z, its, n, r, e⟩ := x; exact ⟨z, its, n, r, k _ _ (.inl rfl) e⟩
 | tup xs => obtain ⟨z, its, r, ob, e, c⟩ := x; exact ⟨z, its, r, ob, k _ _ (.inl rfl) e, c⟩
 | dK kvs => obtain ⟨z, y, vs, r, ob, es, ep, e, c⟩ := x; exact ⟨z, y, vs, r, ob, es, ep, k _ _ (.inl rfl) e, c⟩
 | dT kvs =>
  obtain ⟨z, y, xs, r, ob, es, ep, e, c⟩ := x
  exact ⟨z, y, xs, Paired.mapP r fun p q z => ⟨z.1, ht _ _ z.2.1, z.2.2⟩, ob, es, ep, k _ _ (.inl rfl) e, c⟩
 | set S n => obtain ⟨ob, es, ep, t, e, c⟩ := x; exact ⟨ob, es, ep, t, k _ _ (.inl rfl) e, c⟩
 | ins C dx fs =>
  obtain ⟨d, z, ne, e, mA, ⟨od, es, ep, e2, c⟩, r⟩ := x
  exact ⟨ho _ d, z, ne, k _ _ (.inl rfl) e, mA, ⟨od, es, ep, k _ _ (.inr d) e2, c⟩, r⟩
 | own y => obtain ⟨ob, e⟩ := x; exact ⟨ob, k _ _ (.inl rfl) e⟩
 | xd fs => obtain ⟨mA, ⟨od, es, ep, e, c⟩, r⟩ := x; exact ⟨mA, ⟨od, es, ep, k _ _ (.inl rfl) e, c⟩, r⟩
 | rng lo hi => obtain ⟨t, u, v, e⟩ := x; exact ⟨t, u, v, k _ _ (.inl rfl) e⟩
 | frz ob u ih => obtain ⟨e, q⟩ := x; exact ⟨k _ _ (.inl rfl) e, ih q⟩
 | tbl ps =>
  have e : h.get? a = some { cls := .none, data := .fields ps } := x
  show h'.get? a = some { cls := .none, data := .fields ps }
  exact k a _ (.inl rfl) e
 | met f y =>
  have e : h.get? a = some (PySem.W.methodObj (.ref f) (.ref y)) := x
  show h'.get? a = some (PySem.W.methodObj (.ref f) (.ref y))
  exact k a _ (.inl rfl) e
 | ext φ => obtain ⟨p, ⟨o, e⟩, st⟩ := x; exact ⟨st _ _ p fun o q => k _ _ (.inl rfl) q, ⟨o, k _ _ (.inl rfl) e⟩, st⟩
theorem HOk.lt (x : HOk P w H h) (e : H a = some o) : a < h.objs.size := (x a o e).lt
theorem HOk.fresh (x : HOk P w H h) (e : h.objs.size ≤ a) : H a = none := by
 cases q : H a with
 | none => rfl
 | some u => exact absurd (Nat.lt_of_lt_of_le (x.lt q) e) (Nat.lt_irrefl _)
theorem HOk.kept (x : HOk P w H h) (k : ∀ b u, h.get? b = some u → h'.get? b = some u) : HOk P w H h' := fun a o e =>
 (x a o e).stay (fun b u _ q => k b u q) (fun _ q => q) fun _ _ q => q
theorem HOk.laid (x : HOk P w H h) (k : ∀ b u, h.get? b = some u → h'.get? b = some u) (hp : h.objs.size ≤ a) (new : ObjOk P w (upd H a o) h' a o) : HOk P w (upd H a o) h' := fun b u e => by
 have hn := x.fresh hp
 by_cases hb : b = a
 ·subst hb; rw [upd_same] at e; cases e; exact new
 ·rw [upd_ne hb] at e
  exact (x b u e).stay (fun c v _ q => k c v q) (fun c q => by rw [upd_ne (ne_of_none q hn)]; exact q) fun c xs q => by rw [upd_ne (ne_of_none q hn)]; exact q
end
def Rd (H : Hp) (a : Addr) (u : HO) : Prop := H a = some u ∨ ∃ o, H a = some (.frz o u)
theorem Rd.ok {P : Program} {w : World} {H : Hp} {h : Heap} {a : Addr} {u : HO} (r : Rd H a u) (x : HOk P w H h) : ObjOk P w H h a u := by
 rcases r with r | ⟨o, r⟩
 ·exact x a u r
 ·obtain ⟨_, q⟩ := x a _ r
  exact q
def Mut : Option HO → Prop
 | some (.lst _) => True
 | some (.dK _) => True
 | some (.dT _) => True
 | some (.set _ _) => True
 | some (.ins _ _ _) => True
 | some (.ext _) => True
 | _ => False
section
variable {P : Program} {w : World} {H : Hp} {h h' : Heap} {x e : Addr} {o' : HO}
theorem HOk.write (ok : HOk P w H h) (mu : Mut (H x)) (he : e = x ∨ H e = some (.own x)) (k : ∀ b u, b ≠ e → h.get? b = some u → h'.get? b = some u) (heo : ∃ u, h'.get? e = some u)
  (new : ObjOk P w (upd H x o') h' x o') : HOk P w (upd H x o') h' := fun b u q => by
 have nown : ∀ c y, H c = some (.own y) → c ≠ x := fun c y r z => by subst z; rw [r] at mu; exact mu
 have ntup : ∀ c xs, H c = some (.tup xs) → c ≠ x := fun c xs r z => by subst z; rw [r] at mu; exact mu
 by_cases hb : b = x
 ·subst hb; rw [upd_same] at q; cases q; exact new
 ·rw [upd_ne hb] at q
  by_cases hbe : b = e
  ·have q' : H b = some (.own x) := by
    rcases he with z | z
    ·exact absurd (hbe.trans z) hb
    ·rw [hbe]; exact z
   rw [q] at q'; cases q'
   obtain ⟨v, hv⟩ := heo
   exact ⟨v, by rw [hbe]; exact hv⟩
  ·refine (ok b u q).stay (fun c v hc r => k c v ?_ r) (fun c r => by rw [upd_ne (nown c b r)]; exact r) fun c xs r => by rw [upd_ne (ntup c xs r)]; exact r
   rcases hc with rfl | hc
   ·exact hbe
   ·rintro rfl
    rcases he with z | z
    ·exact nown c b hc z
    ·rw [hc] at z; cases z; exact hb rfl
end
structure Un (fs ex : List Addr) (H H' : Hp) (h h' : Heap) : Prop where
 keep : ∀ b o, h.get? b = some o → H b = none → b ∉ fs → b ∉ ex → h'.get? b = some o
 slot : ∀ b o, h.get? b = some o → H b = none → b ∈ fs → b ∉ ex → ∃ sl, h'.get? b = some { o with slots := sl }
 free : ∀ b o, h.get? b = some o → H b = none → b ∉ ex → H' b = none
 there : ∀ b o, h.get? b = some o → b ∉ ex → ∃ o', h'.get? b = some o'
 tups : ∀ b xs, H b = some (.tup xs) → H' b = some (.tup xs)
 frzs : ∀ b o u, H b = some (.frz o u) → H' b = some (.frz o u)
 tbls : ∀ b ps, H b = some (.tbl ps) → ∃ more, H' b = some (.tbl (ps ++ more))
section
variable {fs fs' ex ex' : List Addr} {H H1 H2 : Hp} {h h1 h2 h' : Heap} {a x e : Addr} {o : HO}
theorem Un.any (u : Un fs ex H H1 h h1) {b : Addr} {ob : Obj} (q : h.get? b = some ob) (n : H b = none) (hx : b ∉ ex) : ∃ sl, h1.get? b = some { ob with slots := sl } := by
 by_cases hb : b ∈ fs
 ·exact u.slot b ob q n hb hx
 ·exact ⟨ob.slots, u.keep b ob q n hb hx⟩
theorem Un.trans (a : Un fs ex H H1 h h1) (b : Un fs ex H1 H2 h1 h2) : Un fs ex H H2 h h2 where
 keep := fun c ob q n hc hx => b.keep c ob (a.keep c ob q n hc hx) (a.free c ob q n hx) hc hx
 slot := fun c ob q n hc hx => by
  obtain ⟨sl, e1⟩ := a.slot c ob q n hc hx
  obtain ⟨sl', e2⟩ := b.slot c _ e1 (a.free c ob q n hx) hc hx
  exact ⟨sl', e2⟩
 free := fun c ob q n hx => by
  obtain ⟨o', e1⟩ := a.there c ob q hx
  exact b.free c o' e1 (a.free c ob q n hx) hx
 there := fun c ob q hx => by
  obtain ⟨o', e1⟩ := a.there c ob q hx
  exact b.there c o' e1 hx
 tups := fun c xs q => b.tups c xs (a.tups c xs q)
 frzs := fun c ob xs q => b.frzs c ob xs (a.frzs c ob xs q)
 tbls := fun c ps q => by
  obtain ⟨m1, e1⟩ := a.tbls c ps q
  obtain ⟨m2, e2⟩ := b.tbls c _ e1
  exact ⟨m1 ++ m2, by rw [e2, Array.append_assoc]⟩
theorem Un.kept (k : ∀ b u, h.get? b = some u → h'.get? b = some u) : Un fs ex H H h h' :=
 ⟨fun b ob q _ _ _ => k b ob q, fun b ob q _ _ _ => ⟨ob.slots, k b ob q⟩, fun _ _ _ n _ => n, fun b ob q _ => ⟨ob, k b ob q⟩, fun _ _ q => q, fun _ _ _ q => q, fun _ ps q => ⟨#[], by rw [q]; simp⟩⟩
theorem Un.refl : Un fs ex H H h h := Un.kept fun _ _ q => q
theorem Un.laid (k : ∀ b u, h.get? b = some u → h'.get? b = some u) (hp : h.objs.size ≤ a) (hn : H a = none) : Un fs ex H (upd H a o) h h' where
 keep := fun b u q _ _ _ => k b u q
 slot := fun b u q _ _ _ => ⟨u.slots, k b u q⟩
 free := fun b u q n _ => by rw [upd_ne (Nat.ne_of_lt (Nat.lt_of_lt_of_le (Heap.lt_size q) hp))]; exact n
 there := fun b u q _ => ⟨u, k b u q⟩
 tups := fun b xs q => by rw [upd_ne (ne_of_none q hn)]; exact q
 frzs := fun b u xs q => by rw [upd_ne (ne_of_none q hn)]; exact q
 tbls := fun b ps q => ⟨#[], by rw [upd_ne (ne_of_none q hn), q]; simp⟩
theorem Un.write (mu : Mut (H x)) (he : e = x ∨ H e = some (.own x)) (k : ∀ b u, b ≠ e → h.get? b = some u → h'.get? b = some u) (heo : ∃ u, h'.get? e = some u) : Un fs ex H (upd H x o) h h' := by
 have hx : ∀ b, H b = none → b ≠ x := fun b n z => by subst z; rw [n] at mu; exact mu
 have hb : ∀ b, H b = none → b ≠ e := fun b n z => by
  subst z
  rcases he with r | r
  ·exact hx b n r
  ·rw [n] at r; cases r
 have hm : ∀ b u, H b = some u → ¬ Mut (some u) → b ≠ x := fun b u q nm z => by subst z; rw [q] at mu; exact nm mu
 refine ⟨fun b u q n _ _ => k b u (hb b n) q, fun b u q n _ _ => ⟨u.slots, k b u (hb b n) q⟩, fun b u q n _ => by rw [upd_ne (hx b n)]; exact n, fun b u q _ => ?_,
  fun b xs q => by rw [upd_ne (hm b _ q fun z => z)]; exact q, fun b u xs q => by rw [upd_ne (hm b _ q fun z => z)]; exact q, fun b ps q => ⟨#[], by rw [upd_ne (hm b _ q fun z => z), q]; simp⟩⟩
 by_cases hbe : b = e
 ·subst hbe; exact heo
 ·exact ⟨u, k b u hbe q⟩
end
def trk (h : Heap) (H : Hp) : List Addr := (List.range h.objs.size).filter fun a => (H a).isSome
def hidT (h : Heap) (H : Hp) : Heap := PySem.W.hideAll h (trk h H)
theorem hidT_size (h : Heap) (H : Hp) : (hidT h H).objs.size = h.objs.size := PySem.W.hideAll_size _ _
theorem hidT_get {h : Heap} {H : Hp} {b : Addr} {o : Obj} (e : h.get? b = some o) (n : H b = none) : (hidT h H).get? b = some o :=
 PySem.W.hideAll_get _ e fun hm => by
  have q : (H b).isSome = true := (List.mem_filter.mp hm).2
  rw [n] at q; simp at q
theorem of_hidT {h : Heap} {H : Hp} {b : Addr} {o : Obj} (e : (hidT h H).get? b = some o) : h.get? b = some o ∧ H b = none := by
 have e' : h.get? b = some o := PySem.W.of_hideAll (trk h H) e
 refine ⟨e', ?_⟩
 cases q : H b with
 | none => rfl
 | some x =>
  have hm : b ∈ trk h H := List.mem_filter.mpr ⟨List.mem_range.mpr (Heap.lt_size e'), by simp [q]⟩
  have z : (hidT h H).get? b = none := PySem.W.hideAll_none (trk h H) hm
  rw [z] at e; cases e
end L2
namespace L2
open PySem PySem.Spec PyProof.Rows
structure Mod (K : PySem.W.Frag) (mg : Str → Option Value) (base : Heap) : Prop where
 kin : K.In base
 glob : base.Ns mainGlobals mg
 blt : ∃ mb, base.Ns builtinsNs mb ∧ ∀ x : Str, x ≠ "__name__" → mb x = bootBuiltins x
 nolimit : base.NoLimit
structure Cx where
 prog : Program
 w : World
 K : PySem.W.Frag
 mg : Str → Option Value
 base : Heap
 A : Around
 N : List Str
 s₀ : Shared
 H₀ : Hp
 env : Env
 outer : List Env
 stack : List Env
 ex : List Addr
 fn : Str → Bool
 calm : Bool
 pn : List (Addr × Obj)
 xe : Value → Shared → Prop
def frs (l : List Env) : List Addr := l.filterMap (·.frame)
abbrev Cx.fs (X : Cx) : List Addr := frs X.outer
def Vis (sc : Scope) (x : Str) : Prop := sc.names.lookup x = some .local ∨ sc.names.lookup x = some .cell ∨ sc.names.lookup x = some .free
def Loc (sc : Scope) (x : Str) : Prop := sc.names.lookup x = some .local ∨ sc.names.lookup x = some .cell
def Look (env : Env) (h : Heap) (m : Str → Option Value) (x : Str) (u : Value) : Prop :=
 (env.kindOf x = some .local ∧ m x = some u) ∨ ((env.kindOf x = some .cell ∨ env.kindOf x = some .free) ∧ ∃ c, env.cells.lookup x = some c ∧ h.IsCell c (some u))
structure Cx.Ok (X : Cx) : Prop where
 mod : Mod X.K X.mg X.base
 kind : X.env.scope.kind = .function
 glob : X.env.globals = mainGlobals
 blt : X.env.builtins = builtinsNs
 above : X.s₀.heap.objs.size ≤ X.env.locals
 inj : ∀ x y c, X.env.cells.lookup x = some c → X.env.cells.lookup y = some c → x = y
 has : ∀ x, (X.env.kindOf x = some .cell ∨ X.env.kindOf x = some .free) → ∃ c, X.env.cells.lookup x = some c
 cab : ∀ x c, X.fn x = true → X.env.cells.lookup x = some c → X.s₀.heap.objs.size ≤ c
 hd : X.calm = true → X.A.handled = none
 frames : X.A.frames = some X.stack
 stk : X.stack = X.outer ∨ (X.stack = X.env :: X.outer ∧ X.env.frame = some X.env.locals)
 exf : ∀ b ∈ X.ex, b ≠ X.env.locals ∧ ∀ x c, X.env.cells.lookup x = some c → c ≠ b
 bs : ∀ b o, X.base.get? b = some o → X.s₀.heap.get? b = some o ∧ X.H₀ b = none
 bsz : X.base.objs.size ≤ X.s₀.heap.objs.size
 noex : ∀ b o, X.base.get? b = some o → b ∉ X.ex
 exfs : ∀ b ∈ X.ex, b ∉ X.fs
 funs : X.s₀.heap.FunFrames X.base X.outer
 frf : ∀ b ∈ X.fs, X.H₀ b = none
structure Inv (X : Cx) (pins : List (Addr × Obj)) (σ : List (Option V)) (H : Hp) (s : Shared) : Prop where
 ok : X.Ok
 os : s.os = X.s₀.os
 bare : AllBare s.gens
 base : Un X.fs X.ex X.H₀ H X.s₀.heap s.heap
 loc : ∃ m, s.heap.Ns X.env.locals m ∧ ∀ (i : Nat) (x : Str) (v : V), X.N[i]? = some x → σ[i]? = some (some v) → Vis X.env.scope x → ∃ u, RelV v u ∧ Look X.env s.heap m x u
 cell : ∀ x c, X.env.cells.lookup x = some c → ∃ v, s.heap.IsCell c v
 free : H X.env.locals = none
 freeC : ∀ x c, X.env.cells.lookup x = some c → H c = none
 pin : ∀ p ∈ X.pn ++ pins, s.heap.get? p.1 = some p.2 ∧ H p.1 = none ∧ p.1 ≠ X.env.locals ∧ p.1 ∉ X.fs ∧ ∀ v, p.2.data ≠ .cell v
 hok : HOk X.prog X.w H s.heap
 len : σ.length = X.N.length
section
variable {X : Cx} {pins : List (Addr × Obj)} {σ : List (Option V)} {H H' : Hp} {s : Shared} {h' : Heap}
theorem Cx.Ok.nofr (ok : X.Ok) {b : Addr} {o : Obj} (e : X.base.get? b = some o) : b ∉ X.fs := fun hb => by
 have := (ok.funs.mem hb).1
 rw [e] at this; cases this
theorem Inv.bs (I : Inv X pins σ H s) : ∀ b o, X.base.get? b = some o → s.heap.get? b = some o ∧ H b = none := fun b o e =>
 ⟨I.base.keep b o (I.ok.bs b o e).1 (I.ok.bs b o e).2 (I.ok.nofr e) (I.ok.noex b o e), I.base.free b o (I.ok.bs b o e).1 (I.ok.bs b o e).2 (I.ok.noex b o e)⟩
theorem Inv.bk (I : Inv X pins σ H s) : ∀ b o, X.base.get? b = some o → s.heap.get? b = some o := fun b o e => (I.bs b o e).1
theorem Inv.mod (I : Inv X pins σ H s) : Mod X.K X.mg X.base := I.ok.mod
theorem Inv.kIn (I : Inv X pins σ H s) : X.K.In s.heap := I.ok.mod.kin.keeps I.bk
theorem Inv.lt (I : Inv X pins σ H s) : X.env.locals < s.heap.objs.size := let ⟨_, hn, _⟩ := I.loc; hn.lt
theorem Inv.sz (I : Inv X pins σ H s) : X.s₀.heap.objs.size ≤ s.heap.objs.size := Nat.le_trans I.ok.above (Nat.le_of_lt I.lt)
theorem Inv.nofs (I : Inv X pins σ H s) {a : Addr} (h : s.heap.objs.size ≤ a) : a ∉ X.fs := fun hb => by
 obtain ⟨_, o, ho, _⟩ := I.ok.funs.mem hb
 exact absurd (Nat.lt_of_lt_of_le (Heap.lt_size ho) (Nat.le_trans I.sz h)) (Nat.lt_irrefl _)
theorem Inv.cne (I : Inv X pins σ H s) : ∀ x c, X.env.cells.lookup x = some c → c ≠ X.env.locals := fun x c e z => by
 obtain ⟨v, o, ho, hd⟩ := I.cell x c e
 obtain ⟨m, ⟨o', es, ep, ho', hd', _⟩, _⟩ := I.loc
 rw [z, ho'] at ho; cases ho; rw [hd'] at hd; cases hd
theorem Inv.funs (I : Inv X pins σ H s) : s.heap.FunFrames X.base X.outer := by
 have all : ∀ (l : List Env), (∀ b ∈ frs l, b ∈ X.fs) → X.s₀.heap.FunFrames X.base l → s.heap.FunFrames X.base l := by
  intro l
  induction l with
  | nil => intro _ _; trivial
  | cons env r ih =>
   intro hs hl
   obtain ⟨hk, ⟨L, o, hf, hn, ho, hd⟩, hr⟩ := hl
   have hL : L ∈ X.fs := hs L (by unfold frs; rw [List.filterMap_cons, hf]; exact List.mem_cons_self)
   obtain ⟨sl, e⟩ := I.base.slot L o ho (I.ok.frf L hL) hL fun z => I.ok.exfs L z hL
   exact ⟨hk, ⟨L, _, hf, hn, e, hd⟩, ih (fun b hb => hs b (by unfold frs; rw [List.filterMap_cons, hf]; exact List.mem_cons_of_mem _ hb)) hr⟩
 exact all X.outer (fun _ hb => hb) I.ok.funs
theorem Inv.stack (I : Inv X pins σ H s) : s.heap.FunFrames X.base X.stack := by
 rcases I.ok.stk with e | ⟨e, hf⟩
 ·rw [e]; exact I.funs
 ·rw [e]
  obtain ⟨m, hn, _⟩ := I.loc
  refine .cons (by rw [I.ok.kind]; decide) hf hn ?_ I.funs
  exact Heap.get?_none_of_le (Nat.le_trans I.ok.bsz I.ok.above)
theorem Inv.stkSub (I : Inv X pins σ H s) : ∀ b ∈ frs X.stack, b ∈ X.env.locals :: X.fs := fun b hb => by
 rcases I.ok.stk with e | ⟨e, hf⟩
 ·rw [e] at hb; exact List.mem_cons_of_mem _ hb
 ·rw [e] at hb
  unfold frs at hb
  rw [List.filterMap_cons, hf] at hb
  exact hb
theorem Inv.stkFree (I : Inv X pins σ H s) : ∀ b ∈ frs X.stack, H b = none := fun b hb => by
 rcases List.mem_cons.mp (I.stkSub b hb) with e | hb
 ·rw [e]; exact I.free
 ·obtain ⟨_, o, ho, _⟩ := I.ok.funs.mem hb
  exact I.base.free b o ho (I.ok.frf b hb) fun z => I.ok.exfs b z hb
theorem Inv.step {g' : Array GenState} {t' : Nat} {d' : Drawn} {ch : List Addr} (I : Inv X pins σ H s)
  (hch : ∀ b ∈ ch, (b ∈ X.ex ∨ X.s₀.heap.objs.size ≤ b) ∧ b ≠ X.env.locals ∧ (∀ x c, X.env.cells.lookup x = some c → c ≠ b) ∧ ∀ p ∈ X.pn ++ pins, p.1 ≠ b)
  (keep : ∀ b o, b ≠ X.env.locals → b ∉ X.fs → b ∉ ch → s.heap.get? b = some o → H b = none → h'.get? b = some o)
  (slot : ∀ b o, b ≠ X.env.locals → b ∈ X.fs → b ∉ ch → s.heap.get? b = some o → H b = none → ∃ sl, h'.get? b = some { o with slots := sl }) (free : ∀ b o, b ∉ ch → s.heap.get? b = some o → H b = none → H' b = none)
  (there : ∀ b o, b ∉ ch → s.heap.get? b = some o → ∃ o', h'.get? b = some o')
  (tups : ∀ b xs, H b = some (.tup xs) → H' b = some (.tup xs)) (frzs : ∀ b o u, H b = some (.frz o u) → H' b = some (.frz o u)) (tbls : ∀ b ps, H b = some (.tbl ps) → ∃ more, H' b = some (.tbl (ps ++ more)))
  (ns : ∀ m, s.heap.Ns X.env.locals m → h'.Ns X.env.locals m) (hok : HOk X.prog X.w H' h') (hg : AllBare g') :
  Inv X pins σ H' { s with heap := h', gens := g', drawn := d', toks := t' } := by
 have neL : ∀ b o, X.s₀.heap.get? b = some o → b ≠ X.env.locals := fun b o e => Nat.ne_of_lt (Nat.lt_of_lt_of_le (Heap.lt_size e) I.ok.above)
 have neC : ∀ b o, X.s₀.heap.get? b = some o → b ∉ X.ex → b ∉ ch := fun b o e hx hb => by
  rcases (hch b hb).1 with z | z
  ·exact hx z
  ·exact absurd (Nat.lt_of_lt_of_le (Heap.lt_size e) z) (Nat.lt_irrefl _)
 have cellK : ∀ x c, X.env.cells.lookup x = some c → ∀ v, s.heap.IsCell c v → h'.IsCell c v := fun x c e v ⟨o, ho, hd⟩ => by
  have nch : c ∉ ch := fun z => (hch c z).2.2.1 x c e rfl
  by_cases hc : c ∈ X.fs
  ·obtain ⟨sl, q⟩ := slot c o (I.cne x c e) hc nch ho (I.freeC x c e)
   exact ⟨_, q, hd⟩
  ·exact ⟨o, keep c o (I.cne x c e) hc nch ho (I.freeC x c e), hd⟩
 refine ⟨I.ok, I.os, hg, ⟨fun b o e n hb hx => ?_, fun b o e n hb hx => ?_, fun b o e n hx => ?_, fun b o e hx => ?_, fun b xs e => tups b xs (I.base.tups b xs e), fun b o xs e => frzs b o xs (I.base.frzs b o xs e), fun b ps e => ?_⟩, ?_, fun x c e => ?_, ?_, fun x c e => ?_, fun p hp => ?_, hok, I.len⟩
 ·exact keep b o (neL b o e) hb (neC b o e hx) (I.base.keep b o e n hb hx) (I.base.free b o e n hx)
 ·obtain ⟨sl, e1⟩ := I.base.slot b o e n hb hx
  obtain ⟨sl', e2⟩ := slot b _ (neL b o e) hb (neC b o e hx) e1 (I.base.free b o e n hx)
  exact ⟨sl', e2⟩
 ·obtain ⟨o', e1⟩ := I.base.there b o e hx
  exact free b o' (neC b o e hx) e1 (I.base.free b o e n hx)
 ·obtain ⟨o', e1⟩ := I.base.there b o e hx
  exact there b o' (neC b o e hx) e1
 ·obtain ⟨m1, e1⟩ := I.base.tbls b ps e
  obtain ⟨m2, e2⟩ := tbls b _ e1
  exact ⟨m1 ++ m2, by rw [e2, Array.append_assoc]⟩
 ·obtain ⟨m, hn, hl⟩ := I.loc
  refine ⟨m, ns m hn, fun i x v e1 e2 e3 => ?_⟩
  obtain ⟨u, r, l⟩ := hl i x v e1 e2 e3
  refine ⟨u, r, ?_⟩
  rcases l with l | ⟨k, c, e, z⟩
  ·exact .inl l
  ·exact .inr ⟨k, c, e, cellK x c e _ z⟩
 ·obtain ⟨v, z⟩ := I.cell x c e
  exact ⟨v, cellK x c e v z⟩
 ·obtain ⟨m, ⟨o, _, _, ho, _⟩, _⟩ := I.loc
  exact free _ o (fun z => (hch _ z).2.1 rfl) ho I.free
 ·obtain ⟨v, o, ho, hd⟩ := I.cell x c e
  exact free c o (fun z => (hch c z).2.2.1 x c e rfl) ho (I.freeC x c e)
 ·obtain ⟨e, n, ne, nf, d⟩ := I.pin p hp
  have nch : p.1 ∉ ch := fun z => (hch p.1 z).2.2.2 p hp rfl
  exact ⟨keep p.1 p.2 ne nf nch e n, free p.1 p.2 nch e n, ne, nf, d⟩
theorem Inv.un {t' : Nat} (I : Inv X pins σ H s) (u : Un X.fs [] H H' s.heap h') (hok : HOk X.prog X.w H' h') : Inv X pins σ H' { s with heap := h', toks := t' } := by
 obtain ⟨m, ⟨o, es, ep, ho, r⟩, _⟩ := id I.loc
 obtain ⟨sl, hL⟩ := u.any ho I.free (by simp)
 exact I.step (g' := s.gens) (d' := s.drawn) (ch := []) (fun _ z => nomatch z) (fun b o _ hb _ e n => u.keep b o e n hb (by simp)) (fun b o _ hb _ e n => u.slot b o e n hb (by simp)) (fun b o _ e n => u.free b o e n (by simp)) (fun b o _ e => u.there b o e (by simp)) u.tups u.frzs u.tbls (fun m' hm => by
  obtain ⟨o', es', ep', ho', r'⟩ := hm
  rw [ho] at ho'; cases ho'
  exact ⟨_, es', ep', hL, r'⟩) hok I.bare
theorem Inv.call {g' : Array GenState} {t' : Nat} {d' : Drawn} {ch : List Addr} (I : Inv X pins σ H s) (u : Un (frs X.stack) ch H H' s.heap h') (hok : HOk X.prog X.w H' h') (hg : AllBare g')
  (hch : ∀ b ∈ ch, (b ∈ X.ex ∨ X.s₀.heap.objs.size ≤ b) ∧ b ≠ X.env.locals ∧ (∀ x c, X.env.cells.lookup x = some c → c ≠ b) ∧ ∀ p ∈ X.pn ++ pins, p.1 ≠ b) :
  Inv X pins σ H' { s with heap := h', gens := g', drawn := d', toks := t' } := by
 obtain ⟨m, ⟨o, es, ep, ho, r⟩, _⟩ := id I.loc
 obtain ⟨sl, hL⟩ := u.any ho I.free fun z => (hch _ z).2.1 rfl
 exact I.step (ch := ch) hch (fun b o hL hb hc e n => u.keep b o e n (fun z => (List.mem_cons.mp (I.stkSub b z)).elim hL hb) hc) (fun b o _ _ hc e n => u.any e n hc) (fun b o hc e n => u.free b o e n hc) (fun b o hc e => u.there b o e hc) u.tups u.frzs u.tbls (fun m' hm => by
  obtain ⟨o', es', ep', ho', r'⟩ := hm
  rw [ho] at ho'; cases ho'
  exact ⟨_, es', ep', hL, r'⟩) hok hg
theorem Inv.turned {t' : Nat} {it : Addr} (I : Inv X pins σ H s) (k : ∀ b o, b ≠ it → s.heap.get? b = some o → h'.get? b = some o) (hn : H it = none) (hL : it ≠ X.env.locals)
  (h1 : it ∈ X.ex ∨ X.s₀.heap.objs.size ≤ it) (h2 : ∀ x c, X.env.cells.lookup x = some c → c ≠ it) (h3 : ∀ p ∈ X.pn ++ pins, p.1 ≠ it) : Inv X pins σ H { s with heap := h', toks := t' } := by
 have nit : ∀ b u, H b = some u → b ≠ it := fun b u e z => by rw [z, hn] at e; cases e
 refine I.step (g' := s.gens) (d' := s.drawn) (ch := [it]) (fun b hb => ?_) (fun b o _ _ hc e _ => k b o (fun z => hc (by simp [z])) e) (fun b o _ _ hc e _ => ⟨o.slots, k b o (fun z => hc (by simp [z])) e⟩) (fun _ _ _ _ n => n)
  (fun b o hc e => ⟨o, k b o (fun z => hc (by simp [z])) e⟩) (fun _ _ e => e) (fun _ _ _ e => e) (fun b ps e => ⟨#[], by rw [e]; simp⟩) (fun m hm => ?_) (fun b u e => ?_) I.bare
 ·have e : b = it := by simpa using hb
  subst e
  exact ⟨h1, hL, h2, h3⟩
 ·obtain ⟨o, es, ep, ho, r⟩ := hm
  exact ⟨o, es, ep, k _ o (Ne.symm hL) ho, r⟩
 ·refine (I.hok b u e).stay (fun c v hc q => k c v ?_ q) (fun _ q => q) fun _ _ q => q
  rcases hc with z | z
  ·rw [z]; exact nit b u e
  ·exact nit c _ z
theorem Inv.tok (I : Inv X pins σ H s) (t : Nat) : Inv X pins σ H { s with toks := t } := I.un (h' := s.heap) (t' := t) Un.refl I.hok
theorem Inv.kept {t' : Nat} (I : Inv X pins σ H s) (k : ∀ b u, s.heap.get? b = some u → h'.get? b = some u) : Inv X pins σ H { s with heap := h', toks := t' } := I.un (Un.kept k) (I.hok.kept k)
theorem Inv.laid {a : Addr} {o : HO} {t' : Nat} (I : Inv X pins σ H s) (k : ∀ b u, s.heap.get? b = some u → h'.get? b = some u) (hp : s.heap.objs.size ≤ a) (new : ObjOk X.prog X.w (upd H a o) h' a o) :
  Inv X pins σ (upd H a o) { s with heap := h', toks := t' } := I.un (Un.laid k hp (I.hok.fresh hp)) (I.hok.laid k hp new)
theorem Inv.write {x e : Addr} {o : HO} {t' : Nat} (I : Inv X pins σ H s) (mu : Mut (H x)) (he : e = x ∨ H e = some (.own x)) (k : ∀ b u, b ≠ e → s.heap.get? b = some u → h'.get? b = some u) (heo : ∃ u, h'.get? e = some u)
  (new : ObjOk X.prog X.w (upd H x o) h' x o) : Inv X pins σ (upd H x o) { s with heap := h', toks := t' } := I.un (Un.write mu he k heo) (I.hok.write mu he k heo new)
theorem Inv.pins_of {pins' : List (Addr × Obj)} (I : Inv X pins σ H s) (h : ∀ p ∈ pins', s.heap.get? p.1 = some p.2 ∧ H p.1 = none ∧ p.1 ≠ X.env.locals ∧ p.1 ∉ X.fs ∧ ∀ v, p.2.data ≠ .cell v) : Inv X pins' σ H s :=
 ⟨I.ok, I.os, I.bare, I.base, I.loc, I.cell, I.free, I.freeC, fun p hp => (List.mem_append.mp hp).elim (fun z => I.pin p (List.mem_append_left _ z)) (h p), I.hok, I.len⟩
theorem nodup_ix {N : List Str} (hN : N.Nodup) {i j : Nat} {x : Str} (a : N[i]? = some x) (b : N[j]? = some x) : i = j := by
 obtain ⟨h1, e1⟩ := List.getElem?_eq_some_iff.mp a
 obtain ⟨h2, e2⟩ := List.getElem?_eq_some_iff.mp b
 exact (List.getElem_inj hN).mp (e1.trans e2.symm)
theorem store_ok2 {M : Model} {A : Around} {E : Value → Shared → Prop} {i : Nat} {x : Str} {v : V} {u : Value} {Q : Unit → Shared → Prop} (I : Inv X pins σ H s) (hN : X.N.Nodup) (hi : X.N[i]? = some x) (hx : Loc X.env.scope x) (r : RelV v u)
  (h : ∀ s', Inv X pins (σ.set i (some v)) H s' → (∃ a, Heap.SameBut a s.heap s'.heap ∧ (a = X.env.locals ∨ X.env.cells.lookup x = some a)) → Q () s') (hf : X.fn x = true ∨ X.env.scope.names.lookup x = some .local := by first | exact .inl rfl | exact .inr rfl | assumption) : wpAny M A (storeName X.env x u) Q E s := by
 obtain ⟨m, hn, hl⟩ := id I.loc
 have hcls : (X.env.scope.kind == .class || (X.env.scope.kind == .module && X.env.locals != X.env.globals)) = false := by rw [I.ok.kind]; rfl
 have hiσ : i < σ.length := by rw [I.len]; exact (List.getElem?_eq_some_iff.mp hi).1
 have cne := I.cne
 have tracked : ∀ {a : Addr} {h' : Heap}, (∃ o, s.heap.get? a = some o ∧ H a = none) → Heap.SameBut a s.heap h' → HOk X.prog X.w H h' := fun {a h'} ha hs b ob e => by
  obtain ⟨_, _, hfree⟩ := ha
  refine (I.hok b ob e).stay (fun c w' hc q => (hs.2 c ?_).trans q) (fun _ q => q) fun _ _ q => q
  rintro rfl
  rcases hc with rfl | hc
  ·rw [hfree] at e; cases e
  ·rw [hfree] at hc; cases hc
 rcases hx with hk | hk
 ·refine wpAny_storeName_local hk hn (fun h' hn' hs => ?_) hcls
  obtain ⟨oL, _, _, hoL, _⟩ := id hn
  refine h _ ⟨I.ok, I.os, I.bare, ⟨fun b o e n hb hx => ?_, fun b o e n hb hx => ?_, I.base.free, fun b o e hx => ?_, I.base.tups, I.base.frzs, I.base.tbls⟩, ⟨_, hn', fun j y v' e1 e2 e3 => ?_⟩, fun y c e => ?_, I.free, I.freeC, fun p hp => ?_, tracked ⟨oL, hoL, I.free⟩ hs, by simpa using I.len⟩ ⟨_, hs, .inl rfl⟩
  ·exact (hs.2 b (Nat.ne_of_lt (Nat.lt_of_lt_of_le (Heap.lt_size e) I.ok.above))).trans (I.base.keep b o e n hb hx)
  ·obtain ⟨sl, e1⟩ := I.base.slot b o e n hb hx
   exact ⟨sl, (hs.2 b (Nat.ne_of_lt (Nat.lt_of_lt_of_le (Heap.lt_size e) I.ok.above))).trans e1⟩
  ·obtain ⟨o', e1⟩ := I.base.there b o e hx
   exact ⟨o', (hs.2 b (Nat.ne_of_lt (Nat.lt_of_lt_of_le (Heap.lt_size e) I.ok.above))).trans e1⟩
  ·by_cases hj : j = i
   ·subst hj
    rw [hi] at e1; cases e1
    rw [List.getElem?_set_self hiσ] at e2
    cases e2
    exact ⟨u, r, .inl ⟨hk, by simp⟩⟩
   ·rw [List.getElem?_set_ne (Ne.symm hj)] at e2
    obtain ⟨u', r', q⟩ := hl j y v' e1 e2 e3
    refine ⟨u', r', ?_⟩
    rcases q with ⟨k, e⟩ | ⟨k, c, e, z⟩
    ·refine .inl ⟨k, ?_⟩
     have : y ≠ x := fun e => hj (nodup_ix hN e1 (e ▸ hi))
     simp [this, e]
    ·exact .inr ⟨k, c, e, z.sameBut hs (cne y c e)⟩
  ·obtain ⟨w', z⟩ := I.cell y c e
   exact ⟨w', z.sameBut hs (cne y c e)⟩
  ·obtain ⟨e, n, ne, nf, d⟩ := I.pin p hp
   exact ⟨(hs.2 p.1 ne).trans e, n, ne, nf, d⟩
 ·have hfn : X.fn x = true := by
   rcases hf with z | z
   ·exact z
   ·rw [z] at hk; cases hk
  obtain ⟨c, hc⟩ := I.ok.has x (.inl hk)
  obtain ⟨w', z⟩ := I.cell x c hc
  refine wpAny_storeName_cell I.ok.kind hk hc z (fun h' hc' hs => ?_)
  obtain ⟨oc, hoc, hocd⟩ := id z
  refine h { s with heap := h' } ⟨I.ok, I.os, I.bare, ⟨fun b o e n hb hx => ?_, fun b o e n hb hx => ?_, I.base.free, fun b o e hx => ?_, I.base.tups, I.base.frzs, I.base.tbls⟩, ⟨m, hn.sameBut hs (Ne.symm (cne x c hc)), fun j y v' e1 e2 e3 => ?_⟩, fun y c' e => ?_, I.free, I.freeC, fun p hp => ?_, tracked ⟨oc, hoc, I.freeC x c hc⟩ hs, by simpa using I.len⟩ ⟨c, hs, .inr hc⟩
  ·exact (hs.2 b (Nat.ne_of_lt (Nat.lt_of_lt_of_le (Heap.lt_size e) (I.ok.cab x c hfn hc)))).trans (I.base.keep b o e n hb hx)
  ·obtain ⟨sl, e1⟩ := I.base.slot b o e n hb hx
   exact ⟨sl, (hs.2 b (Nat.ne_of_lt (Nat.lt_of_lt_of_le (Heap.lt_size e) (I.ok.cab x c hfn hc)))).trans e1⟩
  ·obtain ⟨o', e1⟩ := I.base.there b o e hx
   exact ⟨o', (hs.2 b (Nat.ne_of_lt (Nat.lt_of_lt_of_le (Heap.lt_size e) (I.ok.cab x c hfn hc)))).trans e1⟩
  ·by_cases hj : j = i
   ·subst hj
    rw [hi] at e1; cases e1
    rw [List.getElem?_set_self hiσ] at e2
    cases e2
    exact ⟨u, r, .inr ⟨.inl hk, c, hc, hc'⟩⟩
   ·rw [List.getElem?_set_ne (Ne.symm hj)] at e2
    obtain ⟨u', r', q⟩ := hl j y v' e1 e2 e3
    refine ⟨u', r', ?_⟩
    rcases q with q | ⟨k, c', e, z'⟩
    ·exact .inl q
    ·refine .inr ⟨k, c', e, z'.sameBut hs ?_⟩
     rintro rfl
     exact hj (nodup_ix hN e1 (I.ok.inj _ _ _ e hc ▸ hi))
  ·by_cases hcc : c' = c
   ·subst hcc; exact ⟨_, hc'⟩
   ·obtain ⟨w2, z2⟩ := I.cell y c' e
    exact ⟨w2, z2.sameBut hs hcc⟩
  ·obtain ⟨e, n, ne, nf, d⟩ := I.pin p hp
   refine ⟨(hs.2 p.1 ?_).trans e, n, ne, nf, d⟩
   intro q
   rw [q, hoc] at e
   have q' : oc = p.2 := Option.some.inj e
   exact d w' (by rw [← q']; exact hocd)
theorem store_ok {M : Model} {A : Around} {E : Value → Shared → Prop} {i : Nat} {x : Str} {v : V} {u : Value} {Q : Unit → Shared → Prop} (I : Inv X pins σ H s) (hN : X.N.Nodup) (hi : X.N[i]? = some x) (hx : Loc X.env.scope x) (r : RelV v u)
  (h : ∀ s', Inv X pins (σ.set i (some v)) H s' → Q () s') (hf : X.fn x = true ∨ X.env.scope.names.lookup x = some .local := by first | exact .inl rfl | exact .inr rfl | assumption) : wpAny M A (storeName X.env x u) Q E s :=
 store_ok2 I hN hi hx r (fun s' I' _ => h s' I') hf
theorem Inv.call' {s' : Shared} {ch : List Addr} (I : Inv X pins σ H s) (ho : s'.os = s.os) (u : Un (frs X.stack) ch H H' s.heap s'.heap) (hok : HOk X.prog X.w H' s'.heap) (hg : AllBare s'.gens)
  (hch : ∀ b ∈ ch, (b ∈ X.ex ∨ X.s₀.heap.objs.size ≤ b) ∧ b ≠ X.env.locals ∧ (∀ x c, X.env.cells.lookup x = some c → c ≠ b) ∧ ∀ p ∈ X.pn ++ pins, p.1 ≠ b) : Inv X pins σ H' s' := by
 obtain ⟨h', g', d', t', o'⟩ := s'
 have e : o' = s.os := ho
 subst e
 exact I.call (g' := g') (t' := t') (d' := d') u hok hg hch
end
abbrev XK := Value → Option Addr → Hp → Prop
abbrev St := List (Option V)
abbrev VK := V → Hp → Prop
abbrev TE := St → Hp → VK → Prop
abbrev TT := St → Hp → (Bool → Hp → Prop) → Prop
abbrev TA := St → Hp → (List V → Hp → Prop) → Prop
structure Ends where
 nx : St → Hp → Prop
 rt : VK
 bk : St → Hp → Prop := fun _ _ => False
 ct : St → Hp → Prop := fun _ _ => False
abbrev TS := Ends → St → Hp → Prop
def EP (X : Cx) (pins : List (Addr × Obj)) (σ : St) (Q : VK) (u : Value) (s' : Shared) : Prop := ∃ v H', Inv X pins σ H' s' ∧ RelV v u ∧ Q v H'
def TP (X : Cx) (pins : List (Addr × Obj)) (σ : St) (Q : Bool → Hp → Prop) (b : Bool) (s' : Shared) : Prop := ∃ H', Inv X pins σ H' s' ∧ Q b H'
def AP (X : Cx) (pins : List (Addr × Obj)) (σ : St) (Q : List V → Hp → Prop) (us : List Value) (s' : Shared) : Prop := ∃ vs H', Inv X pins σ H' s' ∧ Vals vs us ∧ Q vs H'
def SP (X : Cx) (pins : List (Addr × Obj)) (D : Ends) (f : Flow) (s' : Shared) : Prop :=
 match f with
 | .next => ∃ σ' H', Inv X pins σ' H' s' ∧ D.nx σ' H'
 | .brk => ∃ σ' H', Inv X pins σ' H' s' ∧ D.bk σ' H'
 | .cont => ∃ σ' H', Inv X pins σ' H' s' ∧ D.ct σ' H'
 | .ret u => ∃ v σ' H', Inv X pins σ' H' s' ∧ RelV v u ∧ D.rt v H'
def PE (X : Cx) (e : Expr) (t : TE) : Prop :=
 ∀ (pins : List (Addr × Obj)) (s : Shared) (σ : St) (H : Hp) (Q : VK), Inv X pins σ H s → t σ H Q → wpAny (model X.prog X.w) X.A (eval e X.env) (EP X pins σ Q) X.xe s
def PT (X : Cx) (e : Expr) (t : TT) : Prop :=
 ∀ (pins : List (Addr × Obj)) (s : Shared) (σ : St) (H : Hp) (Q : Bool → Hp → Prop), Inv X pins σ H s → t σ H Q → wpAny (model X.prog X.w) X.A (isTrue e X.env (eval e X.env)) (TP X pins σ Q) X.xe s
def PW (X : Cx) (e : Expr) (t : TT) : Prop :=
 ∀ (whole : Sem Value) (pins : List (Addr × Obj)) (s : Shared) (σ : St) (H : Hp) (Q : Bool → Hp → Prop), Inv X pins σ H s → t σ H Q → wpAny (model X.prog X.w) X.A (isTrue e X.env whole) (TP X pins σ Q) X.xe s
theorem PW.pt {X : Cx} {e : Expr} {t : TT} (h : PW X e t) : PT X e t := h _
def PA (X : Cx) (es : List Expr) (t : TA) : Prop :=
 ∀ (pos : Pos) (pins : List (Addr × Obj)) (s : Shared) (σ : St) (H : Hp) (Q : List V → Hp → Prop), Inv X pins σ H s → t σ H Q → wpAny (model X.prog X.w) X.A (spliced (backTo pos (starEach es X.env))) (AP X pins σ Q) X.xe s
def PS (X : Cx) (st : Stmt) (t : TS) : Prop :=
 ∀ (pins : List (Addr × Obj)) (s : Shared) (σ : St) (H : Hp) (D : Ends), Inv X pins σ H s → t D σ H → wpAny (model X.prog X.w) X.A (exec st X.env) (SP X pins D) X.xe s
def PSs (X : Cx) (st : List Stmt) (t : TS) : Prop :=
 ∀ (pins : List (Addr × Obj)) (s : Shared) (σ : St) (H : Hp) (D : Ends), Inv X pins σ H s → t D σ H → wpAny (model X.prog X.w) X.A (execs st X.env) (SP X pins D) X.xe s
theorem thn {α : Type} {t : Sem α} {Q Q' : α → Shared → Prop} {M : Model} {A : Around} {E : Value → Shared → Prop} {s : Shared} (h : wpAny M A t Q E s) (hQ : ∀ a s, Q a s → Q' a s) : wpAny M A t Q' E s := wpAny_mono h hQ fun _ _ x => x
end L2
namespace L2
open PySem PySem.Spec PyProof.Rows
section
variable {X : Cx}
def tVar (i : Nat) : TE := fun σ H Q => ∃ v, σ[i]? = some (some v) ∧ Q v H
def tC (v : V) : TE := fun _ H Q => Q v H
theorem pe_var {i : Nat} {x : Str} {pos : Pos} (hN : X.N[i]? = some x) (hv : Vis X.env.scope x) (hd : (x == ("__debug__" : Str)) = false := by decide) (hcd : (x == ("__classdict__" : Str)) = false := by decide) : PE X (.Name x pos) (tVar i) := by
 intro pins s σ H Q I h
 obtain ⟨v, e, h⟩ := h
 obtain ⟨m, hn, hl⟩ := I.loc
 obtain ⟨u, r, l⟩ := hl i x v hN e hv
 have fin : EP X pins σ Q u s := ⟨v, H, I, r, h⟩
 rcases l with ⟨hk, hm⟩ | ⟨hk, c, hc, hcell⟩
 ·exact wpAny_Name (wpAny_loadName_local I.ok.kind hk hn hm fin) hd
 ·rcases hk with hk | hk
  ·exact wpAny_Name (wpAny_loadName_cell I.ok.kind hk hc hcell fin) hd
  ·exact wpAny_Name (wpAny_loadName_free I.ok.kind hk hc hcell fin hcd) hd
theorem pe_int {i j pos} : PE X (.Constant (.int i) j pos) (tC (.int i)) := fun _ _ _ H _ I h => wpAny_Constant_int ⟨.int i, H, I.tok _, ⟨_, rfl⟩, h⟩
theorem pe_bl {b j pos} : PE X (.Constant (.bool b) j pos) (tC (.bl b)) := fun _ _ _ H _ I h => Constant_bool ⟨.bl b, H, I, rfl, h⟩
theorem pe_non {j pos} : PE X (.Constant .none j pos) (tC .non) := fun _ _ _ H _ I h => Constant_none ⟨.non, H, I, rfl, h⟩
theorem pe_str {x j pos} : PE X (.Constant (.str x) j pos) (tC (.str x)) := fun _ _ _ H _ I h => Calls.Constant_str ⟨.str x, H, I.tok _, ⟨_, rfl⟩, h⟩
def Gl (X : Cx) (x : Str) : Prop := X.env.kindOf x = some .globalImplicit
theorem ld_glob {E : Value → Shared → Prop} {pins : List (Addr × Obj)} {s : Shared} {σ : St} {H : Hp} {x : Str} {u : Value} {pos : Pos} {Q : Value → Shared → Prop} (I : Inv X pins σ H s) (hg : Gl X x) (hm : X.mg x = some u) (h : Q u s)
  (hd : (x == ("__debug__" : Str)) = false := by decide) : wpAny (model X.prog X.w) X.A (eval (.Name x pos) X.env) Q E s :=
 Calls.Name_function_global I.ok.kind hg (Calls.loadGlobal_global (by rw [I.ok.glob]; exact I.mod.glob.keeps I.bk) hm h) hd
theorem ld_blt {E : Value → Shared → Prop} {pins : List (Addr × Obj)} {s : Shared} {σ : St} {H : Hp} {x : Str} {u : Value} {pos : Pos} {Q : Value → Shared → Prop} (I : Inv X pins σ H s) (hg : Gl X x) (hm : X.mg x = none) (hv : bootBuiltins x = some u) (h : Q u s)
  (hn : x ≠ "__name__" := by decide) (hd : (x == ("__debug__" : Str)) = false := by decide) : wpAny (model X.prog X.w) X.A (eval (.Name x pos) X.env) Q E s := by
 obtain ⟨mb, h1, h2⟩ := I.mod.blt
 exact Calls.Name_function_global I.ok.kind hg (Calls.loadGlobal_builtin (by rw [I.ok.glob]; exact I.mod.glob.keeps I.bk) hm (by rw [I.ok.blt]; exact h1.keeps I.bk) ((h2 x hn).trans hv) h) hd
theorem pe_glob {x : Str} {v : V} {u : Value} {pos : Pos} (hg : Gl X x) (hm : X.mg x = some u) (r : RelV v u) (hd : (x == ("__debug__" : Str)) = false := by decide) : PE X (.Name x pos) (tC v) :=
 fun _ _ _ H _ I h => ld_glob I hg hm ⟨v, H, I, r, h⟩ hd
theorem pe_bltn {x : Str} {v : V} {u : Value} {pos : Pos} (hg : Gl X x) (hm : X.mg x = none) (hv : bootBuiltins x = some u) (r : RelV v u) (hn : x ≠ "__name__" := by decide) (hd : (x == ("__debug__" : Str)) = false := by decide) : PE X (.Name x pos) (tC v) :=
 fun _ _ _ H _ I h => ld_blt I hg hm hv ⟨v, H, I, r, h⟩ hn hd
variable {a b : Expr} {ta tb : TE} {pos : Pos}
def tB (t : TE) : TT := fun σ H Q => t σ H fun x H1 => ∃ c, x = .bl c ∧ Q c H1
theorem pt_val {e : Expr} {t : TE} (h : PE X e t) (he : ∀ whole, isTrue e X.env whole = (do let v ← whole; standAt e.pos; holding [v] (truthy v)) := by intro _; rfl) : PT X e (tB t) := by
 intro pins s σ H Q I hw
 refine isTrue_plain (thn (h pins s σ H _ I hw) fun v s1 ⟨x, H1, I1, r1, q1⟩ => ?_) (he _)
 obtain ⟨d, rfl, q⟩ := q1
 cases r1
 exact wpAny_truthy_bool ⟨H1, I1, q⟩
variable {tA tB' : TT} {rest : List Expr}
def tAnd (t u : TT) : TT := fun σ H Q => t σ H fun c H1 => if c = true then u σ H1 Q else Q false H1
def tOr (t u : TT) : TT := fun σ H Q => t σ H fun c H1 => if c = true then Q true H1 else u σ H1 Q
def tNot (t : TT) : TT := fun σ H Q => t σ H fun c H1 => Q (!c) H1
theorem pw_and1 (ha : PT X a tA) : PW X (.BoolOp .And [a] pos) tA := by
 intro wh pins s σ H Q I h
 refine isTrue_and (thn (ha pins s σ H Q I h) fun c s1 e => ?_)
 cases c with
 | true => exact isTrue_and_nil e
 | false => exact e
theorem pw_or1 (ha : PT X a tA) : PW X (.BoolOp .Or [a] pos) tA := by
 intro wh pins s σ H Q I h
 refine isTrue_or (thn (ha pins s σ H Q I h) fun c s1 e => ?_)
 cases c with
 | false => exact isTrue_or_nil e
 | true => exact e
theorem pw_and (ha : PT X a tA) (hb : PW X (.BoolOp .And (b :: rest) pos) tB') : PW X (.BoolOp .And (a :: b :: rest) pos) (tAnd tA tB') := by
 intro wh pins s σ H Q I h
 refine isTrue_and (thn (ha pins s σ H _ I h) fun c s1 ⟨H1, I1, q1⟩ => ?_)
 cases c with
 | true => exact hb wh pins s1 σ H1 Q I1 q1
 | false => exact ⟨H1, I1, q1⟩
theorem pw_or (ha : PT X a tA) (hb : PW X (.BoolOp .Or (b :: rest) pos) tB') : PW X (.BoolOp .Or (a :: b :: rest) pos) (tOr tA tB') := by
 intro wh pins s σ H Q I h
 refine isTrue_or (thn (ha pins s σ H _ I h) fun c s1 ⟨H1, I1, q1⟩ => ?_)
 cases c with
 | true => exact ⟨H1, I1, q1⟩
 | false => exact hb wh pins s1 σ H1 Q I1 q1
theorem pt_not (ha : PT X a tA) : PT X (.UnaryOp .Not a pos) (tNot tA) := by
 intro pins s σ H Q I h
 exact isTrue_not (ha pins s σ H (fun c H1 => Q (!c) H1) I h)
def tAndV (ta tb : TE) : TE := fun σ H Q => ta σ H fun x H1 => ∃ c, x = .bl c ∧ if c = true then tb σ H1 Q else Q (.bl false) H1
def tOrV (ta tb : TE) : TE := fun σ H Q => ta σ H fun x H1 => ∃ c, x = .bl c ∧ if c = true then Q (.bl true) H1 else tb σ H1 Q
def tNotV (ta : TE) : TE := fun σ H Q => ta σ H fun x H1 => ∃ c, x = .bl c ∧ Q (.bl (!c)) H1
theorem pe_one {op} {t : TE} (h : PE X a t) : PE X (.BoolOp op [a] pos) t := fun pins s σ H Q I hw => BoolOp_one (h pins s σ H Q I hw)
theorem pe_and (ha : PE X a ta) (hb : PE X (.BoolOp .And (b :: rest) pos) tb) : PE X (.BoolOp .And (a :: b :: rest) pos) (tAndV ta tb) := by
 intro pins s σ H Q I h
 refine BoolOp_and (thn (ha pins s σ H _ I h) fun v s1 ⟨x, H1, I1, r1, q1⟩ => ?_)
 obtain ⟨c, rfl, q1⟩ := q1
 cases r1
 refine wpAny_truthy_bool ?_
 cases c with
 | true => exact hb pins s1 σ H1 Q I1 q1
 | false => exact ⟨.bl false, H1, I1, rfl, q1⟩
theorem pe_or (ha : PE X a ta) (hb : PE X (.BoolOp .Or (b :: rest) pos) tb) : PE X (.BoolOp .Or (a :: b :: rest) pos) (tOrV ta tb) := by
 intro pins s σ H Q I h
 refine BoolOp_or (thn (ha pins s σ H _ I h) fun v s1 ⟨x, H1, I1, r1, q1⟩ => ?_)
 obtain ⟨c, rfl, q1⟩ := q1
 cases r1
 refine wpAny_truthy_bool ?_
 cases c with
 | false => exact hb pins s1 σ H1 Q I1 q1
 | true => exact ⟨.bl true, H1, I1, rfl, q1⟩
theorem pe_not (ha : PE X a ta) : PE X (.UnaryOp .Not a pos) (tNotV ta) := by
 intro pins s σ H Q I h
 refine UnaryOp_ (thn (ha pins s σ H _ I h) fun v s1 ⟨x, H1, I1, r1, q1⟩ => ?_)
 obtain ⟨c, rfl, q1⟩ := q1
 cases r1
 exact not_of (wpAny_truthy_bool ⟨.bl (!c), H1, I1, rfl, q1⟩)
end
end L2
namespace L2
open PySem PySem.Spec PyProof.Rows
def SqL (K : PySem.W.Frag) (H : Hp) (a : Addr) (xs : List V) : Prop :=
 Rd H a (.lst xs) ∨
  ∃ (o : Obj) (its : Array Value) (n : Nat), K.lookup a = some o ∧ o.cls = .type "list" ∧ o.dict = none ∧ o.data = .seq its n ∧ its.size ≤ sizeLine ∧ Vals xs its.toList
def SqT (K : PySem.W.Frag) (H : Hp) (a : Addr) (xs : List V) : Prop :=
 Rd H a (.tup xs) ∨
  ∃ (o : Obj) (its : Array Value) (n : Nat), K.lookup a = some o ∧ o.cls = .type "tuple" ∧ o.data = .seq its n ∧ its.size ≤ sizeLine ∧ Vals xs its.toList
def absV : Value → Option V
 | .none => some .non
 | .bool b => some (.bl b)
 | .int i _ => some (.int i)
 | .str x _ => some (.str x)
 | .bytes b _ => some (.byt b)
 | .float b _ => some (.flt b)
 | .ref a => some (.ref a)
 | .type n => some (.ty n)
 | _ => none
theorem RelV.abs {x : V} {u : Value} (r : RelV x u) : absV u = some x := by
 cases x with
 | non => cases r; rfl
 | bl _ => cases r; rfl
 | int _ => obtain ⟨t, rfl⟩ := r; rfl
 | str _ => obtain ⟨t, rfl⟩ := r; rfl
 | byt _ => obtain ⟨t, rfl⟩ := r; rfl
 | flt _ => obtain ⟨t, rfl⟩ := r; rfl
 | ref _ => cases r; rfl
 | ty _ => cases r; rfl
theorem RelV.inj {x y : V} {u : Value} (r : RelV x u) (q : RelV y u) : x = y := Option.some.inj (r.abs.symm.trans q.abs)
theorem Vals.inj : ∀ {xs ys : List V} {us : List Value}, Vals xs us → Vals ys us → xs = ys
 | _, _, _, .nil, .nil => rfl
 | _, _, _, .cons r t, .cons r' t' => by rw [r.inj r', Vals.inj t t']
section
variable {X : Cx} {pins : List (Addr × Obj)} {σ : St} {H : Hp} {s : Shared} {a : Addr} {xs ys : List V}
theorem SqL.of {K : PySem.W.Frag} (h : H a = some (.lst xs)) : SqL K H a xs := .inl (.inl h)
theorem SqT.of {K : PySem.W.Frag} (h : H a = some (.tup xs)) : SqT K H a xs := .inl (.inl h)
theorem Inv.list (I : Inv X pins σ H s) (h : SqL X.K H a xs) : ∃ its : List Value, Vals xs its ∧ PlainL s.heap a its.toArray ∧ xs.length ≤ sizeLine := by
 rcases h with h | ⟨o, its, n, hk, hc, hd, hs, hz, r⟩
 ·obtain ⟨z, its, n, r, e⟩ := h.ok I.hok
  exact ⟨its, r, ⟨_, n, e, rfl, rfl, rfl⟩, z⟩
 ·refine ⟨its.toList, r, ⟨o, n, I.kIn a o hk, hc, hd, by simpa using hs⟩, ?_⟩
  have e := r.length
  simp only [Array.length_toList] at e
  omega
theorem Inv.tuple (I : Inv X pins σ H s) (h : SqT X.K H a xs) : ∃ its : List Value, Vals xs its ∧ IsTup s.heap a its.toArray ∧ xs.length ≤ sizeLine := by
 rcases h with h | ⟨o, its, n, hk, hc, hs, hz, r⟩
 ·obtain ⟨z, its, r, p⟩ := h.ok I.hok
  exact ⟨its, r, p, z⟩
 ·refine ⟨its.toList, r, ⟨o, I.kIn a o hk, hc, n, by simpa using hs⟩, ?_⟩
  have e := r.length
  simp only [Array.length_toList] at e
  omega
theorem Inv.list_inj (I : Inv X pins σ H s) (h : SqL X.K H a xs) (h' : SqL X.K H a ys) : xs = ys := by
 obtain ⟨its, r, ⟨o, n, e, _, _, d⟩, _⟩ := I.list h
 obtain ⟨its', r', ⟨o', n', e', _, _, d'⟩, _⟩ := I.list h'
 rw [e] at e'; cases e'
 rw [d] at d'
 injection d' with d1 _
 have : its = its' := by simpa using congrArg Array.toList d1
 subst this
 exact r.inj r'
end
abbrev Cx.wish (X : Cx) (E : Value → Shared → Prop) : Cx := { X with xe := E }
abbrev Cx.nox (X : Cx) : Cx := X.wish fun _ _ => False
theorem Cx.Ok.wish {X : Cx} (ok : X.Ok) (E : Value → Shared → Prop) : (X.wish E).Ok :=
 ⟨ok.mod, ok.kind, ok.glob, ok.blt, ok.above, ok.inj, ok.has, ok.cab, ok.hd, ok.frames, ok.stk, ok.exf, ok.bs, ok.bsz, ok.noex, ok.exfs, ok.funs, ok.frf⟩
theorem Cx.Ok.unwish {X : Cx} {E : Value → Shared → Prop} (ok : (X.wish E).Ok) : X.Ok :=
 ⟨ok.mod, ok.kind, ok.glob, ok.blt, ok.above, ok.inj, ok.has, ok.cab, ok.hd, ok.frames, ok.stk, ok.exf, ok.bs, ok.bsz, ok.noex, ok.exfs, ok.funs, ok.frf⟩
section
variable {X : Cx} {pins : List (Addr × Obj)} {σ : St} {H : Hp} {s : Shared} {E : Value → Shared → Prop}
theorem Inv.wish (I : Inv X pins σ H s) (E : Value → Shared → Prop) : Inv (X.wish E) pins σ H s := ⟨I.ok.wish E, I.os, I.bare, I.base, I.loc, I.cell, I.free, I.freeC, I.pin, I.hok, I.len⟩
theorem Inv.unwish (I : Inv (X.wish E) pins σ H s) : Inv X pins σ H s := ⟨I.ok.unwish, I.os, I.bare, I.base, I.loc, I.cell, I.free, I.freeC, I.pin, I.hok, I.len⟩
theorem SP.unwish {D : Ends} {f : Flow} {s' : Shared} (h : SP (X.wish E) pins D f s') : SP X pins D f s' := by
 cases f with
 | next => obtain ⟨σ', H', I, q⟩ := h; exact ⟨σ', H', I.unwish, q⟩
 | brk => obtain ⟨σ', H', I, q⟩ := h; exact ⟨σ', H', I.unwish, q⟩
 | cont => obtain ⟨σ', H', I, q⟩ := h; exact ⟨σ', H', I.unwish, q⟩
 | ret u => obtain ⟨v, σ', H', I, r, q⟩ := h; exact ⟨v, σ', H', I.unwish, r, q⟩
theorem PE.nox {e : Expr} {t : TE} (h : PE X.nox e t) : PE X e t := fun pins s σ H Q I hw =>
 wpAny_mono (h pins s σ H Q (I.wish _) hw) (fun _ _ ⟨v, H', I', r, q⟩ => ⟨v, H', I'.unwish, r, q⟩) fun _ _ z => False.elim z
theorem PSs.nox {st : List Stmt} {t : TS} (h : PSs X.nox st t) : PSs X st t := fun pins s σ H D I hw =>
 wpAny_mono (h pins s σ H D (I.wish _) hw) (fun _ _ q => q.unwish) fun _ _ z => False.elim z
end
section
variable {X : Cx} {st : Stmt} {rest : List Stmt} {t u : TS} {e : Expr} {te : TE} {pos : Pos}
def tNext : TS := fun D σ H => D.nx σ H
def tSeq (t u : TS) : TS := fun D σ H => t { D with nx := u D } σ H
theorem pss_nil : PSs X [] tNext := fun _ _ σ H _ I h => wpAny_execs_nil ⟨σ, H, I, h⟩
theorem pss_cons (h1 : PS X st t) (h2 : PSs X rest u) : PSs X (st :: rest) (tSeq t u) := by
 intro pins s σ H D I h
 refine wpAny_execs_cons (thn (h1 pins s σ H { D with nx := u D } I h) fun f s1 q => ?_)
 cases f with
 | next =>
  obtain ⟨σ', H', I', q⟩ := q
  exact h2 pins s1 σ' H' D I' q
 | ret v => exact q
 | brk => exact q
 | cont => exact q
theorem pss_one (h1 : PS X st t) : PSs X [st] t := by
 intro pins s σ H D I h
 refine wpAny_execs_cons (thn (h1 pins s σ H D I h) fun f s1 q => ?_)
 cases f with
 | next => exact wpAny_execs_nil q
 | ret v => exact q
 | brk => exact q
 | cont => exact q
theorem Inv.quiet {pins : List (Addr × Obj)} {σ : St} {H : Hp} {s : Shared} (I : Inv X pins σ H s) : interactive X.env = false := by simp [interactive, I.ok.kind]
def tDrop (te : TE) : TS := fun D σ H => te σ H fun _ H1 => D.nx σ H1
theorem ps_expr (he : PE X e te) (hs : swapsWith e none pos.line X.env = pure false := by rfl) : PS X (.Expr e pos) (tDrop te) := by
 intro pins s σ H D I h
 exact wpAny_Expr_any (thn (he pins s σ H _ I h) fun v s1 ⟨x, H1, I1, r1, q1⟩ => ⟨σ, H1, I1, q1⟩) I.quiet hs
def tRet (te : TE) : TS := fun D σ H => te σ H D.rt
theorem ps_ret (he : PE X e te) : PS X (.Return (some e) pos) (tRet te) := by
 intro pins s σ H D I h
 exact wpAny_Return_some (thn (he pins s σ H _ I h) fun v s1 ⟨x, H1, I1, r1, q1⟩ => ⟨x, σ, H1, I1, r1, q1⟩)
def tIfS (c : TT) (t u : TS) : TS := fun D σ H => c σ H fun b H1 => if b = true then t D σ H1 else u D σ H1
theorem ps_if {c : Expr} {a b : List Stmt} {tc : TT} (hc : PT X c tc) (ha : PSs X a t) (hb : PSs X b u) : PS X (.If c a b pos) (tIfS tc t u) := by
 intro pins s σ H D I h
 refine wpAny_If (thn (hc pins s σ H _ I h) fun d s1 ⟨H1, I1, q1⟩ => ?_)
 cases d with
 | true => exact ha pins s1 σ H1 D I1 q1
 | false => exact hb pins s1 σ H1 D I1 q1
end
abbrev TG := V → St → Hp → (St → Hp → Prop) → Prop
abbrev TGs := List V → St → Hp → (St → Hp → Prop) → Prop
def PG (X : Cx) (target : Expr) (t : TG) : Prop :=
 ∀ (pins : List (Addr × Obj)) (s : Shared) (σ : St) (H : Hp) (v : V) (u : Value) (Q : St → Hp → Prop), Inv X pins σ H s → RelV v u → t v σ H Q →
  wpAny (model X.prog X.w) X.A (assign target X.env u) (fun _ s' => ∃ σ' H', Inv X pins σ' H' s' ∧ Q σ' H') X.xe s
def PGs (X : Cx) (ts : List Expr) (t : TGs) : Prop :=
 ∀ (pins : List (Addr × Obj)) (s : Shared) (σ : St) (H : Hp) (vs : List V) (us : List Value) (Q : St → Hp → Prop), Inv X pins σ H s → Vals vs us → t vs σ H Q →
  wpAny (model X.prog X.w) X.A (assignInOrder ((assignEach ts X.env).map (·.2)) us) (fun _ s' => ∃ σ' H', Inv X pins σ' H' s' ∧ Q σ' H') X.xe s
abbrev TSet := V → V → V → Hp → (Hp → Prop) → Prop
def PSet (X : Cx) (t : TSet) : Prop :=
 ∀ (pins : List (Addr × Obj)) (s : Shared) (σ : St) (H : Hp) (o i v : V) (ov iv u : Value) (Q : Hp → Prop), Inv X pins σ H s → RelV o ov → RelV i iv → RelV v u → t o i v H Q →
  wpAny (model X.prog X.w) X.A (setItem ov iv u) (fun _ s' => ∃ H', Inv X pins σ H' s' ∧ Q H') X.xe s
section
variable {X : Cx} {pos : Pos}
def gName (i : Nat) : TG := fun v σ H Q => Q (σ.set i (some v)) H
theorem pg_name {i : Nat} {x : Str} (hN : X.N.Nodup) (hi : X.N[i]? = some x) (hx : Loc X.env.scope x) (hf : X.fn x = true ∨ X.env.scope.names.lookup x = some .local := by first | exact .inl rfl | exact .inr rfl | assumption) : PG X (.Name x pos) (gName i) := by
 intro pins s σ H v u Q I r h
 exact wpAny_assign_Name (store_ok I hN hi hx r (fun s' I' => ⟨_, H, I', h⟩) hf)
def gNil : TGs := fun vs σ H Q => vs = [] ∧ Q σ H
def gCons (t : TG) (u : TGs) : TGs := fun vs σ H Q => ∃ v r, vs = v :: r ∧ t v σ H fun σ' H' => u r σ' H' Q
theorem pgs_nil : PGs X [] gNil := by
 intro pins s σ H vs us Q I r h
 obtain ⟨e, h⟩ := h
 subst e
 cases r
 exact assignInOrder_nil ⟨σ, H, I, h⟩
theorem pgs_cons {e : Expr} {es : List Expr} {t : TG} {u : TGs} (h1 : PG X e t) (h2 : PGs X es u)
  (hs : (assignEach (e :: es) X.env).map (·.2) = assign e X.env :: (assignEach es X.env).map (·.2) := by rfl) : PGs X (e :: es) (gCons t u) := by
 intro pins s σ H vs us Q I r h
 obtain ⟨v, vr, e1, h⟩ := h
 subst e1
 cases r with
 | cons r rr =>
  rw [hs]
  refine assignInOrder_cons (thn (h1 pins s σ H _ _ _ I r h) fun _ s1 ⟨σ1, H1, I1, q1⟩ => ?_)
  exact h2 pins s1 σ1 H1 _ _ Q I1 rr q1
def gTup (K : PySem.W.Frag) (n : Nat) (t : TGs) : TG := fun v σ H Q => ∃ a xs, v = .ref a ∧ SqT K H a xs ∧ xs.length = n ∧ t xs σ H Q
theorem pg_tup {es : List Expr} {k : Nat} {t : TGs} {n : Nat} (hc : X.calm = true) (h : PGs X es t)
  (hn : (assignEach es X.env).length = n := by rfl) (hst : (assignEach es X.env).findIdx? (·.1) = none := by rfl) : PG X (.Tuple es k pos) (gTup X.K n t) := by
 intro pins s σ H v u Q I r hw
 obtain ⟨a, xs, e1, hq, hl, hw⟩ := hw
 subst e1
 cases r
 obtain ⟨its, rv, ht, hz⟩ := I.tuple hq
 refine assign_Tuple_tuple (I.ok.hd hc) ht (by simp [hn, ← hl, rv.length]) hst fun h' hx => ?_
 have I1 : Inv X pins σ H { s with heap := h' } := I.kept (t' := s.toks) fun b o e => hx b o (Nat.ne_of_lt (Heap.lt_size e)) e
 exact h pins _ σ H xs _ Q I1 (by simpa using rv) hw
def gSub (to ti : TE) (t : TSet) : TG := fun v σ H Q => to σ H fun o H1 => ti σ H1 fun i H2 => t o i v H2 fun H3 => Q σ H3
theorem pg_sub {o i : Expr} {to ti : TE} {t : TSet} (ho : PE X o to) (hi : PE X i ti) (hs : PSet X t)
  (ha : ∀ v, assign (.Subscript o i pos) X.env v = (do
   let ov ← holding [v] (eval o X.env)
   let iv ← holding [v, ov] (eval i X.env)
   standAt pos
   holding [v, ov, iv] (setItem ov iv v)
   release [v, ov, iv] []) := by intro _; rfl) : PG X (.Subscript o i pos) (gSub to ti t) := by
 intro pins s σ H v u Q I r h
 rw [ha]
 refine wpAny_bind (wpAny_holding (thn (ho pins s σ H _ I h) fun ov s1 ⟨x, H1, I1, r1, q1⟩ => ?_))
 refine wpAny_bind (wpAny_holding (thn (hi pins s1 σ H1 _ I1 q1) fun iv s2 ⟨y, H2, I2, r2, q2⟩ => ?_))
 refine wpAny_bind (wpAny_standAt (wpAny_bind (wpAny_holding (thn (hs pins s2 σ H2 x y v ov iv u _ I2 r1 r2 r q2) fun _ s3 ⟨H3, I3, q3⟩ => ?_))))
 exact wpAny_release ⟨σ, H3, I3, q3⟩
def tAsg (te : TE) (g : TG) : TS := fun D σ H => te σ H fun x H1 => g x σ H1 D.nx
theorem ps_asg {tg e : Expr} {te : TE} {g : TG} (he : PE X e te) (hg : PG X tg g) (hs : swapsWithSole [tg] e pos.line X.env = pure false := by rfl) (hw : swappedStores [tg] e X.env = pure none := by rfl)
  (h1 : (assignEach [tg] X.env).map (·.2) = [assign tg X.env] := by rfl) : PS X (.Assign [tg] e pos) (tAsg te g) := by
 intro pins s σ H D I h
 refine wpAny_Assign_stores (thn (he pins s σ H _ I h) fun v s1 ⟨x, H1, I1, r1, q1⟩ => ?_) hs hw
 rw [h1]
 exact thn (hg pins s1 σ H1 x v _ I1 r1 q1) fun _ s2 q => q
theorem ps_set {i : Nat} {x : Str} {e : Expr} {te : TE} {pos' : Pos} (hN : X.N.Nodup) (hi : X.N[i]? = some x) (hx : Loc X.env.scope x) (he : PE X e te) (hs : swapsWith e (some (.Name x pos')) pos.line X.env = pure false := by rfl) (hf : X.fn x = true ∨ X.env.scope.names.lookup x = some .local := by first | exact .inl rfl | exact .inr rfl | assumption) :
  PS X (.Assign [.Name x pos'] e pos) (tAsg te (gName i)) := by
 intro pins s σ H D I h
 refine wpAny_Assign_Name (thn (he pins s σ H _ I h) fun v s1 ⟨y, H1, I1, r1, q1⟩ => ?_) hs
 exact store_ok I1 hN hi hx r1 (fun s2 I2 => ⟨_, H1, I2, q1⟩) hf
end
section
variable {X : Cx} {pos : Pos}
end
structure It where
 go : Nat → Hp → Prop
 yld : Nat → Hp → V → Hp → Prop
 stop : Nat → Hp → Prop
def FpOk (X : Cx) (pins : List (Addr × Obj)) (H : Hp) (b : Addr) : Prop :=
 H b = none ∧ b ≠ X.env.locals ∧ b ∉ X.fs ∧ (b ∈ X.ex ∨ X.s₀.heap.objs.size ≤ b) ∧ (∀ x c, X.env.cells.lookup x = some c → c ≠ b) ∧ ∀ p ∈ X.pn ++ pins, p.1 ≠ b
theorem Inv.fpOk {X : Cx} {pins : List (Addr × Obj)} {σ : St} {H H' : Hp} {s : Shared} {b : Addr} (I : Inv X pins σ H s) (hb : s.heap.objs.size ≤ b) (hn : H' b = none) : FpOk X pins H' b := by
 refine ⟨hn, Nat.ne_of_gt (Nat.lt_of_lt_of_le I.lt hb), I.nofs hb, .inr (Nat.le_trans I.sz hb), fun x c e z => ?_, fun p hp z => ?_⟩
 ·obtain ⟨v, q⟩ := I.cell x c e
  exact absurd (Nat.lt_of_lt_of_le q.lt (by rw [z]; exact hb)) (Nat.lt_irrefl _)
 ·exact absurd (Nat.lt_of_lt_of_le (Heap.lt_size (I.pin p hp).1) (by rw [z]; exact hb)) (Nat.lt_irrefl _)
structure Turn (P : Program) (w : World) (K : PySem.W.Frag) (tg : Expr) (J : It) (fp : List Addr) (it : Addr) (tn : Nat → Heap → Prop) : Prop where
 mem : it ∈ fp
 obj : ∀ i h, tn i h → ∀ b ∈ fp, ∃ o, h.get? b = some o ∧ ∀ v, o.data ≠ .cell v
 keep : ∀ i h h', tn i h → (∀ b ∈ fp, ∀ o, h.get? b = some o → h'.get? b = some o) → tn i h'
 item : ∀ (X : Cx), X.prog = P → X.w = w → X.K = K → X.calm = true → ∀ (i : Nat) (pins : List (Addr × Obj)) (s : Shared) (σ : St) (H : Hp) (E : Value → Shared → Prop), Inv X pins σ H s → (∀ b ∈ fp, FpOk X pins H b) → tn i s.heap → J.go i H →
  wpAny (model P w) X.A (pyNext (.ref it)) (fun r s1 => ∃ u, r = some u ∧
   wpAny (model P w) X.A (letOwnedTupleGo tg (.ref it) u) (fun _ s2 => ∃ x H', Inv X pins σ H' s2 ∧ RelV x u ∧ J.yld i H x H' ∧ tn (i + 1) s2.heap ∧ ∀ b ∈ fp, H' b = none) E s1) E s
 done : ∀ (X : Cx), X.prog = P → X.w = w → X.K = K → X.calm = true → ∀ (i : Nat) (pins : List (Addr × Obj)) (s : Shared) (σ : St) (H : Hp) (E : Value → Shared → Prop), Inv X pins σ H s → (∀ b ∈ fp, FpOk X pins H b) → tn i s.heap → J.stop i H →
  wpAny (model P w) X.A (pyNext (.ref it)) (fun r s1 => r = none ∧ Inv X pins σ H s1) E s
 self : ∀ (A : Around) (i : Nat) (s : Shared) (Q : Value → Shared → Prop) (E : Value → Shared → Prop), tn i s.heap → Q (.ref it) s → wpAny (model P w) A (pyIter (.ref it)) Q E s
abbrev TI := St → Hp → (It → Hp → Prop) → Prop
def PIE (X : Cx) (pins : List (Addr × Obj)) (σ : St) (tg : Expr) (R : It → Hp → Prop) (itv : Value) (s2 : Shared) : Prop :=
 ∃ (it : Addr) (fp : List Addr) (tn : Nat → Heap → Prop) (J : It) (H' : Hp), itv = .ref it ∧ Inv X pins σ H' s2 ∧ Turn X.prog X.w X.K tg J fp it tn ∧ tn 0 s2.heap ∧ (∀ b ∈ fp, FpOk X pins H' b) ∧ R J H'
def PI (X : Cx) (tg iter : Expr) (wi : TI) : Prop :=
 ∀ (pins : List (Addr × Obj)) (s : Shared) (σ : St) (H : Hp) (R : It → Hp → Prop), Inv X pins σ H s → wi σ H R →
  wpAny (model X.prog X.w) X.A (eval iter X.env) (fun v s1 => wpAny (model X.prog X.w) X.A (pyIter v) (PIE X pins σ tg R) X.xe s1) X.xe s
theorem go_of {M : Model} {A : Around} {E : Value → Shared → Prop} {s : Shared} {tg : Expr} {it : Addr} {u : Value} {o : Obj} {n : String} {vs : Array Value} {Q : Unit → Shared → Prop} (ho : s.heap.get? it = some o) (hc : o.cls = .type n) (hd : o.data = .fields vs)
    (hn : ["enumerate", "zip", "dict_itemiterator", "dict_reverseitemiterator", "odict_iterator", "itertools.zip_longest", "itertools.pairwise"].contains n = false) (hQ : Q () s) : wpAny M A (letOwnedTupleGo tg (.ref it) u) Q E s := by
  unfold letOwnedTupleGo
  cases tg <;> first
    | exact wpAny_pure hQ
    | (cases u <;> first
        | exact wpAny_pure hQ
        | (refine wpAny_bind (wpAny_load ho ?_)
           rw [hc, hd]
           show wpAny M A (if (["enumerate", "zip", "dict_itemiterator", "dict_reverseitemiterator", "odict_iterator", "itertools.zip_longest", "itertools.pairwise"].contains n && vs[0]? == some (rawInt _)) = true then _ else _) Q E s
           rw [if_neg (by intro h; rw [hn, Bool.false_and] at h; cases h)]
           exact wpAny_pure hQ))
def Itl (K : PySem.W.Frag) (a : Addr) : It :=
 ⟨fun i H => ∃ xs x, SqL K H a xs ∧ xs[i]? = some x, fun i H x H' => H' = H ∧ ∀ xs, SqL K H a xs → xs[i]? = some x, fun i H => ∃ xs, SqL K H a xs ∧ xs.length ≤ i⟩
def Itr (lo : Int) (n : Nat) : It := ⟨fun i _ => i < n, fun i H x H' => H' = H ∧ x = .int (lo + i), fun i _ => n ≤ i⟩
theorem turn_list {P : Program} {w : World} {K : PySem.W.Frag} {tg : Expr} (a it : Addr) : Turn P w K tg (Itl K a) [it] it (fun i h => h.IsListIter it a i) where
 mem := by simp
 obj := fun i h st b hb => by
  have e : b = it := by simpa using hb
  subst e
  obtain ⟨o, e, c, d⟩ := st
  exact ⟨o, e, fun v z => by rw [d] at z; cases z⟩
 keep := fun i h h' st k => st.at fun o e => k it (by simp) o e
 item := by
  intro X hP hw hK hc i pins s σ H E I hf st hg
  subst hP hw hK
  obtain ⟨xs, x, hq, hx⟩ := hg
  obtain ⟨its, rv, p, hz⟩ := I.list hq
  obtain ⟨u, hu, ru⟩ := rv.get hx
  obtain ⟨f0, f1, f2, f3, f4, f5⟩ := hf it (by simp)
  refine wpAny_pyNext_list_item st p.isList (x := u) (by simpa using hu) fun h' st' sb => ?_
  have I1 : Inv X pins σ H { s with heap := h' } := I.turned (t' := s.toks) (fun b o hb e => (sb.2 b hb).trans e) f0 f1 f3 f4 f5
  obtain ⟨o, e, c, d⟩ := id st'
  exact ⟨u, rfl, go_of (s := { s with heap := h' }) e c d (by decide) ⟨x, H, I1, ru, ⟨rfl, fun ys hy => by rw [I.list_inj hy hq]; exact hx⟩, st', fun b hb => (hf b hb).1⟩⟩
 done := by
  intro X hP hw hK hc i pins s σ H E I hf st hg
  subst hP hw hK
  obtain ⟨xs, hq, hx⟩ := hg
  obtain ⟨its, rv, p, hz⟩ := I.list hq
  obtain ⟨f0, f1, f2, f3, f4, f5⟩ := hf it (by simp)
  have hl := rv.length
  exact wpAny_pyNext_list_end (I.ok.hd hc) st p.isList (by simp; omega) fun h' eb => ⟨rfl, I.turned (t' := s.toks) (fun b o hb e => eb b o hb e) f0 f1 f3 f4 f5⟩
 self := fun _ _ _ _ _ st h => wpAny_pyIter_listiter st h
theorem turn_range {P : Program} {w : World} {K : PySem.W.Frag} {tg : Expr} (it : Addr) (lo : Int) (n : Nat) : Turn P w K tg (Itr lo n) [it] it (fun i h => IsRangeIter h it (lo + (i : Nat) * 1) ((n : Int) - (i : Nat)) 1) where
 mem := by simp
 obj := fun i h st b hb => by
  have e : b = it := by simpa using hb
  subst e
  exact ⟨_, st, fun v z => by
   have z' : Data.fields _ = Data.cell v := z
   cases z'⟩
 keep := fun i h h' st k => k it (by simp) _ st
 item := by
  intro X hP hw hK hc i pins s σ H E I hf st hg
  subst hP hw hK
  obtain ⟨f0, f1, f2, f3, f4, f5⟩ := hf it (by simp)
  have W := Walks.range (prog := X.prog) (w := X.w) (I.ok.hd hc) it lo 1 n
  refine W.item i s _ _ hg st fun v h' tk hv st' kk => ?_
  obtain ⟨t, rfl⟩ := hv
  have I1 : Inv X pins σ H { s with heap := h', toks := tk } := I.turned (fun b o hb e => kk b o (by simpa using hb) e) f0 f1 f3 f4 f5
  refine ⟨_, rfl, go_of (s := { s with heap := h', toks := tk }) (n := "range_iterator") st' rfl rfl (by decide) ⟨.int (lo + i), H, I1, ⟨t, ?_⟩, ⟨rfl, rfl⟩, st', fun b hb => (hf b hb).1⟩⟩
  rw [Int.mul_one]
 done := by
  intro X hP hw hK hc i pins s σ H E I hf st hg
  subst hP hw hK
  obtain ⟨f0, f1, f2, f3, f4, f5⟩ := hf it (by simp)
  exact wpAny_pyNext_range_end (I.ok.hd hc) st (by have : n ≤ i := hg; omega) fun h' eb => ⟨rfl, I.turned (t' := s.toks) (fun b o hb e => eb b o hb e) f0 f1 f3 f4 f5⟩
 self := fun _ _ _ _ _ st h => wpAny_pyIter_rangeiter st h
end L2
namespace L2
open PySem PySem.Spec PyProof.Rows
section
variable {X : Cx} {tg : Expr}
def iList (K : PySem.W.Frag) (tl : TE) : TI := fun σ H R => tl σ H fun x H1 => ∃ a, x = .ref a ∧ (∃ xs, SqL K H1 a xs) ∧ R (Itl K a) H1
theorem pi_list {l : Expr} {tl : TE} (hl : PE X l tl) : PI X tg l (iList X.K tl) := by
 intro pins s σ H R I h
 refine thn (hl pins s σ H _ I h) fun v s1 ⟨x, H1, I1, r1, q1⟩ => ?_
 obtain ⟨a, e, ⟨xs, hq⟩, q⟩ := q1
 subst e
 cases r1
 obtain ⟨its, rv, p, hz⟩ := I1.list hq
 refine wpAny_pyIter_list p.isList ?_
 refine ⟨s1.heap.objs.size, [s1.heap.objs.size], _, _, H1, rfl, I1.kept (t' := s1.toks) fun b o e => Heap.get?_push_of_some _ e, turn_list a _, ⟨_, Heap.get?_push_size _ rfl, rfl, rfl⟩, fun b hb => ?_, q⟩
 have e : b = s1.heap.objs.size := by simpa using hb
 subst e
 exact I1.fpOk (Nat.le_refl _) (I1.hok.fresh (Nat.le_refl _))
theorem range_it {pins : List (Addr × Obj)} {σ : St} {H : Hp} {s : Shared} {R : It → Hp → Prop} {E : Value → Shared → Prop} {lo hi : Int} {t u v : Tok} {tk : Nat} (I : Inv X pins σ H s) (h1 : -(2 ^ 62) ≤ lo) (h2 : lo < 2 ^ 62) (h3 : -(2 ^ 62) ≤ hi) (h4 : hi < 2 ^ 62)
  (q : R (Itr lo (hi - lo).toNat) H) : wpAny (model X.prog X.w) X.A (pyIter (.ref s.heap.objs.size)) (PIE X pins σ tg R) E { s with heap := s.heap.push { cls := .type "range", data := .fields #[.int lo t, .int hi u, .int 1 v] }, toks := tk } := by
 refine wpAny_pyIter_range (IsRange.new ..) (small_one h1 h2 h3 h4) ?_
 have I1 : Inv X pins σ H { s with heap := s.heap.push { cls := .type "range", data := .fields #[.int lo t, .int hi u, .int 1 v] }, toks := tk } := I.kept fun b o e => Heap.get?_push_of_some _ e
 refine ⟨(s.heap.push { cls := .type "range", data := .fields #[.int lo t, .int hi u, .int 1 v] }).objs.size, [(s.heap.push { cls := .type "range", data := .fields #[.int lo t, .int hi u, .int 1 v] }).objs.size], _, _, H, rfl,
  I1.kept (t' := tk) fun b o e => Heap.get?_push_of_some _ e, turn_range _ lo (hi - lo).toNat, ?_, fun b hb => ?_, q⟩
 ·have e1 : lo + ((0 : Nat) : Int) * 1 = lo := by simp
  have e2 : (((hi - lo).toNat : Nat) : Int) - ((0 : Nat) : Int) = Builtin.Range.rangeSize lo hi 1 := by rw [rangeSize_one]; split <;> omega
  show IsRangeIter _ _ (lo + ((0 : Nat) : Int) * 1) ((((hi - lo).toNat : Nat) : Int) - ((0 : Nat) : Int)) 1
  rw [e1, e2]
  exact Heap.get?_push_size _ rfl
 ·have e : b = (s.heap.push { cls := .type "range", data := .fields #[.int lo t, .int hi u, .int 1 v] }).objs.size := by simpa using hb
  subst e
  exact I1.fpOk (Nat.le_refl _) (I1.hok.fresh (Nat.le_refl _))
def iRng1 (ta : TA) : TI := fun σ H R => ta σ H fun vs H1 => ∃ j : Int, vs = [.int j] ∧ -(2 ^ 62) ≤ j ∧ j < 2 ^ 62 ∧ R (Itr 0 j.toNat) H1
theorem pi_range1 {a : Expr} {ta : TA} {p pos : Pos} (hg : Gl X "range") (hm : X.mg "range" = none) (ha : PA X [a] ta) (hs : starEach [a] X.env = [(false, eval a X.env)] := by rfl) : PI X tg (.Call (.Name "range" p) [a] [] pos) (iRng1 ta) := by
 intro pins s σ H R I h
 refine Call_ (ld_blt I hg hm boot_range (PyProof.Rows.callWith_type1 (thn (ha pos pins s σ H _ I h) fun us s1 ⟨vs, H1, I1, r1, q1⟩ => ?_) hs rfl))
 obtain ⟨j, e, q1, q2, q⟩ := q1
 subst e
 cases r1 with
 | cons r rr =>
  cases rr
  obtain ⟨t, rfl⟩ := r
  exact call_range_1 (range_it I1 (by omega) (by omega) q1 q2 (by simpa using q))
def tFor (wi : TI) (g : TG) (tb : TS) : TS := fun D σ H => wi σ H fun J H1 => ∃ W : Nat → Nat → St → Hp → Prop, (∃ m, W 0 m σ H1) ∧ ∀ i m σ H, W i m σ H →
 (J.stop i H ∧ D.nx σ H) ∨ (J.go i H ∧ ∃ N : St → Hp → Prop, (∀ σ' H', N σ' H' → ∃ m', m' < m ∧ W (i + 1) m' σ' H') ∧ ∀ x H', J.yld i H x H' → g x σ H' fun σ2 H2 => tb { D with nx := N, ct := N, bk := D.nx } σ2 H2)
def pinsAt (fp : List Addr) (h : Heap) : List (Addr × Obj) := fp.filterMap fun b => (h.get? b).map fun o => (b, o)
theorem mem_pinsAt {fp : List Addr} {h : Heap} {b : Addr} {o : Obj} (hb : b ∈ fp) (e : h.get? b = some o) : (b, o) ∈ pinsAt fp h := List.mem_filterMap.mpr ⟨b, hb, by rw [e]; rfl⟩
theorem of_pinsAt {fp : List Addr} {h : Heap} {p : Addr × Obj} (hp : p ∈ pinsAt fp h) : p.1 ∈ fp ∧ h.get? p.1 = some p.2 := by
 obtain ⟨b, hb, e⟩ := List.mem_filterMap.mp hp
 cases q : h.get? b with
 | none => rw [q] at e; cases e
 | some o =>
  rw [q] at e
  have e' : (b, o) = p := Option.some.inj e
  subst e'
  exact ⟨hb, q⟩
theorem Inv.pinned {pins : List (Addr × Obj)} {σ : St} {H : Hp} {s : Shared} {fp : List Addr} (I : Inv X pins σ H s) (hf : ∀ b ∈ fp, FpOk X pins H b) (ho : ∀ b ∈ fp, ∃ o, s.heap.get? b = some o ∧ ∀ v, o.data ≠ .cell v) : Inv X (pins ++ pinsAt fp s.heap) σ H s :=
 I.pins_of fun p hp => (List.mem_append.mp hp).elim (fun z => I.pin p (List.mem_append_right _ z)) fun z => by
  obtain ⟨hb, e⟩ := of_pinsAt z
  obtain ⟨f0, f1, f2, _⟩ := hf p.1 hb
  obtain ⟨o, e', d⟩ := ho p.1 hb
  rw [e] at e'; cases e'
  exact ⟨e, f0, f1, f2, d⟩
theorem Inv.unpinned {pins pl : List (Addr × Obj)} {σ : St} {H : Hp} {s : Shared} (I : Inv X (pins ++ pl) σ H s) : Inv X pins σ H s := I.pins_of fun p hp => I.pin p (List.mem_append_right _ (List.mem_append_left _ hp))
theorem ps_for {iter : Expr} {body : List Stmt} {wi : TI} {g : TG} {tb : TS} {pos : Pos} (hp : PassesOwn (model X.prog X.w) X.A X.env X.xe) (hc : X.calm = true) (hi : PI X tg iter wi) (hg : PG X tg g) (hb : PSs X body tb)
  (hs : ∀ x, foldedSetIterable iter X.env x = pure x := by intro _; rfl) : PS X (.For tg iter body [] pos) (tFor wi g tb) := by
 intro pins s σ H D I h
 refine wpAny_For (thn (hi pins s σ H _ I h) fun v s1 h1 => thn h1 fun itv s2 h2 => ?_) hs
 obtain ⟨it, fp, tn, J, H2, e, I2, T, st2, f2, W, ⟨m0, w0⟩, turn⟩ := h2
 subst e
 have stat : ∀ {H' : Hp}, (∀ b ∈ fp, H' b = none) → ∀ b ∈ fp, FpOk X pins H' b := fun hn b hb => ⟨hn b hb, (f2 b hb).2⟩
 refine codeAny_forLoop_any (fun n s' => ∃ i σ' H', Inv X pins σ' H' s' ∧ tn i s'.heap ∧ (∀ b ∈ fp, H' b = none) ∧ W i n σ' H') ?_ m0 ⟨0, σ, H2, I2, st2, fun b hb => (f2 b hb).1, w0⟩
 rintro n s3 ⟨i, σ3, H3, I3, st3, fr3, w3⟩
 rcases turn i n σ3 H3 w3 with ⟨stop, qn⟩ | ⟨go, N, hN, step⟩
 ·refine wpAny_passesOwn hp (thn (T.done X rfl rfl rfl hc i pins s3 σ3 H3 X.xe I3 (stat fr3) st3 stop) fun r s4 ⟨hr, I4⟩ => ?_)
  subst hr
  exact wpAny_execs_nil ⟨σ3, H3, I4, qn⟩
 ·refine wpAny_passesOwn hp (thn (T.item X rfl rfl rfl hc i pins s3 σ3 H3 X.xe I3 (stat fr3) st3 go) fun r s4 ⟨u, hr, h4⟩ => ?_)
  subst hr
  refine wpAny_passesOwn hp (thn h4 fun _ s5 ⟨x, H5, I5, r5, y5, st5, fr5⟩ => ?_)
  have I5' := I5.pinned (stat fr5) (T.obj _ _ st5)
  refine wpAny_passesOwn hp (thn (hg _ s5 σ3 H5 x u _ I5' r5 (step x H5 y5)) fun _ s6 ⟨σ6, H6, I6, q6⟩ => ?_)
  refine wpAny_passesOwn hp (thn (hb _ s6 σ6 H6 _ I6 q6) fun f s7 q7 => ?_)
  have again : ∀ {σ7 : St} {H7 : Hp}, Inv X (pins ++ pinsAt fp s5.heap) σ7 H7 s7 → N σ7 H7 → ∃ m, m < n ∧ ∃ i σ' H', Inv X pins σ' H' s7 ∧ tn i s7.heap ∧ (∀ b ∈ fp, H' b = none) ∧ W i m σ' H' := fun {σ7 H7} I7 n7 => by
   obtain ⟨m', hm, w7⟩ := hN σ7 H7 n7
   refine ⟨m', hm, i + 1, σ7, H7, I7.unpinned, T.keep _ _ _ st5 fun b hb o e => (I7.pin (b, o) (List.mem_append_right _ (List.mem_append_right _ (mem_pinsAt hb e)))).1, fun b hb => ?_, w7⟩
   obtain ⟨o, e, d⟩ := T.obj _ _ st5 b hb
   exact (I7.pin (b, o) (List.mem_append_right _ (List.mem_append_right _ (mem_pinsAt hb e)))).2.1
  cases f with
  | next => obtain ⟨σ7, H7, I7, n7⟩ := q7; exact again I7 n7
  | cont => obtain ⟨σ7, H7, I7, n7⟩ := q7; exact again I7 n7
  | brk => obtain ⟨σ7, H7, I7, q7⟩ := q7; exact ⟨σ7, H7, I7.unpinned, q7⟩
  | ret v => obtain ⟨x7, σ7, H7, I7, r7, q7⟩ := q7; exact ⟨x7, σ7, H7, I7.unpinned, r7, q7⟩
end
theorem for_list {K : PySem.W.Frag} {a : Addr} {xs : List V} {g : TG} {tb : TS} {D : Ends} {σ : St} {H : Hp} (Pv : Nat → St → Hp → Prop) (h0 : Pv 0 σ H) (hl : ∀ i σ H, i ≤ xs.length → Pv i σ H → SqL K H a xs)
  (hs : ∀ i x σ H, xs[i]? = some x → Pv i σ H → g x σ H fun σ2 H2 => tb { D with nx := Pv (i + 1), ct := Pv (i + 1), bk := D.nx } σ2 H2) (hd : ∀ σ H, Pv xs.length σ H → D.nx σ H) :
  ∃ W : Nat → Nat → St → Hp → Prop, (∃ m, W 0 m σ H) ∧ ∀ i m σ H, W i m σ H →
   ((Itl K a).stop i H ∧ D.nx σ H) ∨ ((Itl K a).go i H ∧ ∃ N : St → Hp → Prop, (∀ σ' H', N σ' H' → ∃ m', m' < m ∧ W (i + 1) m' σ' H') ∧ ∀ x H', (Itl K a).yld i H x H' → g x σ H' fun σ2 H2 => tb { D with nx := N, ct := N, bk := D.nx } σ2 H2) := by
 refine ⟨fun i m σ H => m = xs.length - i ∧ i ≤ xs.length ∧ Pv i σ H, ⟨xs.length, by simp, Nat.zero_le _, h0⟩, ?_⟩
 rintro i m σ H ⟨rfl, hi, p⟩
 have q := hl i σ H hi p
 by_cases hlt : i < xs.length
 ·refine .inr ⟨⟨xs, xs[i], q, by simp [hlt]⟩, Pv (i + 1), fun σ' H' p' => ⟨xs.length - (i + 1), by omega, rfl, hlt, p'⟩, fun x H' y => ?_⟩
  obtain ⟨e, y⟩ := y
  subst e
  exact hs i x σ _ (y xs q) p
 ·have e : i = xs.length := by omega
  subst e
  exact .inl ⟨⟨xs, q, Nat.le_refl _⟩, hd σ H p⟩
theorem for_range {lo : Int} {n : Nat} {g : TG} {tb : TS} {D : Ends} {σ : St} {H : Hp} (Pv : Nat → St → Hp → Prop) (h0 : Pv 0 σ H)
  (hs : ∀ i σ H, i < n → Pv i σ H → g (.int (lo + i)) σ H fun σ2 H2 => tb { D with nx := Pv (i + 1), ct := Pv (i + 1), bk := D.nx } σ2 H2) (hd : ∀ σ H, Pv n σ H → D.nx σ H) :
  ∃ W : Nat → Nat → St → Hp → Prop, (∃ m, W 0 m σ H) ∧ ∀ i m σ H, W i m σ H →
   ((Itr lo n).stop i H ∧ D.nx σ H) ∨ ((Itr lo n).go i H ∧ ∃ N : St → Hp → Prop, (∀ σ' H', N σ' H' → ∃ m', m' < m ∧ W (i + 1) m' σ' H') ∧ ∀ x H', (Itr lo n).yld i H x H' → g x σ H' fun σ2 H2 => tb { D with nx := N, ct := N, bk := D.nx } σ2 H2) := by
 refine ⟨fun i m σ H => m = n - i ∧ i ≤ n ∧ Pv i σ H, ⟨n, by simp, Nat.zero_le _, h0⟩, ?_⟩
 rintro i m σ H ⟨rfl, hi, p⟩
 by_cases hlt : i < n
 ·refine .inr ⟨hlt, Pv (i + 1), fun σ' H' p' => ⟨n - (i + 1), by omega, rfl, hlt, p'⟩, fun x H' y => ?_⟩
  obtain ⟨e, y⟩ := y
  subst e y
  exact hs i σ _ hlt p
 ·have e : i = n := by omega
  subst e
  exact .inl ⟨Nat.le_refl _, hd σ H p⟩
end L2
namespace L2
open PySem PySem.Spec PyProof.Rows
abbrev R2 := V → V → Hp → VK → Prop
def OpR (X : Cx) (f : Value → Value → Sem Value) (r : R2) : Prop :=
 ∀ (pins : List (Addr × Obj)) (s : Shared) (σ : St) (H : Hp) (x y : V) (v u : Value) (Q : VK), Inv X pins σ H s → RelV x v → RelV y u → r x y H Q →
  wpAny (model X.prog X.w) X.A (f v u) (EP X pins σ Q) X.xe s
def UnR (X : Cx) (f : Value → Sem Value) (r : V → Hp → VK → Prop) : Prop :=
 ∀ (pins : List (Addr × Obj)) (s : Shared) (σ : St) (H : Hp) (x : V) (v : Value) (Q : VK), Inv X pins σ H s → RelV x v → r x H Q →
  wpAny (model X.prog X.w) X.A (f v) (EP X pins σ Q) X.xe s
def CallR (X : Cx) (f : Value) (r : List V → Hp → VK → Prop) : Prop :=
 ∀ (pins : List (Addr × Obj)) (s : Shared) (σ : St) (H : Hp) (xs : List V) (us : List Value) (Q : VK), Inv X pins σ H s → Vals xs us → r xs H Q →
  wpAny (model X.prog X.w) X.A (call f us) (EP X pins σ Q) X.xe s
def tOp (r : R2) (ta tb : TE) : TE := fun σ H Q => ta σ H fun x H1 => tb σ H1 fun y H2 => r x y H2 Q
def tUn (r : V → Hp → VK → Prop) (ta : TE) : TE := fun σ H Q => ta σ H fun x H1 => r x H1 Q
def rI (C : Int → Int → Prop) (g : Int → Int → V) : R2 := fun x y H Q => ∃ i j, x = .int i ∧ y = .int j ∧ C i j ∧ Q (g i j) H
def rI0 (g : Int → Int → V) : R2 := fun x y H Q => ∃ i j, x = .int i ∧ y = .int j ∧ Q (g i j) H
def rU (g : Int → V) : V → Hp → VK → Prop := fun x H Q => ∃ i, x = .int i ∧ Q (g i) H
section
variable {X : Cx} {a b c : Expr} {ta tb tc : TE} {pos : Pos}
theorem binT (ha : PE X a ta) (hb : PE X b tb) {pins : List (Addr × Obj)} {s : Shared} {σ : St} {H : Hp} {R : V → V → Hp → Prop} (I : Inv X pins σ H s)
  (h : ta σ H fun x H1 => tb σ H1 fun y H2 => R x y H2) {Q : Value → Shared → Prop} {f : Value → Value → Sem Value}
  (hf : ∀ v u s2 x y H2, Inv X pins σ H2 s2 → RelV x v → RelV y u → R x y H2 → wpAny (model X.prog X.w) X.A (f v u) Q X.xe s2) :
  wpAny (model X.prog X.w) X.A (eval a X.env) (fun v s₁ => wpAny (model X.prog X.w) X.A (eval b X.env) (fun u s₂ => wpAny (model X.prog X.w) X.A (f v u) Q X.xe s₂) X.xe s₁) X.xe s := by
 refine thn (ha pins s σ H _ I h) fun v s1 ⟨x, H1, I1, r1, q1⟩ => ?_
 refine thn (hb pins s1 σ H1 _ I1 q1) fun u s2 ⟨y, H2, I2, r2, q2⟩ => ?_
 exact hf v u s2 x y H2 I2 r1 r2 q2
theorem pe_op {op : Operator} {r : R2} (ho : OpR X (binaryOp op) r) (ha : PE X a ta) (hb : PE X b tb) : PE X (.BinOp a op b pos) (tOp r ta tb) := by
 intro pins s σ H Q I h
 exact wpAny_BinOp (binT ha hb I h fun v u s2 x y H2 I2 rx ry q => ho pins s2 σ H2 x y v u Q I2 rx ry q)
theorem pe_un {op : UnaryOp} {r : V → Hp → VK → Prop} (ho : UnR X (unaryOp op) r) (ha : PE X a ta) : PE X (.UnaryOp op a pos) (tUn r ta) := by
 intro pins s σ H Q I h
 exact UnaryOp_ (thn (ha pins s σ H _ I h) fun v s1 ⟨x, H1, I1, r1, q1⟩ => ho pins s1 σ H1 x v Q I1 r1 q1)
theorem opI {f : Value → Value → Sem Value} {C : Int → Int → Prop} {g : Int → Int → Int}
  (rule : ∀ (i j : Int) (t u : Tok) (s : Shared) (Q : Value → Shared → Prop) (E : Value → Shared → Prop), C i j → Q (.int (g i j) s.toks) { s with toks := s.toks + 1 } → wpAny (model X.prog X.w) X.A (f (.int i t) (.int j u)) Q E s) :
  OpR X f (rI C fun i j => .int (g i j)) := by
 intro pins s σ H x y v u Q I rx ry h
 obtain ⟨i, j, rfl, rfl, hc, q⟩ := h
 obtain ⟨t, rfl⟩ := rx
 obtain ⟨t', rfl⟩ := ry
 exact rule i j t t' s _ _ hc ⟨.int (g i j), H, I.tok _, ⟨_, rfl⟩, q⟩
theorem opI0 {f : Value → Value → Sem Value} {g : Int → Int → Int}
  (rule : ∀ (i j : Int) (t u : Tok) (s : Shared) (Q : Value → Shared → Prop) (E : Value → Shared → Prop), Q (.int (g i j) s.toks) { s with toks := s.toks + 1 } → wpAny (model X.prog X.w) X.A (f (.int i t) (.int j u)) Q E s) :
  OpR X f (rI0 fun i j => .int (g i j)) := by
 intro pins s σ H x y v u Q I rx ry h
 obtain ⟨i, j, rfl, rfl, q⟩ := h
 obtain ⟨t, rfl⟩ := rx
 obtain ⟨t', rfl⟩ := ry
 exact rule i j t t' s _ _ ⟨.int (g i j), H, I.tok _, ⟨_, rfl⟩, q⟩
theorem opB0 {f : Value → Value → Sem Value} {g : Int → Int → Bool}
  (rule : ∀ (i j : Int) (t u : Tok) (s : Shared) (Q : Value → Shared → Prop) (E : Value → Shared → Prop), Q (.bool (g i j)) s → wpAny (model X.prog X.w) X.A (f (.int i t) (.int j u)) Q E s) :
  OpR X f (rI0 fun i j => .bl (g i j)) := by
 intro pins s σ H x y v u Q I rx ry h
 obtain ⟨i, j, rfl, rfl, q⟩ := h
 obtain ⟨t, rfl⟩ := rx
 obtain ⟨t', rfl⟩ := ry
 exact rule i j t t' s _ _ ⟨.bl (g i j), H, I, rfl, q⟩
def CDiv (i j : Int) : Prop := 0 < j ∧ j < 1073741824
def CPow (i j : Int) : Prop := 0 ≤ j ∧ j ≤ 1000000 ∧ i.natAbs < 2 ^ 64
def CMul (i j : Int) : Prop := (-(2 ^ 64) < i ∧ i < 2 ^ 64) ∨ (-(2 ^ 64) < j ∧ j < 2 ^ 64)
theorem CMul.ok {i j : Int} (h : CMul i j) : IntMulOk i j := by
 rcases h with ⟨h1, h2⟩ | ⟨h1, h2⟩
 ·exact .of_left (intBits_le_64 h1 h2)
 ·exact .of_right (intBits_le_64 h1 h2)
theorem op_add : OpR X (binaryOp .Add) (rI0 fun i j => .int (i + j)) := opI0 fun _ _ _ _ _ _ _ q => add_int q
theorem op_sub : OpR X (binaryOp .Sub) (rI0 fun i j => .int (i - j)) := opI0 fun _ _ _ _ _ _ _ q => sub_int q
theorem op_mul : OpR X (binaryOp .Mult) (rI CMul fun i j => .int (i * j)) := opI fun _ _ _ _ _ _ _ hc q => mul_int q hc.ok
theorem op_fdiv : OpR X (binaryOp .FloorDiv) (rI CDiv fun i j => .int (i / j)) := opI fun i j _ _ _ _ _ hc q => by
 have h1 : (0 : Int) < j := hc.1
 have h2 : j < 1073741824 := hc.2
 exact floordiv_int (by omega) (by rw [Int.fdiv_eq_ediv_of_nonneg i (by omega)]; exact q) (.inl (PyProof.noPylong_small (by omega)))
theorem op_mod : OpR X (binaryOp .Mod) (rI (fun _ j => 0 < j) fun i j => .int (i % j)) := opI fun i j _ _ _ _ _ hc q => by
 have h1 : (0 : Int) < j := hc
 exact mod_int' (by omega) (by rw [Int.fmod_eq_emod_of_nonneg i (by omega)]; exact q)
theorem op_pow : OpR X (binaryOp .Pow) (rI CPow fun i j => .int (i ^ j.toNat)) := opI fun _ _ _ _ _ _ _ hc q => pow_int_small hc.1 hc.2.1 hc.2.2 q
theorem unI {f : Value → Sem Value} {g : Int → Int}
  (rule : ∀ (i : Int) (t : Tok) (s : Shared) (Q : Value → Shared → Prop) (E : Value → Shared → Prop), Q (.int (g i) s.toks) { s with toks := s.toks + 1 } → wpAny (model X.prog X.w) X.A (f (.int i t)) Q E s) :
  UnR X f (rU fun i => .int (g i)) := by
 intro pins s σ H x v Q I rx h
 obtain ⟨i, rfl, q⟩ := h
 obtain ⟨t, rfl⟩ := rx
 exact rule i t s _ _ ⟨.int (g i), H, I.tok _, ⟨_, rfl⟩, q⟩
theorem un_neg : UnR X (unaryOp .USub) (rU fun i => .int (-i)) := unI fun _ _ _ _ _ q => neg_int q
end
def scal : V → V → Bool
 | .non, .non => true | .non, .int _ => true | .int _, .non => true | .non, .bl _ => true | .bl _, .non => true | .non, .str _ => true | .str _, .non => true
 | .int _, .int _ => true | .bl _, .bl _ => true | .str _, .str _ => true | .byt _, .byt _ => true
 | .int _, .str _ => true | .str _, .int _ => true | .bl _, .str _ => true | .str _, .bl _ => true
 | _, _ => false
def rEq : R2 := fun x y H Q => scal x y = true ∧ Q (.bl (decide (x = y))) H
def rNe : R2 := fun x y H Q => scal x y = true ∧ Q (.bl (!decide (x = y))) H
theorem dec_int {i j : Int} : decide (V.int i = V.int j) = (i == j) := by
 rw [Bool.eq_iff_iff]
 simp
theorem dec_bl {i j : Bool} : decide (V.bl i = V.bl j) = (i == j) := by
 rw [Bool.eq_iff_iff]
 simp
theorem dec_str {i j : Str} : decide (V.str i = V.str j) = (i == j) := by
 rw [Bool.eq_iff_iff]
 simp
theorem dec_byt {i j : Array UInt8} : decide (V.byt i = V.byt j) = (i.toList == j.toList) := by
 rw [Bool.eq_iff_iff]
 cases i
 cases j
 simp
section
variable {X : Cx} {a b c : Expr} {ta tb tc : TE} {pos : Pos}
theorem fin_bl {pins : List (Addr × Obj)} {σ : St} {H : Hp} {s : Shared} {Q : VK} {k k' : Bool} (I : Inv X pins σ H s) (q : Q (.bl k) H) (e : k = k') : EP X pins σ Q (.bool k') s := by
 subst e
 exact ⟨.bl k, H, I, rfl, q⟩
theorem op_eq : OpR X (compareOp .Eq) rEq := by
 intro pins s σ H x y v u Q I rx ry h
 obtain ⟨hs, q⟩ := h
 cases x with
 | non =>
  cases rx
  cases y with
  | non => cases ry; exact PySem.EqNone.eq_none_none (fin_bl I q (by simp))
  | bl j => cases ry; exact PySem.EqNone.eq_none_bool (fin_bl I q (by simp))
  | int j => obtain ⟨t', rfl⟩ := ry; exact PySem.EqNone.eq_none_int (fin_bl I q (by simp))
  | str j => obtain ⟨t', rfl⟩ := ry; exact PySem.EqNone.eq_none_str (fin_bl I q (by simp))
  | _ => exact absurd (show false = true from hs) Bool.false_ne_true
 | bl i =>
  cases rx
  cases y with
  | non => cases ry; exact PySem.EqNone.eq_bool_none (fin_bl I q (by simp))
  | bl j => cases ry; exact eq_bool (fin_bl I q dec_bl)
  | str j => obtain ⟨t', rfl⟩ := ry; exact PySem.EqMixed.eq_bool_str (fin_bl I q (by simp))
  | _ => exact absurd (show false = true from hs) Bool.false_ne_true
 | int i =>
  obtain ⟨t, rfl⟩ := rx
  cases y with
  | non => cases ry; exact PySem.EqNone.eq_int_none (fin_bl I q (by simp))
  | int j => obtain ⟨t', rfl⟩ := ry; exact eq_int (fin_bl I q dec_int)
  | str j => obtain ⟨t', rfl⟩ := ry; exact PySem.EqMixed.eq_int_str (fin_bl I q (by simp))
  | _ => exact absurd (show false = true from hs) Bool.false_ne_true
 | str i =>
  obtain ⟨t, rfl⟩ := rx
  cases y with
  | non => cases ry; exact PySem.EqNone.eq_str_none (fin_bl I q (by simp))
  | bl j => cases ry; exact PySem.EqMixed.eq_str_bool (fin_bl I q (by simp))
  | int j => obtain ⟨t', rfl⟩ := ry; exact PySem.EqMixed.eq_str_int (fin_bl I q (by simp))
  | str j => obtain ⟨t', rfl⟩ := ry; exact eq_str (fin_bl I q dec_str)
  | _ => exact absurd (show false = true from hs) Bool.false_ne_true
 | byt i =>
  obtain ⟨t, rfl⟩ := rx
  cases y with
  | byt j => obtain ⟨t', rfl⟩ := ry; exact PySem.W.eq_bytes (fin_bl I q dec_byt)
  | _ => exact absurd (show false = true from hs) Bool.false_ne_true
 | _ => cases y <;> exact absurd (show false = true from hs) Bool.false_ne_true
theorem op_ne : OpR X (compareOp .NotEq) rNe := by
 intro pins s σ H x y v u Q I rx ry h
 obtain ⟨hs, q⟩ := h
 cases x with
 | non =>
  cases rx
  cases y with
  | non => cases ry; exact PySem.EqNone.ne_none_none (fin_bl I q (by simp))
  | bl j => cases ry; exact PySem.EqNone.ne_none_bool (fin_bl I q (by simp))
  | int j => obtain ⟨t', rfl⟩ := ry; exact PySem.EqNone.ne_none_int (fin_bl I q (by simp))
  | str j => obtain ⟨t', rfl⟩ := ry; exact PySem.EqNone.ne_none_str (fin_bl I q (by simp))
  | _ => exact absurd (show false = true from hs) Bool.false_ne_true
 | bl i =>
  cases rx
  cases y with
  | non => cases ry; exact PySem.EqNone.ne_bool_none (fin_bl I q (by simp))
  | bl j => cases ry; exact ne_bool (fin_bl I q (congrArg not dec_bl))
  | str j => obtain ⟨t', rfl⟩ := ry; exact PySem.EqMixed.ne_bool_str (fin_bl I q (by simp))
  | _ => exact absurd (show false = true from hs) Bool.false_ne_true
 | int i =>
  obtain ⟨t, rfl⟩ := rx
  cases y with
  | non => cases ry; exact PySem.EqNone.ne_int_none (fin_bl I q (by simp))
  | int j => obtain ⟨t', rfl⟩ := ry; exact ne_int (fin_bl I q (congrArg not dec_int))
  | str j => obtain ⟨t', rfl⟩ := ry; exact PySem.EqMixed.ne_int_str (fin_bl I q (by simp))
  | _ => exact absurd (show false = true from hs) Bool.false_ne_true
 | str i =>
  obtain ⟨t, rfl⟩ := rx
  cases y with
  | non => cases ry; exact PySem.EqNone.ne_str_none (fin_bl I q (by simp))
  | bl j => cases ry; exact PySem.EqMixed.ne_str_bool (fin_bl I q (by simp))
  | int j => obtain ⟨t', rfl⟩ := ry; exact PySem.EqMixed.ne_str_int (fin_bl I q (by simp))
  | str j => obtain ⟨t', rfl⟩ := ry; exact ne_str (fin_bl I q (congrArg not dec_str))
  | _ => exact absurd (show false = true from hs) Bool.false_ne_true
 | byt i =>
  obtain ⟨t, rfl⟩ := rx
  cases y with
  | byt j => obtain ⟨t', rfl⟩ := ry; exact PySem.W.ne_bytes (fin_bl I q (congrArg not dec_byt))
  | _ => exact absurd (show false = true from hs) Bool.false_ne_true
 | _ => cases y <;> exact absurd (show false = true from hs) Bool.false_ne_true
theorem op_lt : OpR X (compareOp .Lt) (rI0 fun i j => .bl (decide (i < j))) := opB0 fun _ _ _ _ _ _ _ q => lt_int q
theorem op_le : OpR X (compareOp .LtE) (rI0 fun i j => .bl (decide (i ≤ j))) := opB0 fun _ _ _ _ _ _ _ q => le_int q
theorem op_gt : OpR X (compareOp .Gt) (rI0 fun i j => .bl (decide (j < i))) := opB0 fun _ _ _ _ _ _ _ q => gt_int q
theorem nomark (b : Expr) {op : CmpOp} (h : op ≠ .In := by decide) (h2 : op ≠ .NotIn := by decide) : behindInMarks op b = false := by
 have e1 : (op == CmpOp.In) = false := by cases op <;> first | rfl | exact absurd rfl h
 have e2 : (op == CmpOp.NotIn) = false := by cases op <;> first | rfl | exact absurd rfl h2
 cases b <;> simp [behindInMarks, e1, e2]
theorem pe_cmpR {op : CmpOp} {r : R2} (ho : OpR X (compareOp op) r) (ha : PE X a ta) (hb : PE X b tb) (hm : behindInMarks op b = false) : PE X (.Compare a [op] [b] pos) (tOp r ta tb) := by
 intro pins s σ H Q I h
 exact wpAny_Compare1 (binT ha hb I h fun v u s2 x y H2 I2 rx ry q => ho pins s2 σ H2 x y v u Q I2 rx ry q) hm
def tTest (t : TE) : TT := fun σ H Q => t σ H fun x H' => ∃ k, x = .bl k ∧ Q k H'
theorem pt_cmpR {op : CmpOp} {r : R2} (ho : OpR X (compareOp op) r) (ha : PE X a ta) (hb : PE X b tb) (hm : behindInMarks op b = false) : PT X (.Compare a [op] [b] pos) (tTest (tOp r ta tb)) := by
 intro pins s σ H Q I h
 refine wpAny_isTrue_Compare1 (thn (ha pins s σ H _ I h) fun v s1 ⟨x, H1, I1, r1, q1⟩ => thn (hb pins s1 σ H1 _ I1 q1) fun u s2 ⟨y, H2, I2, r2, q2⟩ =>
  thn (ho pins s2 σ H2 x y v u _ I2 r1 r2 q2) fun c s3 ⟨z, H3, I3, r3, k, e, q3⟩ => ?_) hm
 subst e
 cases r3
 exact wpAny_truthy_bool ⟨H3, I3, q3⟩
def tChain (r r' : R2) (ta tb tc : TE) : TE := fun σ H Q => ta σ H fun x H1 => tb σ H1 fun y H2 => r x y H2 fun z H3 => ∃ k, z = .bl k ∧
 (if k = true then tc σ H3 fun w' H4 => r' y w' H4 Q else Q (.bl false) H3)
theorem pt_chain {op op' : CmpOp} {r r' : R2} (ho : OpR X (compareOp op) r) (ho' : OpR X (compareOp op') r') (ha : PE X a ta) (hb : PE X b tb) (hc : PE X c tc)
  (hm : lastMarks [op, op'] [b, c] = false := by with_unfolding_all rfl) : PT X (.Compare a [op, op'] [b, c] pos) (tTest (tChain r r' ta tb tc)) := by
 intro pins s σ H Q I h
 refine isTrue_chain (thn (ha pins s σ H _ I h) fun v s1 ⟨x, H1, I1, r1, q1⟩ => test_link (thn (hb pins s1 σ H1 _ I1 q1) fun u s2 ⟨y, H2, I2, r2, q2⟩ =>
  thn (ho pins s2 σ H2 x y v u _ I2 r1 r2 q2) fun d s3 ⟨z, H3, I3, r3, k, e, q3⟩ => ?_)) hm
 subst e
 cases r3
 refine wpAny_truthy_bool ?_
 cases k with
 | false =>
  obtain ⟨k', e', q'⟩ := q3
  cases e'
  exact ite_ff ⟨H3, I3, q'⟩
 | true =>
  refine ite_tt (test_last (thn (hc pins s3 σ H3 _ I3 q3) fun w' s4 ⟨z', H4, I4, r4, q4⟩ => thn (ho' pins s4 σ H4 y z' u w' _ I4 r2 r4 q4) fun d' s5 ⟨z2, H5, I5, r5, k2, e2, q5⟩ => ?_))
  subst e2
  cases r5
  exact wpAny_truthy_bool ⟨H5, I5, q5⟩
theorem line63 : (sizeLine : Nat) < 2 ^ 63 := by rw [sizeLine_eq]; decide
theorem op_add_str : OpR X (binaryOp .Add) (fun x y H Q => ∃ i j, x = .str i ∧ y = .str j ∧ i.length + j.length ≤ sizeLine ∧ Q (.str (i ++ j)) H) := by
 intro pins s σ H x y v u Q I rx ry h
 obtain ⟨i, j, rfl, rfl, hz, q⟩ := h
 obtain ⟨t, rfl⟩ := rx
 obtain ⟨t', rfl⟩ := ry
 exact add_str (fun t' tk => ⟨.str (i ++ j), H, I.tok _, ⟨_, rfl⟩, q⟩) hz
theorem vals1 {x : V} {us : List Value} (r : Vals [x] us) : ∃ u, us = [u] ∧ RelV x u := by
 cases r with
 | cons r1 r2 => cases r2; exact ⟨_, rfl, r1⟩
theorem vals2 {x y : V} {us : List Value} (r : Vals [x, y] us) : ∃ u w', us = [u, w'] ∧ RelV x u ∧ RelV y w' := by
 cases r with
 | cons r1 r2 =>
  cases r2 with
  | cons r3 r4 => cases r4; exact ⟨_, _, rfl, r1, r3⟩
theorem call_abs : CallR X (.builtin "abs") (fun xs H Q => ∃ i, xs = [.int i] ∧ Q (.int (if i < 0 then -i else i)) H) := by
 intro pins s σ H xs us Q I r h
 obtain ⟨i, rfl, q⟩ := h
 obtain ⟨u, rfl, t, rfl⟩ := vals1 r
 exact call_abs_int fun u tk => ⟨.int (if i < 0 then -i else i), H, I.tok _, ⟨_, rfl⟩, q⟩
theorem call_max2 (hc : X.calm = true) : CallR X (.builtin "max") (fun xs H Q => ∃ i j, xs = [.int i, .int j] ∧ Q (.int (if j > i then j else i)) H) := by
 intro pins s σ H xs us Q I r h
 obtain ⟨i, j, rfl, q⟩ := h
 obtain ⟨u, w', rfl, ⟨t, rfl⟩, ⟨t', rfl⟩⟩ := vals2 r
 refine max_two_ints (I.ok.hd hc) fun h' tk k => ⟨_, H, I.kept k, ?_, q⟩
 by_cases hj : j > i
 ·rw [if_pos hj, if_pos hj]; exact ⟨_, rfl⟩
 ·rw [if_neg hj, if_neg hj]; exact ⟨_, rfl⟩
theorem call_min2 (hc : X.calm = true) : CallR X (.builtin "min") (fun xs H Q => ∃ i j, xs = [.int i, .int j] ∧ Q (.int (if j < i then j else i)) H) := by
 intro pins s σ H xs us Q I r h
 obtain ⟨i, j, rfl, q⟩ := h
 obtain ⟨u, w', rfl, ⟨t, rfl⟩, ⟨t', rfl⟩⟩ := vals2 r
 refine min_two_ints (I.ok.hd hc) fun h' tk k => ⟨_, H, I.kept k, ?_, q⟩
 by_cases hj : j < i
 ·rw [if_pos hj, if_pos hj]; exact ⟨_, rfl⟩
 ·rw [if_neg hj, if_neg hj]; exact ⟨_, rfl⟩
theorem call_int1 : CallR X (.type "int") (fun xs H Q => (∃ i, xs = [.int i] ∧ Q (.int i) H) ∨ ∃ k, xs = [.bl k] ∧ Q (.int (if k then 1 else 0)) H) := by
 intro pins s σ H xs us Q I r h
 rcases h with ⟨i, rfl, q⟩ | ⟨k, rfl, q⟩
 ·obtain ⟨u, rfl, t, rfl⟩ := vals1 r
  exact call_int_int ⟨.int i, H, I, ⟨_, rfl⟩, q⟩
 ·obtain ⟨u, rfl, r1⟩ := vals1 r
  cases r1
  exact call_int_bool ⟨.int (if k then 1 else 0), H, I.tok _, ⟨_, rfl⟩, q⟩
end
end L2
namespace L2
open PySem PySem.Spec PyProof.Rows
structure ObjM (h : Heap) (x dx C : Addr) (mA : Str → Option Value) : Prop where
 obj : h.get? x = some (PySem.W.instObj C dx)
 ns : h.Ns1 dx mA
 ne : dx ≠ x
theorem lookIn_ns {h : Heap} {dx : Addr} {mA : Str → Option Value} (n : h.Ns1 dx mA) : ∃ od, h.get? dx = some od ∧ ∀ name, PySem.W.lookIn name od = some (mA name) := by
 obtain ⟨o, es, ep, ho, hd, hk, _, hm⟩ := n
 refine ⟨o, ho, fun name => ?_⟩
 have e := hm name
 unfold nsFind findBy at e
 rw [← Array.find?_toList] at e
 unfold PySem.W.lookIn
 rw [hd]
 dsimp only
 split
 ·rename_i y q
  rw [q] at e
  exact congrArg some e
 ·rename_i q
  rw [q] at e
  have a : es.toList.any (·.refKey) = false := by
   rw [List.any_eq_false]
   intro y hy
   obtain ⟨z, t, hkey⟩ := hk y (Array.mem_toList_iff.mp hy)
   simp [DictEntry.refKey, hkey]
  have a' : ¬ es.toList.any (·.refKey) = true := by rw [a]; exact Bool.false_ne_true
  rw [if_neg a']
  exact congrArg some e
theorem ObjM.look {h : Heap} {x dx C : Addr} {mA : Str → Option Value} (I : ObjM h x dx C mA) : ∃ od, PySem.W.InstAt h x (PySem.W.instObj C dx) C (some od) ∧ ∀ name, PySem.W.lookIn name od = some (mA name) :=
 let ⟨od, ho, hl⟩ := lookIn_ns I.ns
 ⟨od, ⟨I.obj, rfl, rfl, ho⟩, hl⟩
section
variable {prog : Program} {w : World} {A : Around} {E : Value → Shared → Prop} {s : Shared} {K : PySem.W.Frag} {x dx C f : Addr} {mA : Str → Option Value} {name : Str} {v : Value}
end
section
variable {P : Program} {w : World} {H H' : Hp} {h h' : Heap} {a C dx : Addr} {fs fs' : List (Str × V)}
theorem ins_get (hok : HOk P w H h) (e : H a = some (.ins C dx fs)) : ∃ mA, ObjM h a dx C mA ∧ (∀ f, RelO (fs.lookup f) (mA f)) ∧ PySem.Within mA (fs.map (·.1)) ∧ fs.length ≤ 1000 ∧ H dx = some (.own a) := by
 obtain ⟨d, z, ne, ob, mA, n, r, q⟩ := (show ObjOk P w H h a (.ins C dx fs) from hok a _ e)
 exact ⟨mA, ⟨ob, n, ne⟩, r, q, z, d⟩
end
structure Cls (K : PySem.W.Frag) (C : Addr) : Prop where
 pg : PySem.W.plainGet K C Str.empty = true
 hd : PySem.W.hasDictIn K C = true
 po : PySem.W.plainOver K C = true
 sa : PySem.W.findIn K (.ref C) "__setattr__" = some (some (.builtin "object.__setattr__"))
theorem Cls.get {K : PySem.W.Frag} {C : Addr} (c : Cls K C) (f : Str) : PySem.W.plainGet K C f = true := c.pg
structure Con (K : PySem.W.Frag) (C : Addr) (f : Str) (v : V) (u : Value) : Prop where
 at_ : PySem.W.findIn K (.ref C) f = some (some u)
 rel : RelV v u
 get : PySem.W.specialIn K u "__get__" = some none
 cp : PySem.W.copiedNames.contains f = false
structure Meth (K : PySem.W.Frag) (C : Addr) (m : Str) (f : Addr) : Prop where
 at_ : PySem.W.findIn K (.ref C) m = some (some (.ref f))
 fn : PySem.W.isFn K (.ref f) = true
 kp : PySem.W.keepIn K (.ref f) = true
section
variable {X : Cx} {pins : List (Addr × Obj)} {σ : St} {H : Hp} {s : Shared} {a C dx : Addr} {fs : List (Str × V)} {f : Str} {v : V} {A : Around} {E : Value → Shared → Prop}
end
section
variable {X : Cx} {o e value : Expr} {f : Str} {pos pos' tpos : Pos} {ta tv : TE}
end
section
variable {X : Cx} {pins : List (Addr × Obj)} {σ : St} {H : Hp} {s : Shared} {A : Around} {E : Value → Shared → Prop} {Q : Value → Shared → Prop} {c : Value} {b : Bool}
inductive TyOf (K : PySem.W.Frag) (H : Hp) : V → Value → Prop where
 | non : TyOf K H .non (.type "NoneType")
 | bl (x : Bool) : TyOf K H (.bl x) (.type "bool")
 | int (i : Int) : TyOf K H (.int i) (.type "int")
 | str (x : Str) : TyOf K H (.str x) (.type "str")
 | flt (x : UInt64) : TyOf K H (.flt x) (.type "float")
 | lst {a : Addr} {xs : List V} (e : H a = some (.lst xs)) : TyOf K H (.ref a) (.type "list")
 | frz {a : Addr} {o : Obj} {xs : List V} (e : H a = some (.frz o (.lst xs))) : TyOf K H (.ref a) (.type "list")
 | tup {a : Addr} {xs : List V} (e : H a = some (.tup xs)) : TyOf K H (.ref a) (.type "tuple")
 | dK {a : Addr} {kvs : List (Key × V)} (e : H a = some (.dK kvs)) : TyOf K H (.ref a) (.type "dict")
 | dT {a : Addr} {kvs : List (List Key × V)} (e : H a = some (.dT kvs)) : TyOf K H (.ref a) (.type "dict")
 | ins {a C dx : Addr} {fs : List (Str × V)} (e : H a = some (.ins C dx fs)) (cl : Cls K C) (ha : PySem.W.findIn K (.ref C) "__class__" = some (some (.builtin "object.__class__")))
   (hn : PySem.W.specialIn K (.builtin "object.__class__") "__get__" = some (some (.builtin "getset_descriptor.__get__"))) (htk : PySem.W.takesIn K (.builtin "object.__class__") = some true)
   (hm : PySem.W.mroIn K C (.type "object") = some true) : TyOf K H (.ref a) (.ref C)
theorem isinst_ok {x : V} {u t : Value} (I : Inv X pins σ H s) (rx : RelV x u) (ty : TyOf X.K H x t) (e : PySem.W.kitOne X.K t c = some b) (h : ∀ tk, Q (.bool b) { s with toks := tk }) :
  wpAny (model X.prog X.w) A (call (.builtin "isinstance") [u, c]) Q E s := by
 cases ty with
 | non => cases (show u = Value.none from rx); exact PySem.W.kia_one PySem.W.kitx_none I.kIn True.intro e (fun z => nomatch z) h
 | bl y => cases (show u = Value.bool y from rx); exact PySem.W.kia_one PySem.W.kitx_bool I.kIn True.intro e (fun z => nomatch z) h
 | int i => obtain ⟨t, q⟩ := (show ∃ t, u = Value.int i t from rx); cases q; exact PySem.W.kia_one PySem.W.kitx_int I.kIn True.intro e (fun z => nomatch z) h
 | str y => obtain ⟨t, q⟩ := (show ∃ t, u = Value.str y t from rx); cases q; exact PySem.W.kia_one PySem.W.kitx_str I.kIn True.intro e (fun z => nomatch z) h
 | flt y => obtain ⟨t, q⟩ := (show ∃ t, u = Value.float y t from rx); cases q; exact PySem.W.kia_one PySem.W.kitx_float I.kIn True.intro e (fun z => nomatch z) h
 | @lst a xs ea =>
  cases (show u = Value.ref a from rx)
  obtain ⟨_, _, n, _, h1⟩ := (show ObjOk X.prog X.w H s.heap a (.lst xs) from I.hok a _ ea)
  exact PySem.W.kia_one PySem.W.kitx_list I.kIn ⟨_, h1, rfl⟩ e (fun z => nomatch z) h
 | @frz a ob xs ea =>
  cases (show u = Value.ref a from rx)
  obtain ⟨_, _, _, n, _, h1⟩ := (show ObjOk X.prog X.w H s.heap a (.frz ob (.lst xs)) from I.hok a _ ea)
  exact PySem.W.kia_one PySem.W.kitx_list I.kIn ⟨_, h1, rfl⟩ e (fun z => nomatch z) h
 | @tup a xs ea =>
  cases (show u = Value.ref a from rx)
  obtain ⟨_, _, _, p⟩ := (show ObjOk X.prog X.w H s.heap a (.tup xs) from I.hok a _ ea)
  obtain ⟨o, h1, h2, _⟩ := p
  exact PySem.W.kia_one PySem.W.kitx_tuple I.kIn ⟨o, h1, h2⟩ e (fun z => nomatch z) h
 | @dK a kvs ea =>
  cases (show u = Value.ref a from rx)
  obtain ⟨_, _, vs, _, p⟩ := (show ObjOk X.prog X.w H s.heap a (.dK kvs) from I.hok a _ ea)
  obtain ⟨o, es, ep, h1, h2, _⟩ := p
  exact PySem.W.kia_one PySem.W.kitx_dict I.kIn ⟨o, h1, h2.1⟩ e (fun z => nomatch z) h
 | @dT a kvs ea =>
  cases (show u = Value.ref a from rx)
  obtain ⟨_, _, xs, _, o, es, ep, h1, h2, _⟩ := (show ObjOk X.prog X.w H s.heap a (.dT kvs) from I.hok a _ ea)
  exact PySem.W.kia_one PySem.W.kitx_dict I.kIn ⟨o, h1, h2.1⟩ e (fun z => nomatch z) h
 | @ins a C dx fs ea cl ha hn htk hm =>
  cases (show u = Value.ref a from rx)
  obtain ⟨mA, O, _⟩ := ins_get I.hok ea
  obtain ⟨od, J, _⟩ := O.look
  exact PySem.W.kia_one (PySem.W.kitx_own (cl.get _) cl.hd ha hn htk hm) I.kIn J e (fun z => nomatch z) h
end
end L2
namespace L2
open PySem PySem.Spec PyProof.Rows
structure Room (k : Nat) (A : Around) : Prop where
 hd : A.handled = none
 dp : A.depth + 3 * k + 5 < recursionLimit
 un : A.units + 16 * k + 200 < cLine
 gd : A.guards = some []
theorem Room.mono {j k : Nat} {A : Around} (r : Room k A) (h : j ≤ k) : Room j A := ⟨r.hd, by have := r.dp; omega, by have := r.un; omega, r.gd⟩
theorem Room.deeper {k : Nat} {A : Around} (r : Room (k + 1) A) (env : Env) : Room k (A.deeper env) :=
 ⟨r.hd, by have := r.dp; show A.depth + 1 + 3 * k + 5 < _; omega, by have := r.un; show A.units + 3 + 16 * k + 200 < _; omega, r.gd⟩
theorem Room.depth {k : Nat} {A : Around} (r : Room k A) : A.depth < recursionLimit := by have := r.dp; omega
theorem Room.units {k : Nat} {A : Around} (r : Room k A) : A.units + 64 < cLine := by have := r.un; omega
def tNil : TA := fun _ H Q => Q [] H
def tCons (ta : TE) (tr : TA) : TA := fun σ H Q => ta σ H fun x H1 => tr σ H1 fun xs H2 => Q (x :: xs) H2
section
variable {X : Cx} {e : Expr} {es : List Expr} {te : TE} {t : TA} {pos : Pos}
theorem pa_nil : PA X [] tNil := fun _ _ _ _ H Q I h => Calls.spliced_nil ⟨[], H, I, .nil, h⟩
theorem pa_cons (ha : PE X e te) (hr : PA X es t) (hs : starEach (e :: es) X.env = (false, eval e X.env) :: starEach es X.env := by rfl) : PA X (e :: es) (tCons te t) := by
 intro pos pins s σ H Q I h
 rw [hs]
 show wpAny _ _ (spliced ((false, eval e X.env) :: backTo pos (starEach es X.env))) _ _ s
 refine Calls.spliced_cons (thn (ha pins s σ H _ I h) fun u s1 ⟨x, H1, I1, r1, q1⟩ => ?_)
 exact thn (hr pos pins s1 σ H1 _ I1 q1) fun us s2 ⟨xs, H2, I2, r2, q2⟩ => ⟨x :: xs, H2, I2, .cons r1 r2, q2⟩
def tTup (t : TA) : TE := fun σ H Q => t σ H fun xs H1 => xs.length ≤ sizeLine ∧ ∀ p, H1 p = none → Q (.ref p) (upd H1 p (.tup xs))
def tLst (t : TA) : TE := fun σ H Q => t σ H fun xs H1 => xs.length ≤ sizeLine ∧ ∀ p, H1 p = none → Q (.ref p) (upd H1 p (.lst xs))
theorem pe_tup {x1} (h : PA X es t) : PE X (.Tuple es x1 pos) (tTup t) := by
 intro pins s σ H Q I hq
 refine wpAny_Tuple_spliced (thn (h pos pins s σ H _ I hq) fun us s1 ⟨xs, H1, I1, r, z, q⟩ => ⟨by rw [← r.length]; exact z, ?_⟩)
 have hf : H1 s1.heap.objs.size = none := I1.hok.fresh (Nat.le_refl _)
 refine ⟨.ref s1.heap.objs.size, upd H1 s1.heap.objs.size (.tup xs), I1.laid (t' := s1.toks) (fun b u e => Heap.get?_push_of_some _ e) (Nat.le_refl _) ?_, rfl, q _ hf⟩
 exact ⟨z, us, r, ⟨_, Heap.get?_push_size _ rfl, rfl, _, rfl⟩⟩
theorem pe_lst (h : PA X es t) : PE X (.List es pos) (tLst t) := by
 intro pins s σ H Q I hq
 refine wpAny_List_spliced (thn (h pos pins s σ H _ I hq) fun us s1 ⟨xs, H1, I1, r, z, q⟩ => ⟨by rw [← r.length]; exact z, ?_⟩)
 have hf : H1 s1.heap.objs.size = none := I1.hok.fresh (Nat.le_refl _)
 refine ⟨.ref s1.heap.objs.size, upd H1 s1.heap.objs.size (.lst xs), I1.laid (t' := s1.toks) (fun b u e => Heap.get?_push_of_some _ e) (Nat.le_refl _) ?_, rfl, q _ hf⟩
 exact ⟨z, us, 0, r, Heap.get?_push_size _ rfl⟩
end
abbrev Sp := List V → Hp → VK → XK → Prop
abbrev CXT := List Env → Hp → Shared → XK → Value → Shared → Prop
structure Env0 (P : Program) (w : World) (K : PySem.W.Frag) (mg : Str → Option Value) (base : Heap) (A : Around) (outer : List Env) (s : Shared) (H : Hp) : Prop where
 frames : A.frames = some outer
 mod : Mod K mg base
 bs : ∀ b o, base.get? b = some o → s.heap.get? b = some o ∧ H b = none
 bsz : base.objs.size ≤ s.heap.objs.size
 funs : s.heap.FunFrames base outer
 frf : ∀ b ∈ frs outer, H b = none
 hok : HOk P w H s.heap
 bare : AllBare s.gens
def CE (outer : List Env) (P : Program) (w : World) (H : Hp) (s : Shared) (Q : VK) (u : Value) (s' : Shared) : Prop :=
 ∃ v H', s'.os = s.os ∧ AllBare s'.gens ∧ Un (frs outer) [] H H' s.heap s'.heap ∧ HOk P w H' s'.heap ∧ RelV v u ∧ Q v H'
def CR (CX : CXT) (outer : List Env) (P : Program) (w : World) (H : Hp) (s : Shared) (Q : VK) (E : XK) (r : Result) (s' : Shared) : Prop :=
 match r with
 | .ok (.ret u) => CE outer P w H s Q u s'
 | .ok _ => False
 | .error e => CX outer H s E e s'
structure FnOk (P : Program) (w : World) (K : PySem.W.Frag) (mg : Str → Option Value) (base : Heap) (CX : CXT) (k : Nat) (f : Addr) (fd : FuncData) (ps : List Str) (sp : Sp) : Prop where
 len : ∀ vs H Q E, sp vs H Q E → vs.length = ps.length
 run : ∀ (A : Around) (outer : List Env) (s : Shared) (H : Hp) (args : Args) (us : List Value) (vs : List V) (Q : VK) (E : XK), Room k A → Env0 P w K mg base A outer s H → BindsTo s fd args (ps.zip us) → Vals vs us → sp vs H Q E →
  codeAny (model P w) A (.call (.ref f) args) (CR CX outer P w H s Q E) s
theorem FnOk.mono {P : Program} {w : World} {K : PySem.W.Frag} {mg : Str → Option Value} {base : Heap} {CX : CXT} {j k : Nat} {f : Addr} {fd : FuncData} {ps : List Str} {sp : Sp} (F : FnOk P w K mg base CX j f fd ps sp) (h : j ≤ k) :
  FnOk P w K mg base CX k f fd ps sp := ⟨F.len, fun A outer s H args us vs Q E hr => F.run A outer s H args us vs Q E (hr.mono h)⟩
section
variable {X : Cx} {pins : List (Addr × Obj)} {σ : St} {H : Hp} {s s' : Shared}
theorem Inv.env0 (I : Inv X pins σ H s) : Env0 X.prog X.w X.K X.mg X.base X.A X.stack s H :=
 ⟨I.ok.frames, I.ok.mod, I.bs, Nat.le_trans I.ok.bsz I.sz, I.stack, I.stkFree, I.hok, I.bare⟩
theorem Inv.after {Q : VK} {u : Value} (I : Inv X pins σ H s) (h : CE X.stack X.prog X.w H s Q u s') : EP X pins σ Q u s' := by
 obtain ⟨v, H', os, bare, un, hok, r, q⟩ := h
 obtain ⟨hh, g, d, t, os'⟩ := s'
 obtain rfl : os' = s.os := os
 exact ⟨v, H', I.call (h' := hh) (g' := g) (d' := d) (t' := t) (ch := []) un hok bare (fun b z => absurd z (by simp)), r, q⟩
end
def tCall (sp : Sp) (dvs : List V) (E : XK) (t : TA) : TE := fun σ H Q => t σ H fun vs H1 => sp (vs ++ dvs) H1 Q E
def Binds (K : PySem.W.Frag) (fd : FuncData) (ps : List Str) (ds : List Value) : Prop :=
 ∀ (s : Shared) (us : List Value), K.In s.heap → (us ++ ds).length = ps.length → BindsTo s fd ⟨us, []⟩ (ps.zip (us ++ ds))
theorem Binds.all {K : PySem.W.Frag} {fd : FuncData} {ps : List Str} (h : ∀ us : List Value, us.length = ps.length → bindArgs fd ⟨us, []⟩ = pure (ps.zip us)) : Binds K fd ps [] := fun s us _ hl => by
 rw [List.append_nil] at hl ⊢
 exact .of_eq (h us hl)
def Passes (CX : CXT) (X : Cx) (E : XK) : Prop := ∀ (pins : List (Addr × Obj)) (σ : St) (H : Hp) (s : Shared) (e : Value) (s' : Shared), Inv X pins σ H s → CX X.stack H s E e s' → X.xe e s'
section
variable {X : Cx} {CX : CXT} {k : Nat} {f C : Addr} {fd : FuncData} {ps : List Str} {sp : Sp} {dvs : List V} {ds : List Value} {E : XK} {x m : Str} {p pos apos : Pos} {e o : Expr} {es : List Expr} {ta : TE} {t : TA}
theorem run_fn {pins : List (Addr × Obj)} {σ : St} {H : Hp} {s : Shared} {Q : VK} {us : List Value} {vs : List V} (F : FnOk X.prog X.w X.K X.mg X.base CX k f fd ps sp) (hr : Room k X.A) (hb : Binds X.K fd ps ds) (hd : Vals dvs ds) (hx : Passes CX X E)
  (I : Inv X pins σ H s) (r : Vals vs us) (h : sp (vs ++ dvs) H Q E) : wpAny (model X.prog X.w) X.A (call (.ref f) us) (EP X pins σ Q) X.xe s := by
 have r2 : Vals (vs ++ dvs) (us ++ ds) := r.append hd
 have hl : (us ++ ds).length = ps.length := by rw [← r2.length]; exact F.len _ _ _ _ h
 refine wpAny_call (codeAny_mono (F.run X.A X.stack s H ⟨us, []⟩ (us ++ ds) (vs ++ dvs) Q E hr I.env0 (hb s us I.kIn hl) r2 h) fun r s' hq => ?_)
 cases r with
 | error e => exact hx pins σ H s e s' I hq
 | ok fl =>
  cases fl with
  | ret u => exact I.after hq
  | next => exact False.elim hq
  | brk => exact False.elim hq
  | cont => exact False.elim hq
theorem pe_call (F : FnOk X.prog X.w X.K X.mg X.base CX k f fd ps sp) (hr : Room k X.A) (hg : Gl X x) (hm : X.mg x = some (.ref f)) (hk : PySem.W.keepIn X.K (.ref f) = true) (hb : Binds X.K fd ps ds) (hd : Vals dvs ds) (hx : Passes CX X E)
  (ha : PA X (e :: es) t) (hdb : (x == ("__debug__" : Str)) = false := by decide) (he : starEach (e :: es) X.env = (false, eval e X.env) :: starEach es X.env := by rfl) (hpl : (backTo pos (starEach es X.env)).any (·.1) = false := by rfl) :
  PE X (.Call (.Name x p) (e :: es) [] pos) (tCall sp dvs E t) := by
 intro pins s σ H Q I h
 refine wpAny_Call_Name_kw (ld_glob I hg hm ?_ hdb)
 refine PySem.W.callWith_K (h₀ := X.base) I.ok.mod.kin hk (thn (ha pos pins s σ H _ I h) fun us s1 ⟨vs, H1, I1, r, q⟩ => ⟨I1.kIn, ?_⟩) he hpl
 exact run_fn F hr hb hd hx I1 r q
structure Mk (K : PySem.W.Frag) (C f : Addr) : Prop where
 makes : PySem.W.makesIn K C = true
 init : PySem.W.findIn K (.ref C) "__init__" = some (some (.ref f))
 fn : PySem.W.isFn K (.ref f) = true
 kp : PySem.W.keepIn K (.ref C) = true
end
section
variable {X : Cx} {CX : CXT} {k : Nat} {f C : Addr} {fd : FuncData} {ps ks : List Str} {sp : Sp} {E : XK} {x m : Str} {p pos apos kpos : Pos} {e o : Expr} {es : List Expr} {kws : List Keyword} {te ta : TE} {t tk : TA} {nm : Option Str}
structure KBinds (K : PySem.W.Frag) (fd : FuncData) (ps ks : List Str) (g : List Value → List Value → List Value) (gV : List V → List V → List V) : Prop where
 to : ∀ (s : Shared) (us ws : List Value), K.In s.heap → (g us ws).length = ps.length → BindsTo s fd ⟨us, ks.zip ws⟩ (ps.zip (g us ws))
 rel : ∀ {vs : List V} {us : List Value} {zs : List V} {ws : List Value}, Vals vs us → Vals zs ws → Vals (gV vs zs) (g us ws)
variable {g : List Value → List Value → List Value} {gV : List V → List V → List V}
end
structure FnScope (N P : List Str) (sc : Scope) : Prop where
 kind : sc.kind = .function
 co : sc.isCoroutine = false
 gen : sc.isGenerator = false
 nd : N.Nodup
 pre : N.take P.length = P
 par : ∀ x ∈ P, sc.names.lookup x = some .local ∨ sc.names.lookup x = some .cell
 nofree : ∀ y ∈ sc.names, y.2 ≠ .free
theorem bindL_out {kindOf : Str → Option NameKind} {x : Str} : ∀ {binds : List (Str × Value)} {m : Str → Option Value}, (∀ v, (x, v) ∉ binds) → bindL kindOf binds m x = m x
 | [], _, _ => rfl
 | (n, v) :: r, m, h => by
  unfold bindL
  rw [bindL_out fun w hw => h w (List.mem_cons_of_mem _ hw)]
  split
  ·have : x ≠ n := by rintro rfl; exact h v List.mem_cons_self
   simp [this]
  ·rfl
theorem bindC_out {kindOf : Str → Option NameKind} {x : Str} : ∀ {binds : List (Str × Value)} {m : Str → Option Value}, (∀ v, (x, v) ∉ binds) → bindC kindOf binds m x = m x
 | [], _, _ => rfl
 | (n, v) :: r, m, h => by
  unfold bindC
  rw [bindC_out fun w hw => h w (List.mem_cons_of_mem _ hw)]
  split
  ·rfl
  ·have : x ≠ n := by rintro rfl; exact h v List.mem_cons_self
   simp [this]
theorem bindL_get {kindOf : Str → Option NameKind} {x : Str} {v : Value} : ∀ {P : List Str} {vs : List Value} {i : Nat} {m : Str → Option Value}, P.Nodup → P[i]? = some x → vs[i]? = some v → kindOf x = some .local →
  bindL kindOf (P.zip vs) m x = some v
 | [], _, _, _, _, h, _, _ => by simp at h
 | _ :: _, [], _, _, _, _, h, _ => by simp at h
 | p :: P, w :: vs, 0, m, nd, h1, h2, hk => by
  simp at h1 h2; subst h1; subst h2
  show bindL kindOf ((p, w) :: P.zip vs) m p = _
  unfold bindL
  rw [bindL_out fun v hv => (List.nodup_cons.mp nd).1 (List.of_mem_zip hv).1, if_pos hk]
  simp
 | p :: P, w :: vs, i + 1, m, nd, h1, h2, hk => by
  show bindL kindOf ((p, w) :: P.zip vs) m x = _
  unfold bindL
  exact bindL_get (i := i) (List.nodup_cons.mp nd).2 (by simpa using h1) (by simpa using h2) hk
theorem bindC_get {kindOf : Str → Option NameKind} {x : Str} {v : Value} : ∀ {P : List Str} {vs : List Value} {i : Nat} {m : Str → Option Value}, P.Nodup → P[i]? = some x → vs[i]? = some v → kindOf x ≠ some .local →
  bindC kindOf (P.zip vs) m x = some v
 | [], _, _, _, _, h, _, _ => by simp at h
 | _ :: _, [], _, _, _, _, h, _ => by simp at h
 | p :: P, w :: vs, 0, m, nd, h1, h2, hk => by
  simp at h1 h2; subst h1; subst h2
  show bindC kindOf ((p, w) :: P.zip vs) m p = _
  unfold bindC
  rw [bindC_out fun v hv => (List.nodup_cons.mp nd).1 (List.of_mem_zip hv).1, if_neg hk]
  simp
 | p :: P, w :: vs, i + 1, m, nd, h1, h2, hk => by
  show bindC kindOf ((p, w) :: P.zip vs) m x = _
  unfold bindC
  exact bindC_get (i := i) (List.nodup_cons.mp nd).2 (by simpa using h1) (by simpa using h2) hk
def start (N : List Str) (vs : List V) : St := vs.map some ++ List.replicate (N.length - vs.length) none
def cxOf (CX : CXT) (P : Program) (w : World) (K : PySem.W.Frag) (mg : Str → Option Value) (base : Heap) (N : List Str) (qual : Str) (scope : Scope) (f : Addr) (cd : Value) (A : Around) (outer : List Env) (s : Shared) (H : Hp) (E : XK) : Cx where
 prog := P
 w := w
 K := K
 mg := mg
 base := base
 A := A.deeper (envOfC qual scope s.heap.objs.size f cd)
 N := N
 s₀ := s
 H₀ := H
 env := envOfC qual scope s.heap.objs.size f cd
 outer := outer
 stack := envOfC qual scope s.heap.objs.size f cd :: outer
 ex := []
 calm := true
 fn := fun _ => true
 pn := []
 xe := fun e s' => wpAny (model P w) (A.deeper (envOfC qual scope s.heap.objs.size f cd)) (leaving (envOfC qual scope s.heap.objs.size f cd) e) (fun _ s'' => CX outer H s E e s'') (fun e' s'' => CX outer H s E e' s'') s'
theorem cell_has {sc : Scope} {n : Nat} {x : Str} (h : sc.names.lookup x = some .cell) : ∃ c, (cellsFrom n sc.names []).lookup x = some c := by
 have q := PySem.W.cellsFrom_some sc.names n [] (.inl h)
 exact Option.isSome_iff_exists.mp q
theorem inv_start {CX : CXT} {P : Program} {w : World} {K : PySem.W.Frag} {mg : Str → Option Value} {base : Heap} {N ps : List Str} {qual : Str} {scope : Scope} {f : Addr} {cd : Value} {A : Around} {outer : List Env} {s s1 : Shared} {H : Hp} {E : XK} {us : List Value} {vs : List V}
  (S : FnScope N ps scope) (hd : A.handled = none) (e0 : Env0 P w K mg base A outer s H) (hl : vs.length = ps.length) (r : Vals vs us)
  (x : InCallC s s.heap.objs.size (bindL (envOfC qual scope s.heap.objs.size f cd).kindOf (ps.zip us) fun _ => none) (cellsFrom (s.heap.objs.size + 1) scope.names []) (bindC (envOfC qual scope s.heap.objs.size f cd).kindOf (ps.zip us) fun _ => none) s1) :
  Inv (cxOf CX P w K mg base N qual scope f cd A outer s H E) [] (start N vs) H s1 := by
 have hpl : ps.length ≤ N.length := by have := congrArg List.length S.pre; rw [List.length_take] at this; omega
 obtain ⟨h1, tk, rfl, hk⟩ := x.done
 have noA : ∀ b : Addr, b ∉ (cxOf CX P w K mg base N qual scope f cd A outer s H E).ex := fun b z => absurd (show b ∈ ([] : List Addr) from z) (by simp)
 refine ⟨⟨e0.mod, S.kind, rfl, rfl, Nat.le_refl _, fun y z c h1 h2 => ?_, fun y hy => ?_, fun y c _ h => ?_, fun _ => hd, Around.frames_deeper e0.frames, .inr ⟨rfl, rfl⟩, fun b z => absurd z (noA b), e0.bs, e0.bsz, fun b _ _ => noA b, fun b z => absurd z (noA b), e0.funs, e0.frf⟩,
  rfl, e0.bare, Un.kept hk, ⟨_, x.toInCall.ns, fun i y v h1 h2 h3 => ?_⟩, fun y c h => ⟨_, x.cell y c h⟩, e0.hok.fresh (Nat.le_refl _), fun y c h => ?_, fun p hp => absurd (show p ∈ ([] : List (Addr × Obj)) from hp) (by simp), e0.hok.kept hk, ?_⟩
 ·exact name_of_addr x.apart (PySem.mem_of_lookup h1) (PySem.mem_of_lookup h2)
 ·have hy : scope.names.lookup y = some .cell ∨ scope.names.lookup y = some .free := hy
  rcases hy with hy | hy
  ·exact cell_has hy
  ·exact absurd rfl (S.nofree _ (PySem.mem_of_lookup hy))
 ·exact Nat.le_of_lt (x.above y c (PySem.mem_of_lookup h))
 ·have hi : i < vs.length := by
   unfold start at h2
   by_cases hi : i < vs.length
   ·exact hi
   ·rw [List.getElem?_append_right (by simpa using hi)] at h2
    rw [List.getElem?_replicate] at h2
    split at h2 <;> cases h2
  have ha : vs[i]? = some v := by
   unfold start at h2
   rw [List.getElem?_append_left (by simpa using hi), List.getElem?_map] at h2
   cases e : vs[i]? with
   | none => rw [e] at h2; cases h2
   | some a => rw [e] at h2; cases h2; rfl
  obtain ⟨u, hu, rv⟩ := r.get ha
  have hp : ps[i]? = some y := by
   rw [← S.pre, List.getElem?_take_of_lt (by omega)]; exact h1
  have ndP : ps.Nodup := by rw [← S.pre]; exact S.nd.sublist (List.take_sublist _ _)
  refine ⟨u, rv, ?_⟩
  rcases S.par y (List.mem_of_getElem? hp) with k | k
  ·exact .inl ⟨k, bindL_get ndP hp hu k⟩
  ·obtain ⟨c, e⟩ := cell_has (n := s.heap.objs.size + 1) k
   refine .inr ⟨.inl k, c, e, ?_⟩
   have q := x.cell y c e
   rw [bindC_get ndP hp hu (by show scope.names.lookup y ≠ _; rw [k]; decide)] at q
   exact q
 ·exact e0.hok.fresh (Nat.le_of_lt (x.above y c (PySem.mem_of_lookup h)))
 ·unfold start
  show _ = N.length
  rw [List.length_append, List.length_map, List.length_replicate]
  omega
theorem fn_of {CX : CXT} {P : Program} {w : World} {K : PySem.W.Frag} {mg : Str → Option Value} {base : Heap} {k : Nat} {f : Addr} {name qual : Str} {params : Arguments} {body : List Stmt} {scope : Scope} {dV kV doc pm cdv ct oc : Value} {an od : Option Addr}
  {osl : Array (Option Value)} {N ps : List Str} {sp : Sp} (lk : K.lookup f = some ⟨oc, od, .func (PySem.W.fnOf name qual params body scope dV kV doc pm an cdv ct), osl⟩) (hcd : PySem.W.codeIn K cdv qual = true) (S : FnScope N ps scope)
  (len : ∀ vs H Q E, sp vs H Q E → vs.length = ps.length)
  (hbody : ∀ (A : Around) (outer : List Env) (s : Shared) (H : Hp) (vs : List V) (Q : VK) (E : XK), Room k (A.deeper (envOfC qual scope s.heap.objs.size f cdv)) → sp vs H Q E →
   ∃ t, PSs (cxOf CX P w K mg base N qual scope f cdv A outer s H E) body t ∧ t { nx := fun _ H' => Q .non H', rt := Q } (start N vs) H) :
  FnOk P w K mg base CX (k + 1) f (PySem.W.fnOf name qual params body scope dV kV doc pm an cdv ct) ps sp := by
 refine ⟨len, fun A outer s H args us vs Q E hr e0 hb r hsp => ?_⟩
 have hl := len _ _ _ _ hsp
 have KX : K.In s.heap := e0.mod.kin.keeps fun b o e => (e0.bs b o e).1
 have lim : s.heap.NoLimit := e0.mod.nolimit.keeps fun b o e => (e0.bs b o e).1
 have hkind : ∀ y ∈ ps.zip us, scope.names.lookup y.1 = some .local ∨ (scope.names.lookup y.1 = some .cell ∧ ((cellsFrom (s.heap.objs.size + 1) scope.names []).lookup y.1).isSome = true) := fun ⟨n, v⟩ hy => by
  rcases S.par n (List.of_mem_zip hy).1 with q | q
  ·exact .inl q
  ·exact .inr ⟨q, PySem.W.cellsFrom_some _ _ _ (.inl q)⟩
 refine codeAny_call_function hr.depth (KX _ _ lk) rfl S.co S.gen rfl (PySem.W.codeRec_of KX hcd) (hb _ _ _ _ ?_)
 refine wpAny_newFunctionEnv_cells S.kind hkind fun env he s1 x => ?_
 subst he
 refine ⟨lim.keeps x.toInCall.keep, codeAny_func ?_⟩
 obtain ⟨t, ht, hq⟩ := hbody A outer s H vs Q E (hr.deeper _) hsp
 have I : Inv (cxOf CX P w K mg base N qual scope f cdv A outer s H E) [] (start N vs) H s1 := inv_start S hr.hd e0 hl r x
 refine wpAny_mono (ht [] s1 (start N vs) H _ I hq) (fun fl s' hs => ?_) fun e s' hs => hs
 have fin : ∀ {σ' : St} {H' : Hp} {v : V} {u : Value}, Inv (cxOf CX P w K mg base N qual scope f cdv A outer s H E) [] σ' H' s' → RelV v u → Q v H' → CE outer P w H s Q u s' :=
  fun {σ' H' v u} J rv q => ⟨v, H', J.os, J.bare, J.base, J.hok, rv, q⟩
 cases fl with
 | ret u =>
  obtain ⟨v, σ', H', J, rv, q⟩ := hs
  exact fin J rv q
 | next =>
  obtain ⟨σ', H', J, q⟩ := hs
  exact fin (v := V.non) (u := Value.none) J rfl q
 | brk =>
  obtain ⟨_, _, _, q⟩ := hs
  exact False.elim q
 | cont =>
  obtain ⟨_, _, _, q⟩ := hs
  exact False.elim q
end L2
namespace L2
open PySem PySem.Spec PyProof.Rows
section
variable {X : Cx} {x : Str} {p pos : Pos} {e : Expr} {es : List Expr} {t : TA} {id T : String} {r : List V → Hp → VK → Prop}
def tCB (r : List V → Hp → VK → Prop) (t : TA) : TE := fun σ H Q => t σ H fun vs H1 => r vs H1 Q
theorem pe_callB (hc : CallR X (.builtin id) r) (hg : Gl X x) (hm : X.mg x = none) (hv : bootBuiltins x = some (.builtin id)) (ha : PA X (e :: es) t) (hn : x ≠ "__name__" := by decide) (hdb : (x == ("__debug__" : Str)) = false := by decide)
  (he : starEach (e :: es) X.env = (false, eval e X.env) :: starEach es X.env := by rfl) (hpl : (backTo pos (starEach es X.env)).any (·.1) = false := by rfl) : PE X (.Call (.Name x p) (e :: es) [] pos) (tCB r t) := by
 intro pins s σ H Q I h
 refine wpAny_Call_Name_kw (ld_blt I hg hm hv ?_ hn hdb)
 exact PyProof.Rows.callWith_builtin1 (thn (ha pos pins s σ H _ I h) fun us s1 ⟨vs, H1, I1, r1, q1⟩ => hc pins s1 σ H1 vs us Q I1 r1 q1) he hpl
theorem pe_callTy (hc : CallR X (.type T) r) (hg : Gl X x) (hm : X.mg x = none) (hv : bootBuiltins x = some (.type T)) (ha : PA X (e :: es) t) (hn : x ≠ "__name__" := by decide) (hdb : (x == ("__debug__" : Str)) = false := by decide)
  (he : starEach (e :: es) X.env = (false, eval e X.env) :: starEach es X.env := by rfl) (hpl : (backTo pos (starEach es X.env)).any (·.1) = false := by rfl) : PE X (.Call (.Name x p) (e :: es) [] pos) (tCB r t) := by
 intro pins s σ H Q I h
 refine wpAny_Call_Name_kw (ld_blt I hg hm hv ?_ hn hdb)
 exact PyProof.Rows.callWith_type1 (thn (ha pos pins s σ H _ I h) fun us s1 ⟨vs, H1, I1, r1, q1⟩ => hc pins s1 σ H1 vs us Q I1 r1 q1) he hpl
end
end L2
namespace HT
open PySem PyProof.Rows
section
open PySem.SeqAt
open PySem.AutoSeq1 (wpAny_loadPart')
open PySem.MeetsSeq PySem.MeetsSeq2 PySem.MeetsSeq3
end
section
variable {prog : Program} {w : World} {A : Around} {E : Value → Shared → Prop} {s : Shared}
def sIx (n d : Nat) : Option Int → Nat
 | none => d
 | some v => if v < 0 then (v + (n : Int)).toNat else min v.toNat n
theorem sIx_none (n d : Nat) : sIx n d none = d := rfl
end
end HT
namespace L2
open PySem PySem.Spec PyProof.Rows
abbrev TO := St → Hp → (Option Int → Hp → Prop) → Prop
def PO (X : Cx) (e : Option Expr) (t : TO) : Prop :=
 ∀ (pins : List (Addr × Obj)) (s : Shared) (σ : St) (H : Hp) (Q : Option Int → Hp → Prop), Inv X pins σ H s → t σ H Q →
  wpAny (model X.prog X.w) X.A (evalPart e X.env) (fun u s' => ∃ o H', Inv X pins σ H' s' ∧ IsPart u o ∧ Q o H') X.xe s
def tNoPart : TO := fun _ H Q => Q none H
def tPart (t : TE) : TO := fun σ H Q => t σ H fun x H1 => ∃ i, x = .int i ∧ Q (some i) H1
section
variable {X : Cx} {e : Expr} {te : TE} {lo hi : Option Expr} {tl th : TO} {pos p2 : Pos}
theorem po_none : PO X none tNoPart := by
 intro pins s σ H Q I h
 rw [evalPart_none]
 exact wpAny_pure ⟨none, H, I, .none, h⟩
theorem po_some (h : PE X e te) : PO X (some e) (tPart te) := by
 intro pins s σ H Q I hw
 rw [evalPart_some]
 refine thn (h pins s σ H _ I hw) fun u s1 ⟨x, H1, I1, r1, q1⟩ => ?_
 obtain ⟨i, rfl, q⟩ := q1
 obtain ⟨t, rfl⟩ := r1
 exact ⟨some i, H1, I1, .int i t, q⟩
def SlR (X : Cx) (r : V → Option Int → Option Int → Hp → VK → Prop) : Prop :=
 ∀ (pins : List (Addr × Obj)) (s : Shared) (σ : St) (H : Hp) (x : V) (v vl vu : Value) (lo hi : Option Int) (sl : Addr) (Q : VK), Inv X pins σ H s → RelV x v → s.heap.IsSliceOf sl vl vu .none → IsPart vl lo → IsPart vu hi → r x lo hi H Q →
  ∃ T id, typeLookup (.type T) "__getitem__" = pure (some (.builtin id)) ∧ s.TypeIs v T ∧ wpAny (model X.prog X.w) X.A (getItem v (.ref sl)) (EP X pins σ Q) X.xe s
def tSl (r : V → Option Int → Option Int → Hp → VK → Prop) (te : TE) (tl th : TO) : TE := fun σ H Q => te σ H fun x H1 => tl σ H1 fun l H2 => th σ H2 fun u H3 => r x l u H3 Q
theorem pe_slice {r : V → Option Int → Option Int → Hp → VK → Prop} (hr : SlR X r) (he : PE X e te) (hl : PO X lo tl) (hu : PO X hi th) : PE X (.Subscript e (.Slice lo hi none p2) pos) (tSl r te tl th) := by
 intro pins s σ H Q I h
 refine Subscript_ (thn (he pins s σ H _ I h) fun v s1 ⟨x, H1, I1, r1, q1⟩ => ?_)
 refine wpAny_Slice (thn (hl pins s1 σ H1 _ I1 q1) fun vl s2 ⟨l, H2, I2, pl, q2⟩ => thn (hu pins s2 σ H2 _ I2 q2) fun vu s3 ⟨u, H3, I3, pu, q3⟩ => ?_)
 rw [evalPart_none]
 refine wpAny_pure ?_
 have I4 : Inv X pins σ H3 { s3 with heap := s3.heap.push { cls := .type "slice", data := .fields #[vl, vu, .none] } } := I3.kept (t' := s3.toks) fun b ob q => Heap.get?_push_of_some _ q
 obtain ⟨T, id, hT, ht, hg⟩ := hr pins { s3 with heap := s3.heap.push { cls := .type "slice", data := .fields #[vl, vu, .none] } } σ H3 x v vl vu l u s3.heap.objs.size Q I4 r1 (Heap.IsSliceOf.new ..) pl pu q3
 show wpAny (model X.prog X.w) X.A (subscriptTail e (.Slice lo hi none p2) v (.ref s3.heap.objs.size)) (EP X pins σ Q) X.xe { s3 with heap := s3.heap.push { cls := .type "slice", data := .fields #[vl, vu, .none] } }
 exact tail_any (ops := [.ref s3.heap.objs.size, v]) ht hT hg (by with_unfolding_all rfl)
def cutV (xs : List V) (lo hi : Option Int) : List V := (xs.drop (HT.sIx xs.length 0 lo)).take (HT.sIx xs.length xs.length hi - HT.sIx xs.length 0 lo)
theorem cutV_length (xs : List V) (lo hi : Option Int) : (cutV xs lo hi).length ≤ xs.length := by
 unfold cutV
 rw [List.length_take, List.length_drop]
 omega
end
end L2
namespace L2
open PySem PySem.Spec PyProof.Rows
def ixN (n : Nat) (i : Int) : Option Nat := if 0 ≤ i then (if i < n then some i.toNat else none) else if -(n : Int) ≤ i then some (i + n).toNat else none
def atI {α : Type} (xs : List α) (i : Int) : Option α := (ixN xs.length i).bind fun j => xs[j]?
theorem ixN_seq {n : Nat} {i : Int} {j : Nat} (h : ixN n i = some j) : seqIndex? i n = some j ∧ j < n ∧ -(n : Int) ≤ i ∧ i < n := by
 unfold ixN at h
 by_cases h0 : 0 ≤ i
 ·rw [if_pos h0] at h
  by_cases h1 : i < n
  ·rw [if_pos h1] at h
   have e : i.toNat = j := Option.some.inj h
   exact ⟨by rw [seqIndex_of h0 h1, e], by omega, by omega, h1⟩
  ·rw [if_neg h1] at h; cases h
 ·rw [if_neg h0] at h
  by_cases h1 : -(n : Int) ≤ i
  ·rw [if_pos h1] at h
   have e : (i + n).toNat = j := Option.some.inj h
   exact ⟨by rw [seqIndex_neg (by omega) h1, e], by omega, h1, by omega⟩
  ·rw [if_neg h1] at h; cases h
theorem atI_get {α : Type} {xs : List α} {i : Int} {v : α} (h : atI xs i = some v) : ∃ j, seqIndex? i xs.length = some j ∧ xs[j]? = some v ∧ j < xs.length ∧ -(xs.length : Int) ≤ i ∧ i < xs.length := by
 unfold atI at h
 cases e : ixN xs.length i with
 | none => rw [e] at h; cases h
 | some j =>
  rw [e] at h
  obtain ⟨h1, h2, h3, h4⟩ := ixN_seq e
  exact ⟨j, h1, h, h2, h3, h4⟩
theorem atI_nat {α : Type} {xs : List α} {j : Nat} {v : α} (h : xs[j]? = some v) : atI xs (j : Int) = some v := by
 have hj : j < xs.length := (List.getElem?_eq_some_iff.mp h).1
 have e : ixN xs.length (j : Int) = some j := by
  unfold ixN
  rw [if_pos (by omega), if_pos (by omega)]; simp
 unfold atI; rw [e]; exact h
theorem atI_last {α : Type} (xs : List α) (v : α) : atI (xs ++ [v]) (-1) = some v := by
 have hl : (xs ++ [v]).length = xs.length + 1 := by simp
 have e : ixN (xs ++ [v]).length (-1) = some xs.length := by
  unfold ixN
  rw [hl, if_neg (by decide), if_pos (by omega)]
  congr 1
  omega
 unfold atI
 rw [e]
 show (xs ++ [v])[xs.length]? = some v
 simp
def PlainIx (b : Expr) : Prop := ∀ o i, subscripted b false o i = operate [o, i] (getItem o i)
def IxR (X : Cx) (r : R2) : Prop :=
 ∀ (value slice : Expr) (pins : List (Addr × Obj)) (s : Shared) (σ : St) (H : Hp) (x y : V) (v u : Value) (Q : VK), Inv X pins σ H s → RelV x v → RelV y u → r x y H Q →
  subscripted slice false v u = operate [v, u] (getItem v u) → wpAny (model X.prog X.w) X.A (subscriptTail value slice v u) (EP X pins σ Q) X.xe s
def MtR (X : Cx) (id : String) (r : V → List V → Hp → VK → Prop) : Prop :=
 ∀ (pins : List (Addr × Obj)) (s : Shared) (σ : St) (H : Hp) (x : V) (xs : List V) (v : Value) (us : List Value) (Q : VK), Inv X pins σ H s → RelV x v → Vals xs us → r x xs H Q →
  wpAny (model X.prog X.w) X.A (call (.builtin id) (v :: us)) (EP X pins σ Q) X.xe s
section
variable {X : Cx} {a b : Expr} {ta tb : TE} {pos : Pos}
theorem pe_ix {r : R2} (hr : IxR X r) (ha : PE X a ta) (hb : PE X b tb) (hs : PlainIx b) : PE X (.Subscript a b pos) (tOp r ta tb) := by
 intro pins s σ H Q I h
 exact Subscript_ (binT ha hb I h fun v u s2 x y H2 I2 rx ry q => hr a b pins s2 σ H2 x y v u Q I2 rx ry q (hs _ _))
def rIxL (K : PySem.W.Frag) : R2 := fun x y H Q => ∃ p xs i v, x = .ref p ∧ y = .int i ∧ SqL K H p xs ∧ atI xs i = some v ∧ Q v H
def rIxT (K : PySem.W.Frag) : R2 := fun x y H Q => ∃ p xs i v, x = .ref p ∧ y = .int i ∧ SqT K H p xs ∧ atI xs i = some v ∧ Q v H
def rIxS : R2 := fun x y H Q => ∃ z i c, x = .str z ∧ y = .int i ∧ z.length ≤ sizeLine ∧ atI z.cps.toList i = some c ∧ Q (.str ⟨#[c]⟩) H
theorem ix_list : IxR X (rIxL X.K) := by
 intro value slice pins s σ H x y v u Q I rx ry h hs
 obtain ⟨p, xs, i, z, rfl, rfl, hq, he, q⟩ := h
 cases rx
 obtain ⟨t, rfl⟩ := ry
 obtain ⟨its, r, pl, hz⟩ := I.list hq
 obtain ⟨j, h1, h2, h3, h4, h5⟩ := atI_get he
 obtain ⟨w, ew, rw'⟩ := r.get h2
 have hl := r.length
 have hn := line63
 have fin : EP X pins σ Q w s := ⟨z, H, I, rw', q⟩
 by_cases h0 : 0 ≤ i
 ·have hj : i.toNat = j := by
   rw [seqIndex_of h0 h5] at h1
   exact Option.some.inj h1
  exact item_listR pl.isList h0 (by omega) (by rw [hj]; simpa using ew) fin hs
 ·have hj : (i + (its.toArray.size : Int)).toNat = j := by
   rw [seqIndex_neg (by omega) h4] at h1
   rw [List.size_toArray, ← hl]
   exact Option.some.inj h1
  exact subscriptTail_builtinR (x := w) pl.isList.typeIs slot_list_getitem.lookup
   (wpAny_getItem_list_neg (Q := fun r s' => r = w ∧ EP X pins σ Q r s') pl.isList (by omega) (by rw [List.size_toArray] <;> omega) (by omega) (by rw [hj]; simpa using ew) ⟨rfl, fin⟩) hs
theorem ix_tup : IxR X (rIxT X.K) := by
 intro value slice pins s σ H x y v u Q I rx ry h hs
 obtain ⟨p, xs, i, z, rfl, rfl, hq, he, q⟩ := h
 cases rx
 obtain ⟨t, rfl⟩ := ry
 obtain ⟨its, r, pl, hz⟩ := I.tuple hq
 obtain ⟨j, h1, h2, h3, h4, h5⟩ := atI_get he
 obtain ⟨w, ew, rw'⟩ := r.get h2
 have hl := r.length
 have hn := line63
 have fin : EP X pins σ Q w s := ⟨z, H, I, rw', q⟩
 exact subscriptTail_builtinR (x := w) pl.typeIs slot_tuple_getitem.lookup
  (getItem_tuple (j := j) (Q := fun r s' => r = w ∧ EP X pins σ Q r s') pl (by omega) (by omega) (by rw [List.size_toArray, ← hl]; exact h1) (by simpa using ew) ⟨rfl, fin⟩) hs
theorem ix_str : IxR X rIxS := by
 intro value slice pins s σ H x y v u Q I rx ry h hs
 obtain ⟨z, i, c, rfl, rfl, hz, he, q⟩ := h
 obtain ⟨t, rfl⟩ := rx
 obtain ⟨t', rfl⟩ := ry
 obtain ⟨j, h1, h2, h3, h4, h5⟩ := atI_get he
 have hl : z.cps.toList.length = z.length := by simp [Str.length]
 rw [hl] at h1 h4 h5
 have hn := line63
 exact tail_any (typeIs_str s z t) slot_str_getitem.lookup (getItem_str (c := c) (by
  have e1 : decide (i < -(2 ^ 63 : Int)) = false := decide_eq_false (by omega)
  have e2 : decide (i ≥ 2 ^ 63) = false := decide_eq_false (by omega)
  rw [e1, e2, Bool.or_false]) (by rw [h1]; simpa using h2) ⟨.str ⟨#[c]⟩, H, I.tok _, ⟨_, rfl⟩, q⟩) hs
theorem mapSeq_set (its : List Value) (n j : Nat) (u : Value) : Obj.mapSeq (·.setIfInBounds j u) { cls := .type "list", data := .seq its.toArray n } = { cls := .type "list", data := .seq (its.set j u).toArray n } := by
 simp [Obj.mapSeq]
theorem Inv.lst {pins : List (Addr × Obj)} {σ : St} {H : Hp} {s : Shared} {p : Addr} {xs : List V} (I : Inv X pins σ H s) (h : H p = some (.lst xs)) :
  ∃ (its : List Value) (n : Nat), Vals xs its ∧ s.heap.get? p = some { cls := .type "list", data := .seq its.toArray n } ∧ xs.length ≤ sizeLine := by
 obtain ⟨z, its, n, r, e⟩ := I.hok p _ h
 exact ⟨its, n, r, e, z⟩
theorem Inv.lstUpd {pins : List (Addr × Obj)} {σ : St} {H : Hp} {s : Shared} {p : Addr} {xs ys : List V} {its its' : List Value} {n n' : Nat} {f : Obj → Obj} (I : Inv X pins σ H s) (h : H p = some (.lst xs))
  (ho : s.heap.get? p = some { cls := .type "list", data := .seq its.toArray n }) (hf : f { cls := .type "list", data := .seq its.toArray n } = { cls := .type "list", data := .seq its'.toArray n' }) (r : Vals ys its') (hz : ys.length ≤ sizeLine) (t : Nat) :
  Inv X pins σ (upd H p (.lst ys)) { s with heap := s.heap.update p f, toks := t } := by
 have e : (s.heap.update p f).get? p = some { cls := .type "list", data := .seq its'.toArray n' } := by
  rw [Heap.get?_update_self f ho (by rw [hf] <;> rfl), hf]
 refine I.write (x := p) (e := p) (by rw [h]; trivial) (.inl rfl) (fun b u hb q => (Heap.get?_update_other _ _ (Ne.symm hb)).trans q) ⟨_, e⟩ ?_
 exact ⟨hz, its', n', r, e⟩
def rSetL : V → V → V → Hp → (Hp → Prop) → Prop := fun o i v H Q => ∃ p xs k j, o = .ref p ∧ i = .int k ∧ H p = some (.lst xs) ∧ ixN xs.length k = some j ∧ Q (upd H p (.lst (xs.set j v)))
theorem set_list : PSet X rSetL := by
 intro pins s σ H o i v ov iv u Q I ro ri rv h
 obtain ⟨p, xs, k, j, rfl, rfl, hp, hj, q⟩ := h
 cases ro
 obtain ⟨t, rfl⟩ := ri
 obtain ⟨its, n, r, ho, hz⟩ := I.lst hp
 obtain ⟨h1, h2, h3, h4⟩ := ixN_seq hj
 have hl := r.length
 have hn := line63
 have I' : Inv X pins σ (upd H p (.lst (xs.set j v))) { s with heap := s.heap.update p (Obj.mapSeq (·.setIfInBounds j u)) } :=
  I.lstUpd hp ho (mapSeq_set its n j u) (r.set rv j) (by rw [List.length_set]; exact hz) s.toks
 by_cases h0 : 0 ≤ k
 ·have hk : k.toNat = j := by
   rw [seqIndex_of h0 h4] at h1
   exact Option.some.inj h1
  exact PySem.W.ki_setAt ho h0 (by omega) (by rw [List.size_toArray, ← hl]; exact h4) (by rw [hk]; exact ⟨_, I', q⟩)
 ·have hk : (k + (its.toArray.size : Int)).toNat = j := by
   rw [seqIndex_neg (by omega) h3] at h1
   rw [List.size_toArray, ← hl]
   exact Option.some.inj h1
  exact PySem.W.ki_setBack ho (by omega) (by rw [List.size_toArray, ← hl]; exact h3) (by omega) (by rw [hk]; exact ⟨_, I', q⟩)
theorem slice_bounds (lo hi : Option Int) (n : Nat) : (sliceBounds lo hi none n).1 = ((HT.sIx n 0 lo : Nat) : Int) ∧ (sliceBounds lo hi none n).2.1 = ((HT.sIx n n hi : Nat) : Int) ∧ (sliceBounds lo hi none n).2.2 = 1 := by
 refine ⟨?_, ?_, rfl⟩
 ·cases lo with
  | none => simp [sliceBounds, HT.sIx]
  | some i =>
   simp only [sliceBounds, HT.sIx, Option.getD_none, show (1 : Int) > 0 by decide, if_true]
   by_cases h : i < 0
   ·simp only [h, if_true] <;> omega
   ·simp only [h, if_false] <;> omega
 ·cases hi with
  | none => simp [sliceBounds, HT.sIx]
  | some i =>
   simp only [sliceBounds, HT.sIx, Option.getD_none, show (1 : Int) > 0 by decide, if_true]
   by_cases h : i < 0
   ·simp only [h, if_true] <;> omega
   ·simp only [h, if_false] <;> omega
theorem slicePick_cut (its : List Value) (lo hi : Option Int) : slicePick its.toArray lo hi none = ((its.drop (HT.sIx its.length 0 lo)).take (HT.sIx its.length its.length hi - HT.sIx its.length 0 lo)).toArray := by
 obtain ⟨h1, h2, h3⟩ := slice_bounds lo hi its.toArray.size
 unfold slicePick
 rw [h1, h2, h3]
 simp only [sliceRange_one, pick_run, List.size_toArray] <;> rfl
def rSlL (K : PySem.W.Frag) : V → Option Int → Option Int → Hp → VK → Prop := fun x lo hi H Q => ∃ a xs, x = .ref a ∧ SqL K H a xs ∧ ∀ p, H p = none → Q (.ref p) (upd H p (.lst (cutV xs lo hi)))
theorem sl_list : SlR X (rSlL X.K) := by
 intro pins s σ H x v vl vu lo hi sl Q I rx hs pl pu h
 obtain ⟨a, xs, rfl, hx, q⟩ := h
 cases rx
 obtain ⟨its, r, ht, hz⟩ := I.list hx
 have hlen := r.length
 refine ⟨"list", _, slot_list_getitem.lookup, ht.isList.typeIs, ?_⟩
 refine wpAny_getItem_list_slice ht.isList hs pl pu .none (by simp) ?_ (by rw [List.size_toArray] <;> omega)
 rw [slicePick_cut, ← hlen]
 refine ⟨.ref s.heap.objs.size, _, I.laid (t' := s.toks) (o := .lst (cutV xs lo hi)) (fun b ob q => Heap.get?_push_of_some _ q) (Nat.le_refl _) ?_, rfl, q _ (I.hok.fresh (Nat.le_refl _))⟩
 exact ⟨Nat.le_trans (cutV_length xs lo hi) hz, _, 0, (r.drop (HT.sIx xs.length 0 lo)).take (HT.sIx xs.length xs.length hi - HT.sIx xs.length 0 lo), Heap.get?_push_size _ rfl⟩
theorem call_len_seq : CallR X (.builtin "len") (fun xs H Q => ∃ p ys, xs = [.ref p] ∧ (SqL X.K H p ys ∨ SqT X.K H p ys) ∧ Q (.int ys.length) H) := by
 intro pins s σ H xs us Q I r h
 obtain ⟨p, ys, rfl, hq, q⟩ := h
 obtain ⟨u, rfl, rx⟩ := vals1 r
 cases rx
 have hn := line63
 rcases hq with hq | hq
 ·obtain ⟨its, r', pl, hz⟩ := I.list hq
  have hlen := r'.length
  exact Calls.call_len_list pl.isList (by simp only [List.size_toArray] <;> omega) ⟨.int ys.length, H, I.tok _, ⟨s.toks + 1, by rw [List.size_toArray, hlen]⟩, q⟩
 ·obtain ⟨its, r', pl, hz⟩ := I.tuple hq
  have hlen := r'.length
  exact len_tuple pl (by simp only [List.size_toArray] <;> omega) ⟨.int ys.length, H, I.tok _, ⟨s.toks + 1, by rw [List.size_toArray, hlen]⟩, q⟩
theorem call_len_str : CallR X (.builtin "len") (fun xs H Q => ∃ z, xs = [.str z] ∧ z.length ≤ sizeLine ∧ Q (.int z.length) H) := by
 intro pins s σ H xs us Q I r h
 obtain ⟨z, rfl, hz, q⟩ := h
 obtain ⟨u, rfl, t, rfl⟩ := vals1 r
 have hn := line63
 exact len_str (by omega) ⟨.int z.length, H, I.tok _, ⟨_, rfl⟩, q⟩
theorem call_tuple_of : CallR X (.type "tuple") (fun xs H Q => ∃ p ys, xs = [.ref p] ∧ ((SqL X.K H p ys ∧ ∀ l, H l = none → Q (.ref l) (upd H l (.tup ys))) ∨ (SqT X.K H p ys ∧ Q (.ref p) H))) := by
 intro pins s σ H xs us Q I r h
 obtain ⟨p, ys, rfl, h⟩ := h
 obtain ⟨u, rfl, rx⟩ := vals1 r
 cases rx
 rcases h with ⟨hq, q⟩ | ⟨hq, q⟩
 ·obtain ⟨its, r', pl, hz⟩ := I.list hq
  have hlen := r'.length
  refine call_tuple_list pl.isList (fun h' kp => ?_) (by simp only [List.size_toArray] <;> omega)
  have I1 : Inv X pins σ H { s with heap := h' } := I.kept (t' := s.toks) kp
  have I2 : Inv X pins σ (upd H h'.objs.size (.tup ys)) { s with heap := h'.push { cls := .type "tuple", data := .seq its.toArray } } :=
   I1.laid (t' := s.toks) (fun b o e => Heap.get?_push_of_some _ e) (Nat.le_refl _) (show ObjOk X.prog X.w _ _ _ (.tup ys) from ⟨hz, its, r', IsTup.new _ _⟩)
  exact ⟨.ref h'.objs.size, _, I2, rfl, q _ (I1.hok.fresh (Nat.le_refl _))⟩
 ·obtain ⟨its, r', pl, hz⟩ := I.tuple hq
  exact call_tuple_same pl ⟨.ref p, H, I, rfl, q⟩
def tyV (K : PySem.W.Frag) (T : String) (x : V) (H : Hp) : Prop := match x with
 | .str _ => T = "str"
 | .int _ => T = "int"
 | .ref p => (T = "list" ∧ ∃ xs, SqL K H p xs) ∨ (T = "tuple" ∧ ∃ o, K.lookup p = some o ∧ o.cls = .type "tuple" ∧ o.dict = none) ∨
   (T = "dict" ∧ ((∃ kvs, H p = some (.dK kvs)) ∨ ∃ kvs, H p = some (.dT kvs))) ∨ (T = "set" ∧ ∃ S n, H p = some (.set S n))
 | _ => False
theorem tyV_is {pins : List (Addr × Obj)} {σ : St} {H : Hp} {s : Shared} {T : String} {x : V} {v : Value} (I : Inv X pins σ H s) (r : RelV x v) (ty : tyV X.K T x H) :
  s.TypeIs v T ∧ ∀ a, v = .ref a → ∃ ob, s.heap.get? a = some ob ∧ ob.dict = none := by
 cases x with
 | str z =>
  obtain ⟨t, rfl⟩ := r
  cases (show T = "str" from ty)
  exact ⟨typeIs_str s z t, fun _ e => nomatch e⟩
 | int i =>
  obtain ⟨t, rfl⟩ := r
  cases (show T = "int" from ty)
  exact ⟨typeIs_int s i t, fun _ e => nomatch e⟩
 | ref p =>
  cases r
  rcases ty with ⟨rfl, xs, hq⟩ | ⟨rfl, o, hk, hc, hd⟩ | ⟨rfl, hk⟩ | ⟨rfl, S, n, hk⟩
  ·obtain ⟨its, _, pl, _⟩ := I.list hq
   refine ⟨pl.isList.typeIs, fun a e => ?_⟩
   cases e
   obtain ⟨o, n, e, c, hd, _⟩ := pl
   exact ⟨o, e, hd⟩
  ·refine ⟨⟨o, I.kIn p o hk, hc⟩, fun a e => ?_⟩
   cases e
   exact ⟨o, I.kIn _ o hk, hd⟩
  ·have z : ∃ o, s.heap.get? p = some o ∧ o.ExactDict := by
    rcases hk with ⟨kvs, hk⟩ | ⟨kvs, hk⟩
    ·obtain ⟨_, _, _, _, o, _, _, e, ex, _⟩ := I.hok p _ hk
     exact ⟨o, e, ex⟩
    ·obtain ⟨_, _, _, _, o, _, _, e, ex, _⟩ := I.hok p _ hk
     exact ⟨o, e, ex⟩
   obtain ⟨o, e, ex⟩ := z
   refine ⟨⟨o, e, ex.1⟩, fun a e2 => ?_⟩
   cases e2
   exact ⟨o, e, ex.2.1⟩
  ·obtain ⟨o, _, _, _, e, ex, _⟩ := I.hok p _ hk
   refine ⟨⟨o, e, ex.1⟩, fun a e2 => ?_⟩
   cases e2
   exact ⟨o, e, ex.2.1⟩
 | _ => exact False.elim ty
def tBM (K : PySem.W.Frag) (T : String) (r : V → List V → Hp → VK → Prop) (to : TE) (t : TA) : TE := fun σ H Q => to σ H fun x H1 => tyV K T x H1 ∧ t σ H1 fun xs H2 => r x xs H2 Q
variable {o e : Expr} {es : List Expr} {to : TE} {t : TA} {name : Str} {apos cpos : Pos} {T id : String} {r : V → List V → Hp → VK → Prop}
theorem pe_bm (pa : PlainAttrs T) (slot : Slot T name id) (hty : typeOf (.builtin id) = pure (.type "method_descriptor")) (hm : MtR X id r) (ho : PE X o to) (ha : PA X (e :: es) t)
  (hbase : attributeBase o name X.env (eval o X.env) = eval o X.env := by rfl)
  (hfew : ((backTo cpos (starEach (e :: es) X.env)).all (fun x => !x.1) && (backToKw cpos (keywordEach [] X.env)).all (fun x => x.1.isSome)
   && decide ((e :: es).length + ([] : List Keyword).length + (if ([] : List Keyword).isEmpty then 0 else 1) < 30)) = true := by rfl)
  (hline : (apos.endLine == cpos.line) = true := by rfl) (hs : starEach (e :: es) X.env = (false, eval e X.env) :: starEach es X.env := by rfl) (hplain : (backTo cpos (starEach es X.env)).any (·.1) = false := by rfl) :
  PE X (.Call (.Attribute o name apos) (e :: es) [] cpos) (tBM X.K T r to t) := by
 intro pins s σ H Q I h
 refine wpAny_Call_method_late hbase hfew hline rfl (thn (ho pins s σ H _ I h) fun v s1 ⟨x, H1, I1, r1, ty, q1⟩ => ?_)
 obtain ⟨h1, h2⟩ := tyV_is I1 r1 ty
 refine ⟨T, id, pa, slot, hty, h1, h2, ?_⟩
 have hA := ha cpos pins s1 σ H1 _ I1 q1
 rw [hs] at hA ⊢
 refine Calls.callWith_builtin (by show (false || (backTo cpos (starEach es X.env)).any (·.1)) = false; rw [hplain] <;> rfl) (Calls.evalArgs_plain ?_)
 exact thn hA fun us s2 ⟨vs, H2, I2, r2, q2⟩ => hm pins s2 σ H2 x vs v us Q I2 r1 r2 q2
end
end L2
namespace L2
open PySem PySem.Spec PyProof.Rows
def MtM (X : Cx) (id : String) (r : V → List V → Hp → VK → Prop) : Prop :=
 ∀ (pins : List (Addr × Obj)) (s : Shared) (σ : St) (H : Hp) (x : V) (xs : List V) (v : Value) (us : List Value) (Q : VK), Inv X pins σ H s → RelV x v → Vals xs us → r x xs H Q →
  wpAny (model X.prog X.w) X.A (call (.builtin id) (v :: us)) (EP X pins σ Q) X.xe s
theorem Vals.one : ∀ {x : V} {us : List Value}, Vals [x] us → ∃ u, us = [u] ∧ RelV x u
 | _, _, .cons r .nil => ⟨_, rfl, r⟩
theorem Vals.two : ∀ {x y : V} {us : List Value}, Vals [x, y] us → ∃ u v, us = [u, v] ∧ RelV x u ∧ RelV y v
 | _, _, _, .cons r (.cons q .nil) => ⟨_, _, rfl, r, q⟩
section
variable {X : Cx} {pins : List (Addr × Obj)} {σ : St} {H : Hp} {s : Shared} {l b : Addr} {xs ys zs : List V}
theorem Inv.lset {its its' : List Value} {n : Nat} {f : Array Value → Array Value} {t' : Nat} (I : Inv X pins σ H s) (hH : H l = some (.lst xs))
  (e : s.heap.get? l = some { cls := .type "list", data := .seq its.toArray n }) (hf : f its.toArray = its'.toArray) (hv : Vals ys its') (hz : ys.length ≤ sizeLine) :
  Inv X pins σ (upd H l (.lst ys)) { s with heap := s.heap.update l (Obj.mapSeq f), toks := t' } := by
 have q := PySem.IsL.update e f
 rw [hf] at q
 refine I.write (x := l) (e := l) (by rw [hH]; exact trivial) (.inl rfl) (fun b' u hb hu => (Heap.get?_update_other s.heap (Obj.mapSeq f) (Ne.symm hb)).trans hu) ⟨_, q⟩ ?_
 exact ⟨hz, its', _, hv, q⟩
theorem Inv.lnew {its : List Value} {t' : Nat} (I : Inv X pins σ H s) (hv : Vals ys its) (hz : ys.length ≤ sizeLine) :
  Inv X pins σ (upd H s.heap.objs.size (.lst ys)) { s with heap := s.heap.push { cls := .type "list", data := .seq its.toArray }, toks := t' } :=
 I.laid (fun _ _ q => Heap.get?_push_of_some _ q) (Nat.le_refl _) ⟨hz, its, 0, hv, Heap.get?_push_size _ rfl⟩
theorem Inv.fresh (I : Inv X pins σ H s) : H s.heap.objs.size = none := I.hok.fresh (Nat.le_refl _)
theorem Inv.lstM (I : Inv X pins σ H s) (hH : H l = some (.lst xs)) : xs.length ≤ sizeLine ∧ ∃ (its : List Value) (n : Nat), Vals xs its ∧ xs.length = its.length ∧ s.heap.get? l = some { cls := .type "list", data := .seq its.toArray n } := by
 obtain ⟨z, its, n, r, e⟩ := I.hok l _ hH
 exact ⟨z, its, n, r, r.length, e⟩
end
section
variable {X : Cx}
def rAppend : V → List V → Hp → VK → Prop := fun x vs H Q => ∃ l xs y, x = .ref l ∧ vs = [y] ∧ H l = some (.lst xs) ∧ xs.length < sizeLine ∧ Q .non (upd H l (.lst (xs ++ [y])))
theorem mt_append : MtM X "list.append" rAppend := by
 intro pins s σ H x vs v us Q I rx rv h
 obtain ⟨l, xs, y, rfl, rfl, hH, hz, q⟩ := h
 cases rx
 obtain ⟨u, rfl, ru⟩ := rv.one
 obtain ⟨z, its, n, r, hl, e⟩ := I.lstM hH
 refine call_meets F.slot_list_append ⟨_, e, rfl⟩ F.entry_list_append (F.args_list_append_2 _ _) (PySem.list_append l its.toArray n u (by rw [List.size_toArray]; omega)) ⟨e, ?_⟩
 refine ⟨.non, _, I.lset (its' := its ++ [u]) hH e (by simp) (r.append (.cons ru .nil)) ?_, rfl, q⟩
 rw [List.length_append, List.length_singleton]
 omega
def rCat : R2 := fun x y H Q => ∃ l b xs zs, x = .ref l ∧ y = .ref b ∧ H l = some (.lst xs) ∧ H b = some (.lst zs) ∧ xs.length + zs.length ≤ sizeLine ∧ ∀ p, H p = none → Q (.ref p) (upd H p (.lst (xs ++ zs)))
theorem op_cat : OpR X (binaryOp .Add) rCat := by
 intro pins s σ H x y v u Q I rx ry h
 obtain ⟨l, b, xs, zs, rfl, rfl, hH, hB, hz, q⟩ := h
 cases rx
 cases ry
 obtain ⟨z, its, n, r, hl, e⟩ := I.lstM hH
 obtain ⟨z2, its2, n2, r2, hl2, e2⟩ := I.lstM hB
 refine PySem.P.add_list e e2 ?_ (by rw [List.size_toArray, List.size_toArray]; omega)
 have ea : its.toArray ++ its2.toArray = (its ++ its2).toArray := by simp
 rw [ea]
 exact ⟨.ref _, _, I.lnew (t' := s.toks) (r.append r2) (by rw [List.length_append]; omega), rfl, q _ I.fresh⟩
end
section
variable {prog : Program} {w : World} {A : Around} {E : Value → Shared → Prop} {s : Shared}
set_option maxRecDepth 100000 in
end
section
variable {X : Cx}
end
end L2
namespace L2
open PySem PySem.Spec PyProof.Rows
section
variable {κ : Type} [DecidableEq κ]
def valV (kvs : List (κ × V)) (k : κ) : Option V := (kvs.find? fun kv => decide (kv.1 = k)).map (·.2)
def putK (kvs : List (κ × V)) (k : κ) (v : V) : List (κ × V) :=
 if (kvs.any fun kv => decide (kv.1 = k)) = true then kvs.map (fun kv => if kv.1 = k then (kv.1, v) else kv) else kvs ++ [(k, v)]
theorem valV_pos {p : κ × V} {r : List (κ × V)} {k : κ} (e : p.1 = k) : valV (p :: r) k = some p.2 := by simp [valV, List.find?_cons, e]
theorem valV_neg {p : κ × V} {r : List (κ × V)} {k : κ} (e : ¬ p.1 = k) : valV (p :: r) k = valV r k := by simp [valV, List.find?_cons, e]
theorem valV_any (k : κ) : ∀ kvs : List (κ × V), (kvs.any fun kv => decide (kv.1 = k)) = (valV kvs k).isSome
 | [] => rfl
 | p :: r => by
  rw [List.any_cons]
  by_cases e : p.1 = k
  ·simp only [valV_pos e, decide_eq_true e, Bool.true_or, Option.isSome_some]
  ·rw [valV_neg e, decide_eq_false e, Bool.false_or]; exact valV_any k r
theorem length_putK (kvs : List (κ × V)) (k : κ) (v : V) : (putK kvs k v).length ≤ kvs.length + 1 := by
 unfold putK
 split
 ·rw [List.length_map]; omega
 ·rw [List.length_append, List.length_cons, List.length_nil]; omega
theorem RelO.isSome_eq {o : Option V} {u : Option Value} (r : RelO o u) : o.isSome = u.isSome := by
 cases o with
 | none => cases u with
  | none => rfl
  | some _ => exact (show False from r).elim
 | some _ => cases u with
  | none => exact (show False from r).elim
  | some _ => rfl
theorem KV.any {kvs : List (κ × V)} {vs : List (κ × Value)} (r : KV kvs vs) (k : κ) : (kvs.any fun kv => decide (kv.1 = k)) = vs.any fun kv => decide (kv.1 = k) := by
 unfold KV at r
 induction r with
 | nil => rfl
 | cons h t ih => rw [List.any_cons, List.any_cons, ih, h.1]
theorem KV.repl {kvs : List (κ × V)} {vs : List (κ × Value)} (r : KV kvs vs) (k : κ) {y : V} {u : Value} (ry : RelV y u) :
  KV (kvs.map fun kv => if kv.1 = k then (kv.1, y) else kv) (vs.map fun kv => if kv.1 = k then (kv.1, u) else kv) := by
 unfold KV at r ⊢
 induction r with
 | nil => exact .nil
 | @cons p q ps qs h t ih =>
  rw [List.map_cons, List.map_cons]
  refine .cons ?_ ih
  obtain ⟨h1, h2⟩ := h
  by_cases e : p.1 = k
  ·rw [if_pos e, if_pos (h1.symm.trans e)]; exact ⟨h1, ry⟩
  ·rw [if_neg e, if_neg (fun z => e (h1.trans z))]; exact ⟨h1, h2⟩
theorem KV.put {kvs : List (κ × V)} {vs : List (κ × Value)} (r : KV kvs vs) (k : κ) {y : V} {u : Value} (ry : RelV y u) : KV (putK kvs k y) (stored vs k u) := by
 unfold putK stored
 rw [r.any k]
 by_cases e : (vs.any fun kv => decide (kv.1 = k)) = true
 ·rw [if_pos e, if_pos e]; exact r.repl k ry
 ·rw [if_neg e, if_neg e]; exact Paired.snoc r ⟨rfl, ry⟩
theorem KV.length {kvs : List (κ × V)} {vs : List (κ × Value)} (r : KV kvs vs) : kvs.length = vs.length := Paired.length r
end
theorem kV_is {P : Program} {w : World} {k : Key} {u : Value} (r : RelV (kV k) u) : (mixKind P w).is k u = true := by
 cases k with
 | inl i => obtain ⟨t, e⟩ := (show ∃ t, u = Value.int i t from r); subst e; exact mixKind_int P w i t
 | inr x => obtain ⟨t, e⟩ := (show ∃ t, u = Value.str x t from r); subst e; exact mixKind_str P w x t
theorem items_are {P : Program} {w : World} : ∀ {ks : List Key} {us : List Value}, Vals (ks.map kV) us → ItemsAre (mixKind P w) ks us
 | [], _, r => by rw [List.map_nil] at r; cases r; exact .nil
 | k :: ks, _, r => by
  rw [List.map_cons] at r
  cases r with
  | cons h t => exact .cons (kV_is h) (items_are t)
abbrev KT (H : Hp) : List (List Key × V) → List (List Key × Addr × Value) → Prop := Paired fun p q => p.1 = q.1 ∧ H q.2.1 = some (.tup (p.1.map kV)) ∧ RelV p.2 q.2.2
theorem KT.val {H : Hp} {kvs : List (List Key × V)} {xs : List (List Key × Addr × Value)} (r : KT H kvs xs) (k : List Key) : RelO (valV kvs k) ((atKey xs k).map (·.2)) := by
 induction r with
 | nil => exact True.intro
 | @cons p q ps qs h t ih =>
  obtain ⟨h1, _, h2⟩ := h
  by_cases e : p.1 = k
  ·have e' : q.1 = k := h1.symm.trans e
   have b : atKey (q :: qs) k = some q.2 := by simp [atKey, List.find?_cons, e']
   rw [valV_pos e, b]; exact h2
  ·have e' : ¬ q.1 = k := fun z => e (h1.trans z)
   have b : atKey (q :: qs) k = atKey qs k := by simp [atKey, List.find?_cons, e']
   rw [valV_neg e, b]; exact ih
theorem KT.repl {H : Hp} {kvs : List (List Key × V)} {xs : List (List Key × Addr × Value)} (r : KT H kvs xs) (k : List Key) {y : V} {u : Value} (ry : RelV y u) :
  KT H (kvs.map fun kv => if kv.1 = k then (kv.1, y) else kv) (xs.map (putAt k u)) := by
 induction r with
 | nil => exact .nil
 | @cons p q ps qs h t ih =>
  rw [List.map_cons, List.map_cons]
  refine .cons ?_ ih
  obtain ⟨h1, h2, h3⟩ := h
  unfold putAt
  by_cases e : p.1 = k
  ·rw [if_pos e, if_pos (h1.symm.trans e)]; exact ⟨h1, h2, ry⟩
  ·rw [if_neg e, if_neg (fun z => e (h1.trans z))]; exact ⟨h1, h2, h3⟩
theorem KT.put {H : Hp} {kvs : List (List Key × V)} {xs : List (List Key × Addr × Value)} (r : KT H kvs xs) (k : List Key) {b : Addr} {y : V} {u : Value} (hb : H b = some (.tup (k.map kV))) (ry : RelV y u) :
  KT H (putK kvs k y) (storedH xs k b u) := by
 have e : (kvs.any fun kv => decide (kv.1 = k)) = (atKey xs k).isSome := by
  rw [valV_any, (r.val k).isSome_eq, Option.isSome_map]
 unfold putK storedH
 rw [e]
 by_cases q : (atKey xs k).isSome = true
 ·rw [if_pos q, if_pos q]; exact r.repl k ry
 ·rw [if_neg q, if_neg q]; exact Paired.snoc r ⟨rfl, hb, ry⟩
theorem KT.keeps {H H' : Hp} {kvs : List (List Key × V)} {xs : List (List Key × Addr × Value)} (r : KT H kvs xs) (ht : ∀ b ys, H b = some (.tup ys) → H' b = some (.tup ys)) : KT H' kvs xs :=
 Paired.mapP r fun _ _ z => ⟨z.1, ht _ _ z.2.1, z.2.2⟩
section
variable {P : Program} {w : World} {H : Hp} {h : Heap} {a : Addr}
theorem rd_of {u : HO} (ok : HOk P w H h) (e : Rd H a u) : ObjOk P w H h a u := e.ok ok
theorem dk_rd {kvs : List (Key × V)} (ok : HOk P w H h) (e : Rd H a (.dK kvs)) : kvs.length ≤ sizeLine ∧ (a == sysModules) = false ∧ ∃ vs, KV kvs vs ∧ h.DictOf (mixKind P w) a vs :=
 show ObjOk P w H h a (.dK kvs) from rd_of ok e
theorem dk_of {kvs : List (Key × V)} (ok : HOk P w H h) (e : H a = some (.dK kvs)) : kvs.length ≤ sizeLine ∧ (a == sysModules) = false ∧ ∃ vs, KV kvs vs ∧ h.DictOf (mixKind P w) a vs := dk_rd ok (.inl e)
theorem key_of {ks : List Key} (ok : HOk P w H h) (e : H a = some (.tup (ks.map kV))) : (tupleKind (mixKind P w)).is h ks a := by
 obtain ⟨_, its, r, o, h1, h2, n, h3⟩ := (show ObjOk P w H h a (.tup (ks.map kV)) from ok a _ e)
 exact ⟨o, its.toArray, n, h1, h2, h3, by simpa using items_are r⟩
theorem dt_rd {kvs : List (List Key × V)} (ok : HOk P w H h) (e : Rd H a (.dT kvs)) : kvs.length ≤ sizeLine ∧ (a == sysModules) = false ∧
  ∃ xs, KT H kvs xs ∧ h.DictOfH (tupleKind (mixKind P w)) a xs := by
 obtain ⟨z, y, xs, r, o, es, ep, h1, h2, h3, h4, h5⟩ := (show ObjOk P w H h a (.dT kvs) from rd_of ok e)
 refine ⟨z, y, xs, r, o, es, ep, h1, h2, h3, h4, fun x hx => ?_, h5⟩
 have all : ∀ {l : List (List Key × V)} {m : List (List Key × Addr × Value)}, KT H l m → ∀ x ∈ m, (tupleKind (mixKind P w)).is h x.1 x.2.1 := by
  intro l m q
  induction q with
  | nil => intro x hx; exact nomatch hx
  | @cons p q ps qs hq t ih =>
   intro x hx
   rcases List.mem_cons.mp hx with e | hx
   ·subst e
    exact key_of ok (by rw [← hq.1]; exact hq.2.1)
   ·exact ih x hx
 exact all r x hx
theorem dt_of {kvs : List (List Key × V)} (ok : HOk P w H h) (e : H a = some (.dT kvs)) : kvs.length ≤ sizeLine ∧ (a == sysModules) = false ∧
  ∃ xs, KT H kvs xs ∧ h.DictOfH (tupleKind (mixKind P w)) a xs := dt_rd ok (.inl e)
end
def DPut (H : Hp) (a : Addr) (y v : V) (H' : Hp) : Prop :=
 (∃ kvs k, H a = some (.dK kvs) ∧ y = kV k ∧ kvs.length < sizeLine ∧ H' = upd H a (.dK (putK kvs k v))) ∨
 ∃ kvs k b, H a = some (.dT kvs) ∧ y = .ref b ∧ H b = some (.tup (k.map kV)) ∧ kvs.length < sizeLine ∧ H' = upd H a (.dT (putK kvs k v))
theorem DPut.k {H : Hp} {a : Addr} {kvs : List (Key × V)} {k : Key} {v : V} (e : H a = some (.dK kvs)) (hl : kvs.length < sizeLine) : DPut H a (kV k) v (upd H a (.dK (putK kvs k v))) := .inl ⟨kvs, k, e, rfl, hl, rfl⟩
section
variable {X : Cx} {pins : List (Addr × Obj)} {σ : St} {H : Hp} {s : Shared} {a : Addr} {y v : V} {u r : Value} {o : Option V} {A : Around} {E : Value → Shared → Prop}
theorem Inv.big (I : Inv X pins σ H s) : sysModules < s.heap.objs.size := by
 have h : mainGlobals < s.heap.objs.size := (I.mod.glob.keeps I.bk).lt
 exact Nat.lt_trans (by decide) h
theorem d_write {h' : Heap} {t' : Nat} {ob : HO} (I : Inv X pins σ H s) (mu : Mut (H a)) (hs : Heap.SameBut a s.heap h') (he : ∃ q, h'.get? a = some q) (new : ObjOk X.prog X.w (upd H a ob) h' a ob) :
  Inv X pins σ (upd H a ob) { s with heap := h', toks := t' } :=
 I.write (x := a) (e := a) mu (.inl rfl) (fun b q hb z => (hs.2 b hb).trans z) he new
theorem dk_new {P : Program} {w : World} {H' : Hp} {h' : Heap} {kvs : List (Key × V)} {vs : List (Key × Value)} (z : kvs.length ≤ sizeLine) (hd : (a == sysModules) = false) (rel : KV kvs vs) (dd : h'.DictOf (mixKind P w) a vs) :
  ObjOk P w H' h' a (.dK kvs) := ⟨z, hd, vs, rel, dd⟩
theorem d_setItem {H' : Hp} {Q : Unit → Shared → Prop} (hu : A.units + 1 < cLine) (I : Inv X pins σ H s) (g : DPut H a y v H') (ry : RelV y u) (rv : RelV v r) (h : ∀ s', Inv X pins σ H' s' → Q () s') :
  wpAny (model X.prog X.w) A (setItem (.ref a) u r) Q E s := by
 rcases g with ⟨kvs, k, e, ey, l, eH⟩ | ⟨kvs, k, b, e, ey, eb, l, eH⟩
 ·subst ey eH
  obtain ⟨z, hd, vs, rel, dd⟩ := dk_of I.hok e
  have hz : vs.length ≤ sizeLine := by rw [← rel.length]; exact z
  have hl : (putK kvs k v).length ≤ sizeLine := by have := length_putK kvs k v; omega
  refine wpAny_setItem_pairs (hsz := hz) (kV_is ry) dd fun h' dd' hs => h _ ?_
  have he : ∃ q, h'.get? a = some q := let ⟨q, _, _, hq, _⟩ := dd'; ⟨q, hq⟩
  exact d_write I (by rw [e]; exact True.intro) hs he (dk_new hl hd (rel.put k rv) dd')
 ·subst ey eH
  cases (show u = Value.ref b from ry)
  obtain ⟨z, hd, xs, rel, dd⟩ := dt_of I.hok e
  have hz : xs.length ≤ sizeLine := by rw [← Paired.length rel]; exact z
  have hl : (putK kvs k v).length ≤ sizeLine := by have := length_putK kvs k v; omega
  refine wpAny_setItem_heap (hsz := hz) (tupleKind_room_in1 hu) (key_of I.hok eb) dd fun h' dd' hs => h _ ?_
  obtain ⟨q, es, ep, hq, h2, h3, h4, _, h5⟩ := dd'
  refine d_write I (by rw [e]; exact True.intro) hs ⟨q, hq⟩ ⟨hl, hd, _, (rel.put k eb rv).keeps fun c ys ec => ?_, q, es, ep, hq, h2, h3, h4, h5⟩
  rw [upd_ne (ne_of ec e (fun z => nomatch z))]
  exact ec
end
section
variable {X : Cx} {pins : List (Addr × Obj)} {σ : St} {H : Hp} {s : Shared} {a : Addr} {kvs : List (Key × V)} {k : Key} {u : Value} {A : Around} {E : Value → Shared → Prop}
theorem d_len {Q : Value → Shared → Prop} (I : Inv X pins σ H s) (e : Rd H a (.dK kvs)) (h : ∀ t s', Inv X pins σ H s' → Q (.int kvs.length t) s') : wpAny (model X.prog X.w) A (call (.builtin "len") [.ref a]) Q E s := by
 obtain ⟨z, hd, vs, rel, dd⟩ := dk_rd I.hok e
 refine call_len_dict hd dd (by rw [← rel.length]; rw [sizeLine_eq] at z; omega) ?_
 rw [← rel.length]
 exact h _ _ (I.tok _)
end
def sDPut (td ty tv : TE) : TS := fun D σ H => tv σ H fun v H1 => td σ H1 fun x H2 => ty σ H2 fun y H3 => ∃ a H4, x = .ref a ∧ DPut H3 a y v H4 ∧ D.nx σ H4
section
variable {X : Cx} {o i e value : Expr} {pos pos' tpos : Pos} {td ty tv : TE}
theorem ps_dput (hu : X.A.units + 1 < cLine) (ho : PE X o td) (hi : PE X i ty) (hv : PE X value tv) (hs : swapsWith value (some (.Subscript o i pos')) pos.line X.env = pure false) :
  PS X (.Assign [.Subscript o i pos'] value pos) (sDPut td ty tv) := by
 intro pins s σ H D I h
 refine wpAny_Assign_Subscript (thn (hv pins s σ H _ I h) fun r s1 ⟨v, H1, I1, rv, q1⟩ => thn (ho pins s1 σ H1 _ I1 q1) fun u s2 ⟨x, H2, I2, rx, q2⟩ => thn (hi pins s2 σ H2 _ I2 q2) fun iv s3 ⟨y, H3, I3, ry, a, H4, ex, g, q3⟩ => ?_) hs
 subst ex
 obtain rfl : u = Value.ref a := rx
 exact d_setItem hu I3 g ry rv fun s4 I4 => ⟨σ, H4, I4, q3⟩
end
theorem dk_empty {P : Program} {w : World} {H : Hp} (h : Heap) (hb : sysModules < h.objs.size) : ObjOk P w H (h.push { cls := .type "dict", data := .dict #[] }) h.objs.size (.dK []) :=
 ⟨Nat.zero_le _, beq_eq_false_iff_ne.mpr (Ne.symm (Nat.ne_of_lt hb)), [], .nil, Heap.DictOf.new h⟩
def tDNewK : TE := fun _ H Q => ∀ p, H p = none → Q (.ref p) (upd H p (.dK []))
section
variable {X : Cx} {pos : Pos}
theorem pe_dnewK : PE X (.Dict [] [] pos) tDNewK := fun pins s σ H Q I h =>
 wpAny_Dict_empty ⟨.ref s.heap.objs.size, _, I.laid (a := s.heap.objs.size) (o := .dK []) (t' := s.toks) (fun _ _ q => Heap.get?_push_of_some _ q) (Nat.le_refl _) (dk_empty s.heap I.big), rfl, h _ (I.hok.fresh (Nat.le_refl _))⟩
end
structure M1 (X : Cx) (o : Expr) (m : Str) (apos : Pos) (e : Expr) (cpos : Pos) : Prop where
 base : attributeBase o m X.env (eval o X.env) = eval o X.env
 few : ((backTo cpos (starEach [e] X.env)).all (fun x => !x.1) && (backToKw cpos (keywordEach [] X.env)).all (fun x => x.1.isSome)
  && decide (([e] : List Expr).length + ([] : List Keyword).length + (if ([] : List Keyword).isEmpty then 0 else 1) < 30)) = true
 line : (apos.endLine == cpos.line) = true
 trees : backTo cpos (starEach [e] X.env) = [(false, eval e X.env)]
structure M2 (X : Cx) (o : Expr) (m : Str) (apos : Pos) (e f : Expr) (cpos : Pos) : Prop where
 base : attributeBase o m X.env (eval o X.env) = eval o X.env
 few : ((backTo cpos (starEach [e, f] X.env)).all (fun x => !x.1) && (backToKw cpos (keywordEach [] X.env)).all (fun x => x.1.isSome)
  && decide (([e, f] : List Expr).length + ([] : List Keyword).length + (if ([] : List Keyword).isEmpty then 0 else 1) < 30)) = true
 line : (apos.endLine == cpos.line) = true
 trees : backTo cpos (starEach [e, f] X.env) = [(false, eval e X.env), (false, eval f X.env)]
section
variable {X : Cx} {pins : List (Addr × Obj)} {σ : St} {H : Hp} {s : Shared} {a : Addr} {y d : V} {u r : Value} {o : Option V} {A : Around} {E : Value → Shared → Prop}
end
section
variable {X : Cx} {o e f : Expr} {apos cpos : Pos} {td ty tx : TE}
end
section
variable {X : Cx} {pins : List (Addr × Obj)} {σ : St} {H : Hp} {s : Shared} {a : Addr} {kvs : List (Key × V)} {A : Around} {E : Value → Shared → Prop}
end
section
variable {X : Cx} {pins : List (Addr × Obj)} {σ : St} {H : Hp} {s : Shared} {a : Addr} {y : V} {u : Value} {A : Around} {E : Value → Shared → Prop}
end
end L2
namespace Att
open PySem PySem.W PySem.Calls PyProof.Rows
theorem ints_of_wellAll {P : Params} {h : Heap} : ∀ (ns : List Int) (vs : List Value), WellAll P h vs (ns.map WData.int) → IntsAre vs ns := by
 intro ns
 induction ns with
 | nil =>
  intro vs w
  rw [List.map_nil] at w
  cases w
  exact .nil
 | cons n ns ih =>
  intro vs w
  rw [List.map_cons] at w
  cases w with
  | cons a b =>
   cases a
   exact .cons _ _ (ih _ b)
theorem script_of {l : OpenLaw} {n : Nat} (hn : l.most = some n) {P : Params} {h : Heap} {args : List WData} {vals : List Value}
  (hpre : l.row.toRowW.claim.pre args = true) (hwl : WellAll P h vals args) :
  ∃ a vs ns, vals = [Value.ref a] ∧ args = [WData.list (ns.map WData.int)] ∧ h.get? a = some { cls := .type "list", data := .seq vs.toArray } ∧ IntsAre vs ns ∧ ns.length ≤ n := by
 have hsh : WShape.hasAll [] args [.list .int] = true := (pre_splitW hpre).1
 have hc : l.pre.holds [] { args := args } = true := (pre_splitW hpre).2
 obtain ⟨d, r, rfl, h1, h2⟩ := hasAllW_cons hsh
 obtain rfl := hasAllW_nil h2
 obtain ⟨xs, rfl, h3⟩ := hasW_list h1
 obtain ⟨ns, rfl⟩ := items_int h3
 have hlen : ns.length ≤ n := by
  unfold OpenLaw.pre at hc
  have h4 : (WTm.not (.lt (.lit (.int (n : Int))) (.len (.arg 0)))).holds [] { args := [.list (ns.map .int)] } = true := by
   have h4 := (holds_andW hc).1
   rw [hn] at h4
   exact h4
  have h5 := condW_of h4 (w_not (w_lt w_lit (w_len_list (w_arg rfl))))
  rw [List.length_map] at h5
  refine Nat.le_of_not_lt fun q => ?_
  have q' : (n : Int) < ((ns.length : Nat) : Int) := by omega
  first
   | (rw [decide_eq_true q'] at h5; exact absurd h5 (by decide))
   | (simp at h5; omega)
 cases hwl with
 | cons w1 w2 =>
  cases w2
  cases w1 with
  | list ho hall => exact ⟨_, _, ns, rfl, rfl, ho, ints_of_wellAll ns _ hall, hlen⟩
theorem post_true (l : OpenLaw) (args : List WData) : l.row.toRowW.claim.post args (.bool true) args = true :=
 postW_of (r := l.row.toRowW) (X := (true == true))
  (show WShape.has [] (.bool true) .bool = true by first | rfl | decide | simp [WShape.has, WShape.arms, WShape.armsAll])
  (show (WTm.eq .res (.lit (.bool true))).value [] { args := args, res := some (.bool true), after := args } = some (.bool (true == true)) from w_eq_bool (w_res rfl) w_lit) rfl
theorem attach_call {l : OpenLaw} {n : Nat} {q : Program} {loose : List Str} {XP : (Str → Option Value) → Heap → Prop} {YP : World → Heap → Prop} {d : DefRec}
  (hn : l.most = some n) (hdf : d.params.defaults = [])
  (call : ∀ (w : World) (s₀ s₁ : Shared) (mg mb : Str → Option Value) (fa : Addr) (o : Obj) (pm cd doc : Value) (a : Addr) (vs : List Value) (ns : List Int),
   Ground q loose [] XP w s₀ mg mb s₁.heap → YP w s₁.heap →
   s₁.heap.get? fa = some o → o.data = .func (docDef d.name d.params d.body d.scope pm cd doc) → s₁.heap.CodeRec cd d.name → mg d.name = some (.ref fa) →
   s₁.heap.get? a = some { cls := .type "list", data := .seq vs.toArray } → IntsAre vs ns → ns.length ≤ n → s₁.gens = #[] →
   codeAny (model l.prog w) callerA (.call (.ref fa) ⟨[.ref a], []⟩) (fun r s' => r = .ok (.ret (.bool true)) ∧ OldK s₁.heap s'.heap ∧ s'.os = s₁.os ∧ AllBare s'.gens) s₁) :
  WalkO q loose XP YP l.row.toRowW d [] (fun f vs => PySem.call f vs) := by
 intro w s₀ s₁ mg mb G Y fa o pm cd doc dV kV ho hd hcd hD hmg hg args vals as hpre hlay hrd hwl hlo
 obtain rfl : dV = .none := Dflts.none hD hdf
 obtain rfl : kV = .none := Dflts.noKw hD
 obtain ⟨a, vs, ns, rfl, rfl, hobj, hints, hlen⟩ := script_of hn hpre hwl
 refine enter_call (codeAny_mono (call w s₀ s₁ mg mb fa o pm cd doc a vs ns G Y ho (fd_plain hd) hcd hmg hobj hints hlen hg) fun r s' hq => ?_)
 obtain ⟨rfl, h2, h3, h4⟩ := hq
 exact ⟨.inl ⟨.bool true, .bool true, [], rfl, fun _ => rfl, .bool true, post_true l _, fun _ => ⟨List.Pairwise.nil, fun _ hm => (nomatch hm)⟩⟩, h2, h3, h4⟩
section
variable {prog : Program} {w : World} {A : Around} {E : Value → Shared → Prop} {s : Shared} {K : Frag}
end
end Att
namespace L2
open PySem PySem.Spec PyProof.Rows
theorem vals_ints : ∀ {vs : List Value} {ns : List Int}, IntsAre vs ns → Vals (ns.map V.int) vs
 | _, _, .nil => .nil
 | _, _, .cons n t h => .cons ⟨t, rfl⟩ (vals_ints h)
def Only (H : Hp) : Prop := ∀ b, H b = none ∨ ∃ o xs, H b = some (.frz o (.lst xs))
theorem law_call {P : Program} {w : World} {K : PySem.W.Frag} {mg mb : Str → Option Value} {CX : CXT} {k : Nat} {fa a : Addr} {fd : FuncData} {x : Str} {sp : Sp} {s₁ : Shared} {vs : List Value} {ns : List Int}
  (KX : K.In s₁.heap) (hns : s₁.heap.Ns mainGlobals mg) (hb : s₁.heap.Ns builtinsNs mb) (hbb : ∀ x : Str, x ≠ "__name__" → mb x = bootBuiltins x) (hlim : s₁.heap.NoLimit) (hg : s₁.gens = #[])
  (ha : s₁.heap.get? a = some { cls := .type "list", data := .seq vs.toArray }) (hi : IntsAre vs ns) (hl : ns.length ≤ sizeLine) (hr : Room k callerA)
  (F : ∀ base : Heap, K.In base → base.Ns mainGlobals mg → FnOk P w K mg base CX k fa fd [x] sp) (hbind : ∀ (s : Shared) (u : Value), BindsTo s fd ⟨[u], []⟩ [(x, u)])
  (hsp : ∀ H : Hp, Only H → SqL K H a (ns.map V.int) → sp [.ref a] H (fun v _ => v = .bl true) fun _ _ _ => False)
  (hCX : ∀ H e s', CX [] H s₁ (fun _ _ _ => False) e s' → False) :
  codeAny (model P w) callerA (.call (.ref fa) ⟨[.ref a], []⟩) (fun r s' => r = .ok (.ret (.bool true)) ∧ OldK s₁.heap s'.heap ∧ s'.os = s₁.os ∧ AllBare s'.gens) s₁ := by
 have rv := vals_ints hi
 have lenV := hi.length
 have core : ∀ H : Hp, Only H → SqL K H a (ns.map V.int) → HOk P w H s₁.heap → (∀ b, H b ≠ none → b = a) → (H a ≠ none → K.lookup a = none) →
   codeAny (model P w) callerA (.call (.ref fa) ⟨[.ref a], []⟩) (fun r s' => r = .ok (.ret (.bool true)) ∧ OldK s₁.heap s'.heap ∧ s'.os = s₁.os ∧ AllBare s'.gens) s₁ := by
  intro H hO hS hok hA hK
  have base_of : ∀ {b : Addr} {o : Obj}, s₁.heap.get? b = some o → H b = none → (hidT s₁.heap H).get? b = some o := fun e n => hidT_get e n
  have noA : ∀ {b : Addr} {o : Obj} {es : Array DictEntry} {ep : Nat}, s₁.heap.get? b = some o → o.data = .dict es ep → H b = none := fun {b o es ep} e d => by
   cases q : H b with
   | none => rfl
   | some u =>
    have e' : b = a := hA b (by rw [q]; simp)
    subst e'
    rw [ha] at e; cases e
    have d' : Data.seq vs.toArray _ = Data.dict es ep := d
    cases d'
  have nsK : ∀ {b : Addr} {m : Str → Option Value}, s₁.heap.Ns b m → (hidT s₁.heap H).Ns b m := fun {b m} ⟨o, es, ep, e, d, r⟩ => ⟨o, es, ep, base_of e (noA e d), d, r⟩
  have hKb : K.In (hidT s₁.heap H) := fun b o e => base_of (KX b o e) (by
   cases q : H b with
   | none => rfl
   | some u =>
    have e' : b = a := hA b (by rw [q]; simp)
    subst e'
    rw [hK (by rw [q]; simp)] at e; cases e)
  have hM : Mod K mg (hidT s₁.heap H) := ⟨hKb, nsK hns, ⟨mb, nsK hb, hbb⟩, let ⟨mc, h1, h2⟩ := hlim; ⟨mc, nsK h1, h2⟩⟩
  have e0 : Env0 P w K mg (hidT s₁.heap H) callerA [] s₁ H := ⟨rfl, hM, fun b o e => of_hidT e, Nat.le_of_eq (hidT_size _ _), trivial, fun b hb => absurd (show b ∈ ([] : List Addr) from hb) (by simp), hok, .of_eq hg⟩
  refine codeAny_mono ((F _ hKb (nsK hns)).run callerA [] s₁ H ⟨[.ref a], []⟩ [.ref a] [.ref a] _ _ hr e0 (hbind s₁ (.ref a)) (.cons rfl .nil) (hsp H hO hS)) fun r s' h => ?_
  cases r with
  | error e => exact (hCX H e s' h).elim
  | ok fl =>
   cases fl with
   | next => exact False.elim h
   | brk => exact False.elim h
   | cont => exact False.elim h
   | ret u =>
    obtain ⟨v, H', os, bare, un, hok', r', q⟩ := h
    have q' : v = .bl true := q
    subst q'
    obtain rfl : u = Value.bool true := r'
    refine ⟨rfl, OldK.of_keep fun b o e => ?_, os, bare⟩
    cases q : H b with
    | none => exact un.keep b o e q (by intro z; exact absurd (show b ∈ ([] : List Addr) from z) (by simp)) (by simp)
    | some u =>
     rcases hO b with z | ⟨ob, xs, z⟩
     ·rw [q] at z; cases z
     ·have z2 := un.frzs b ob _ z
      obtain ⟨e1, _⟩ := hok b _ z
      obtain ⟨e2, _⟩ := hok' b _ z2
      rw [e] at e1; cases e1
      exact e2
 cases hk : K.lookup a with
 | some o =>
  have e := KX a o hk
  rw [ha] at e
  cases e
  refine core (fun _ => none) (fun _ => .inl rfl) (.inr ⟨_, vs.toArray, _, hk, rfl, rfl, rfl, by rw [List.size_toArray, lenV]; exact hl, by simpa using rv⟩) (fun b u z => by have z' : (none : Option HO) = some u := z; cases z') (fun b z => absurd rfl z) fun z => absurd rfl z
 | none =>
  refine core (fun b => if b = a then some (.frz { cls := .type "list", data := .seq vs.toArray } (.lst (ns.map V.int))) else none) (fun b => ?_) (.inl (.inr ⟨{ cls := .type "list", data := .seq vs.toArray }, if_pos rfl⟩)) (fun b u z => ?_) (fun b z => ?_) fun _ => hk
  ·by_cases hb : b = a
   ·exact .inr ⟨_, _, if_pos hb⟩
   ·exact .inl (if_neg hb)
  ·by_cases hb : b = a
   ·have z' := (if_pos hb).symm.trans z
    cases z'
    subst hb
    exact ⟨ha, by rw [List.length_map]; exact hl, vs, _, rv, ha⟩
   ·have z' := (if_neg hb).symm.trans z
    cases z'
  ·by_cases hb : b = a
   ·exact hb
   ·exact absurd (if_neg hb) z
end L2
namespace L2
open PySem PySem.Spec PyProof.Rows
theorem walk_of {l : PySem.W.OpenLaw} {n k : Nat} {q : Program} {loose : List Str} {XP : (Str → Option Value) → Heap → Prop} {YP : World → Heap → Prop} {d : DefRec} {K : Params → PySem.W.Frag} {CX : World → CXT} {sp : World → Sp} {x : Str}
  (hn : l.most = some n) (hn2 : n ≤ sizeLine) (hdf : d.params.defaults = []) (hr : Room k callerA)
  (hY : ∀ (w : World) (h : Heap), YP w h → (K w.params).In h)
  (F : ∀ (w : World) (mg : Str → Option Value) (fa : Addr) (h : Heap), (K w.params).In h → h.Ns mainGlobals mg → mg d.name = some (.ref fa) →
   ∃ fd : FuncData, (∀ (s : Shared) (u : Value), BindsTo s fd ⟨[u], []⟩ [(x, u)]) ∧
    ∀ base : Heap, (K w.params).In base → base.Ns mainGlobals mg → FnOk l.prog w (K w.params) mg base (CX w) k fa fd [x] (sp w))
  (hsp : ∀ (w : World) (H : Hp) (a : Addr) (ns : List Int), ns.length ≤ n → Only H → SqL (K w.params) H a (ns.map V.int) → sp w [.ref a] H (fun v _ => v = .bl true) fun _ _ _ => False)
  (hCX : ∀ (w : World) (H : Hp) (s : Shared) (e : Value) (s' : Shared), CX w [] H s (fun _ _ _ => False) e s' → False) :
  PySem.W.WalkO q loose XP YP l.row.toRowW d [] (fun f vs => PySem.call f vs) := by
 refine Att.attach_call hn hdf fun w s₀ s₁ mg mb fa o pm cd doc a vs ns G Y ho hd hcd hmg hobj hints hlen hg => ?_
 have KX := hY w _ Y
 obtain ⟨fd, hb, hF⟩ := F w mg fa _ KX G.T.g hmg
 exact law_call KX G.T.g G.T.b G.T.builtins G.T.nolimit hg hobj hints (Nat.le_trans hlen hn2) hr hF hb (fun H hO hS => hsp w H a ns hlen hO hS) fun H e s' => hCX w H s₁ e s'
end L2
namespace L2
open PySem PySem.Spec PyProof.Rows
def inClass (s : Stmt) (j : Nat) : Stmt := match s with
 | .ClassDef _ _ _ body _ _ _ _ _ _ _ => body.getD j (.Pass ⟨0, 0, 0, 0⟩)
 | _ => .Pass ⟨0, 0, 0, 0⟩
def defArgs (s : Stmt) : Arguments := match s with
 | .FunctionDef _ a _ _ _ _ _ _ _ _ => a
 | _ => { posonlyargs := [], args := [], vararg := none, kwonlyargs := [], kw_defaults := [], kwarg := none, defaults := [] }
def defBody (s : Stmt) : List Stmt := match s with
 | .FunctionDef _ _ b _ _ _ _ _ _ _ => b
 | _ => []
def defScope (s : Stmt) : Scope := match s with
 | .FunctionDef _ _ _ _ _ _ sc _ _ _ => sc
 | _ => { kind := .function, names := [], isGenerator := false, isCoroutine := false }
abbrev CX0 : CXT := fun _ _ _ _ _ _ => False
abbrev E0 : XK := fun _ _ _ => False
theorem pass0 {X : Cx} : Passes CX0 X E0 := fun _ _ _ _ _ _ _ h => h.elim
structure Fun (K : PySem.W.Frag) (x qual : Str) (st : Stmt) (f : Addr) (fd : FuncData) : Prop where
 ex : ∃ (oc : Value) (od : Option Addr) (kV doc pm : Value) (an : Option Addr) (cdv ct : Value) (osl : Array (Option Value)),
  fd = PySem.W.fnOf x qual (defArgs st) (defBody st) (defScope st) .none kV doc pm an cdv ct ∧ K.lookup f = some ⟨oc, od, .func fd, osl⟩ ∧ PySem.W.codeIn K cdv qual = true
 kp : PySem.W.keepIn K (.ref f) = true
section
variable {P : Program} {w : World} {K : PySem.W.Frag} {mg : Str → Option Value} {base : Heap}
theorem Fun.ok {x qual : Str} {st : Stmt} {f : Addr} {fd : FuncData} {N ps : List Str} {k : Nat} {sp : Sp} (F : Fun K x qual st f fd) (S : FnScope N ps (defScope st)) (len : ∀ vs H Q E, sp vs H Q E → vs.length = ps.length)
  (hbody : ∀ (cdv : Value) (A : Around) (outer : List Env) (s : Shared) (H : Hp) (vs : List V) (Q : VK) (E : XK), Room k (A.deeper (envOfC qual (defScope st) s.heap.objs.size f cdv)) → sp vs H Q E →
   ∃ t, PSs (cxOf CX0 P w K mg base N qual (defScope st) f cdv A outer s H E).nox (defBody st) t ∧ t { nx := fun _ H' => Q .non H', rt := Q } (start N vs) H) : FnOk P w K mg base CX0 (k + 1) f fd ps sp := by
 obtain ⟨oc, od, kV, doc, pm, an, cdv, ct, osl, rfl, lk, hcd⟩ := F.ex
 refine fn_of lk hcd S len fun A outer s H vs Q E hr hsp => ?_
 obtain ⟨t, h, q⟩ := hbody cdv A outer s H vs Q E hr hsp
 exact ⟨t, h.nox, q⟩
theorem Fun.binds {x qual : Str} {st : Stmt} {f : Addr} {fd : FuncData} {ps : List Str} (F : Fun K x qual st f fd)
  (h : ∀ (kV doc pm : Value) (an : Option Addr) (cdv ct : Value) (us : List Value), us.length = ps.length → bindArgs (PySem.W.fnOf x qual (defArgs st) (defBody st) (defScope st) .none kV doc pm an cdv ct) ⟨us, []⟩ = pure (ps.zip us)) : Binds K fd ps [] := by
 obtain ⟨oc, od, kV, doc, pm, an, cdv, ct, osl, rfl, lk, hcd⟩ := F.ex
 exact .all (h kV doc pm an cdv ct)
theorem fun_mk {x qual : Str} {st : Stmt} {f : Addr} {oc : Value} {od an : Option Addr} {osl : Array (Option Value)} {kV doc pm cdv ct : Value} (l : K.lookup f = some ⟨oc, od, .func (PySem.W.fnOf x qual (defArgs st) (defBody st) (defScope st) .none kV doc pm an cdv ct), osl⟩)
  (c : PySem.W.codeIn K cdv qual = true) (k : PySem.W.keepIn K (.ref f) = true) : Fun K x qual st f (PySem.W.fnOf x qual (defArgs st) (defBody st) (defScope st) .none kV doc pm an cdv ct) := ⟨⟨oc, od, kV, doc, pm, an, cdv, ct, osl, rfl, l, c⟩, k⟩
end
theorem hu_of {A : Around} {k : Nat} (hr : Room k A) : A.units + 1 < cLine := Nat.lt_of_le_of_lt (Nat.add_le_add_left (by decide : 1 ≤ 64) _) hr.units
theorem small1000 {n : Nat} (h : n ≤ 1000) : n < sizeLine := Nat.lt_of_le_of_lt h (by decide)
section
variable {X : Cx}
theorem pv (i : Nat) {x : Str} {pos : Pos} (hN : X.N[i]? = some x := by rfl) (hv : Vis X.env.scope x := by first | exact Or.inl rfl | exact Or.inr (Or.inl rfl) | exact Or.inr (Or.inr rfl)) (hd : (x == ("__debug__" : Str)) = false := by decide)
  (hcd : (x == ("__classdict__" : Str)) = false := by decide) : PE X (.Name x pos) (tVar i) := pe_var hN hv hd hcd
theorem call_lenD : CallR X (.builtin "len") (fun xs H Q => ∃ a kvs, xs = [V.ref a] ∧ H a = some (.dK kvs) ∧ Q (.int kvs.length) H) := by
 intro pins s σ H xs us Q I r h
 obtain ⟨a, kvs, rfl, ha, q⟩ := h
 obtain ⟨u, rfl, ru⟩ := vals1 r
 cases ru
 exact d_len I (.inl ha) fun t s' I' => ⟨.int kvs.length, H, I', ⟨t, rfl⟩, q⟩
end
theorem iteF {A B : Prop} (h : B) : if false = true then A else B := by
 rw [if_neg Bool.false_ne_true]
 exact h
theorem iteT {A B : Prop} (h : A) : if true = true then A else B := by
 rw [if_pos rfl]
 exact h
theorem ite2 {c A B : Prop} [Decidable c] (h1 : c → A) (h2 : ¬ c → B) : if c then A else B := by
 by_cases h : c
 ·rw [if_pos h]
  exact h1 h
 ·rw [if_neg h]
  exact h2 h
def Same (H H' : Hp) : Prop := ∀ b o, H b = some o → H' b = some o
theorem Same.trans {H H1 H2 : Hp} (a : Same H H1) (b : Same H1 H2) : Same H H2 := fun c o h => b c o (a c o h)
theorem Same.seq {K : PySem.W.Frag} {H H' : Hp} {a : Addr} {xs : List V} (e : Same H H') (h : SqL K H a xs) : SqL K H' a xs := by
 rcases h with (h | ⟨o, h⟩) | h
 ·exact .inl (.inl (e _ _ h))
 ·exact .inl (.inr ⟨o, e _ _ h⟩)
 ·exact .inr h
section
variable {κ : Type} [DecidableEq κ]
end
end L2
set_option maxHeartbeats 4000000
namespace L2
open PySem PySem.Spec PyProof.Rows
def closL (cells : List (Str × Addr)) : List (Str × NameKind) → List (Str × Addr) → List (Str × Addr)
 | [], cs => cs
 | (n, k) :: r, cs => if (k == NameKind.free) = true then closL cells r ((n, (cells.lookup n).getD 0) :: cs) else closL cells r cs
theorem closL_mem {cells : List (Str × Addr)} : ∀ {names : List (Str × NameKind)} {cs : List (Str × Addr)}, (∀ x ∈ names, x.2 = .free → ∃ c, cells.lookup x.1 = some c) → (∀ p ∈ cs, cells.lookup p.1 = some p.2) →
  ∀ p ∈ closL cells names cs, cells.lookup p.1 = some p.2
 | [], _, _, h, p, hp => h p hp
 | (n, k) :: r, cs, hn, h, p, hp => by
  unfold closL at hp
  have hr : ∀ x ∈ r, x.2 = .free → ∃ c, cells.lookup x.1 = some c := fun x hx => hn x (List.mem_cons_of_mem _ hx)
  by_cases hk : (k == NameKind.free) = true
  ·rw [if_pos hk] at hp
   refine closL_mem hr (fun q hq => ?_) p hp
   rcases List.mem_cons.mp hq with e | hq
   ·obtain ⟨c, hc⟩ := hn (n, k) List.mem_cons_self (by simpa using hk)
    have hc' : cells.lookup n = some c := hc
    subst e
    show cells.lookup n = some ((cells.lookup n).getD 0)
    rw [hc']; rfl
   ·exact h q hq
  ·rw [if_neg hk] at hp
   exact closL_mem hr h p hp
theorem closL_keeps {cells : List (Str × Addr)} {p : Str × Addr} : ∀ {names : List (Str × NameKind)} {cs : List (Str × Addr)}, p ∈ cs → p ∈ closL cells names cs
 | [], _, h => h
 | (n, k) :: r, cs, h => by
  unfold closL
  split
  ·exact closL_keeps (List.mem_cons_of_mem _ h)
  ·exact closL_keeps h
theorem closL_has {cells : List (Str × Addr)} {x : Str} : ∀ {names : List (Str × NameKind)} {cs : List (Str × Addr)}, (x, NameKind.free) ∈ names → ∃ c, (x, c) ∈ closL cells names cs
 | [], _, h => nomatch h
 | (n, k) :: r, cs, h => by
  unfold closL
  rcases List.mem_cons.mp h with e | h
  ·cases e
   rw [if_pos (show (NameKind.free == NameKind.free) = true from rfl)]
   exact ⟨_, closL_keeps List.mem_cons_self⟩
  ·split
   ·exact closL_has h
   ·exact closL_has h
theorem lookup_of_mem {α β : Type} [BEq α] [LawfulBEq α] {x : α} {c : β} : ∀ {l : List (α × β)}, (x, c) ∈ l → ∃ d, l.lookup x = some d
 | [], h => nomatch h
 | (y, d) :: r, h => by
  rw [List.lookup_cons]
  cases e : x == y with
  | true => exact ⟨d, rfl⟩
  | false =>
   rcases List.mem_cons.mp h with z | h
   ·cases z; rw [beq_self_eq_true] at e; cases e
   ·exact lookup_of_mem h
theorem closureFor_closL {scope : Scope} {env : Env} (h : ∀ x ∈ scope.names, x.2 = .free → ∃ c, env.cells.lookup x.1 = some c) : closureFor scope env = pure (closL env.cells scope.names []) := by
 have key : ∀ (names : List (Str × NameKind)) (cs : List (Str × Addr)), (∀ x ∈ names, x.2 = .free → ∃ c, env.cells.lookup x.1 = some c) →
   (forIn names cs fun x r => if (x.2 == NameKind.free) = true then (do let c ← cellOf env x.1; pure (ForInStep.yield ((x.1, c) :: r))) else pure (ForInStep.yield r) : Sem (List (Str × Addr))) = pure (closL env.cells names cs) := by
  intro names
  induction names with
  | nil => intro cs _; rfl
  | cons x r ih =>
   intro cs hn
   obtain ⟨n, k⟩ := x
   rw [List.forIn_cons]
   unfold closL
   have hr : ∀ x ∈ r, x.2 = .free → ∃ c, env.cells.lookup x.1 = some c := fun x hx => hn x (List.mem_cons_of_mem _ hx)
   by_cases hk : (k == NameKind.free) = true
   ·obtain ⟨c, hc⟩ := hn (n, k) List.mem_cons_self (by simpa using hk)
    have hc' : env.cells.lookup n = some c := hc
    have e : cellOf env n = pure c := by unfold cellOf; rw [hc']
    dsimp only
    rw [if_pos hk, if_pos hk, e, pure_bind, pure_bind, hc']
    exact ih _ hr
   ·dsimp only
    rw [if_neg hk, if_neg hk, pure_bind]
    exact ih _ hr
 have e := key scope.names [] h
 simp only [closureFor, bind_pure]
 exact e
theorem lookup_relabel {env : Env} {x : Str} : ∀ (names : List (Str × NameKind)),
  (names.map fun (n, k) => if (k == NameKind.free && env.scope.kind == .function && env.kindOf n == some .cell) then (n, NameKind.cell) else (n, k)).lookup x =
   (names.lookup x).map fun k => if (k == NameKind.free && env.scope.kind == .function && env.kindOf x == some .cell) then NameKind.cell else k
 | [] => rfl
 | (n, k) :: r => by
  have ih := lookup_relabel (env := env) (x := x) r
  show List.lookup x ((if (k == NameKind.free && env.scope.kind == .function && env.kindOf n == some .cell) = true then (n, NameKind.cell) else (n, k)) :: _) = _
  cases hx : x == n with
  | true =>
   have e : x = n := eq_of_beq hx
   subst e
   by_cases hc : (k == NameKind.free && env.scope.kind == .function && env.kindOf x == some .cell) = true
   ·rw [if_pos hc]; simp only [List.lookup_cons, hx, Option.map_some, hc, if_true]
   ·rw [if_neg hc]; simp only [List.lookup_cons, hx, Option.map_some, hc]; rfl
  | false =>
   by_cases hc : (k == NameKind.free && env.scope.kind == .function && env.kindOf n == some .cell) = true
   ·rw [if_pos hc]; simp only [List.lookup_cons, hx]; exact ih
   ·rw [if_neg hc]; simp only [List.lookup_cons, hx]; exact ih
def hid (xs : List Str) (y : Str) : Str := if xs.contains y then y ++ ("#" : Str) else y
def blkN (xs N : List Str) : List Str := xs ++ N.map (hid xs)
structure BlkScope (X : Cx) (xs : List Str) (sc : Scope) : Prop where
 kind : sc.kind = .function
 nocell : ∀ y ∈ sc.names, y.2 ≠ .cell
 locs : ∀ y ∈ sc.names, y.2 = .local → sc.names.lookup y.1 = some .local
 own : ∀ y ∈ sc.names, y.2 = .local → y.1 ∈ xs ∨ y.1 = (".0" : Str)
 free : ∀ y ∈ sc.names, y.2 = .free → X.env.kindOf y.1 = some .cell ∨ X.env.kindOf y.1 = some .free
 nohid : ∀ y ∈ X.N, sc.names.lookup (y ++ ("#" : Str)) = none
 nodot : (".0" : Str) ∉ X.N
def blk (X : Cx) (pins : List (Addr × Obj)) (xs : List Str) (sc : Scope) (C : Addr) (fp : List Addr) (s3 : Shared) (H3 : Hp) : Cx where
 prog := X.prog
 w := X.w
 K := X.K
 mg := X.mg
 base := X.base
 A := X.A
 N := blkN xs X.N
 s₀ := s3
 H₀ := H3
 env := compEnvC sc (closL X.env.cells sc.names []) C X.env
 outer := X.stack
 stack := X.stack
 ex := fp
 fn := fun _ => false
 calm := true
 pn := X.pn ++ pins
 xe := fun _ _ => False
def blkσ (xs : List Str) (σ : St) : St := List.replicate xs.length none ++ σ
theorem mem_of_lookup' {α β : Type} [BEq α] [LawfulBEq α] {x : α} {c : β} : ∀ {l : List (α × β)}, l.lookup x = some c → (x, c) ∈ l
 | [], h => nomatch h
 | (y, d) :: r, h => by
  rw [List.lookup_cons] at h
  cases e : x == y with
  | true => rw [e] at h; cases h; rw [eq_of_beq e]; exact List.mem_cons_self
  | false => rw [e] at h; exact List.mem_cons_of_mem _ (mem_of_lookup' h)
section
variable {X : Cx} {pins : List (Addr × Obj)} {xs : List Str} {sc : Scope} {σ : St} {H : Hp} {s : Shared}
theorem BlkScope.cells (B : BlkScope X xs sc) (ok : X.Ok) : ∀ y ∈ sc.names, y.2 = .free → ∃ c, X.env.cells.lookup y.1 = some c := fun y hy e => ok.has y.1 (B.free y hy e)
theorem BlkScope.sub (B : BlkScope X xs sc) (ok : X.Ok) {y : Str} {c : Addr} (h : (closL X.env.cells sc.names []).lookup y = some c) : X.env.cells.lookup y = some c :=
 closL_mem (cells := X.env.cells) (names := sc.names) (cs := []) (B.cells ok) (fun p hp => nomatch hp) (y, c) (mem_of_lookup' h)
theorem BlkScope.kindF (B : BlkScope X xs sc) {y : Str} (h : Vis (relabel sc X.env) y) : sc.names.lookup y = some .local ∨ sc.names.lookup y = some .free := by
 have e : (relabel sc X.env).names.lookup y = (sc.names.lookup y).map _ := lookup_relabel (env := X.env) (x := y) sc.names
 cases q : sc.names.lookup y with
 | none =>
  rw [q] at e
  rcases h with h | h | h <;> rw [e] at h <;> cases h
 | some k =>
  cases k with
  | «local» => exact .inl rfl
  | free => exact .inr rfl
  | cell => exact absurd rfl (B.nocell _ (mem_of_lookup' q))
  | globalImplicit => rw [q] at e; rcases h with h | h | h <;> rw [e] at h <;> cases h
  | globalExplicit => rw [q] at e; rcases h with h | h | h <;> rw [e] at h <;> cases h
theorem BlkScope.kindC (B : BlkScope X xs sc) {y : Str} (h : sc.names.lookup y = some .free) : (relabel sc X.env).names.lookup y = some .cell ∨ (relabel sc X.env).names.lookup y = some .free := by
 have e : (relabel sc X.env).names.lookup y = (sc.names.lookup y).map _ := lookup_relabel (env := X.env) (x := y) sc.names
 rw [h] at e
 by_cases hc : ((NameKind.free == NameKind.free) && X.env.scope.kind == .function && X.env.kindOf y == some .cell) = true
 ·left; rw [e]; show some (if _ then _ else _) = _; rw [if_pos hc]
 ·right; rw [e]; show some (if _ then _ else _) = _; rw [if_neg hc]
theorem BlkScope.ofC (B : BlkScope X xs sc) {y : Str} (h : (relabel sc X.env).names.lookup y = some .cell ∨ (relabel sc X.env).names.lookup y = some .free) : sc.names.lookup y = some .free := by
 have v : Vis (relabel sc X.env) y := .inr h
 rcases B.kindF v with q | q
 ·have e : (relabel sc X.env).names.lookup y = (sc.names.lookup y).map _ := lookup_relabel (env := X.env) (x := y) sc.names
  rw [q] at e
  rcases h with h | h <;> rw [e] at h <;> cases h
 ·exact q
theorem blk_start {fp : List Addr} {h1 : Heap} {tk : Nat} {m : Str → Option Value} (hcalm : X.calm = true) (B : BlkScope X xs sc) (I : Inv X pins σ H s) (hf : ∀ b ∈ fp, FpOk X pins H b) (hfl : ∀ b ∈ fp, b < s.heap.objs.size)
  (hn : h1.Ns (s.heap.objs.size + 1) m) (hk : ∀ b o, (s.heap.push { cls := .type "list", data := .seq ([] : List Value).toArray }).get? b = some o → h1.get? b = some o) :
  Inv (blk X pins xs sc (s.heap.objs.size + 1) fp { s with heap := s.heap.push { cls := .type "list", data := .seq ([] : List Value).toArray } } (upd H s.heap.objs.size (.lst []))) [] (blkσ xs σ)
   (upd H s.heap.objs.size (.lst [])) { s with heap := h1, toks := tk } := by
 have hsz : (s.heap.push { cls := .type "list", data := .seq ([] : List Value).toArray }).objs.size = s.heap.objs.size + 1 := Heap.size_push ..
 have lt : ∀ b o, s.heap.get? b = some o → b < s.heap.objs.size := fun b o e => Heap.lt_size e
 have updF : ∀ b, b < s.heap.objs.size → upd H s.heap.objs.size (.lst []) b = H b := fun b hb => upd_ne (Nat.ne_of_lt hb)
 have cl : ∀ x c, X.env.cells.lookup x = some c → c < s.heap.objs.size := fun x c e => by obtain ⟨v, q⟩ := I.cell x c e; exact q.lt
 have frlt : ∀ b ∈ frs X.stack, b < s.heap.objs.size := fun b hb => by
  rcases List.mem_cons.mp (I.stkSub b hb) with e | z
  ·rw [e]; exact I.lt
  ·exact Nat.lt_of_not_le fun z' => I.nofs z' z
 have pushK : ∀ b o, s.heap.get? b = some o → (s.heap.push { cls := .type "list", data := .seq ([] : List Value).toArray }).get? b = some o := fun b o e => Heap.get?_push_of_some _ e
 have hk0 : ∀ b o, s.heap.get? b = some o → h1.get? b = some o := fun b o e => hk b o (pushK b o e)
 have fresh : ∀ b, s.heap.objs.size ≤ b → H b = none := fun b hb => I.hok.fresh hb
 refine ⟨⟨I.ok.mod, B.kind, I.ok.glob, I.ok.blt, ?_, fun x y c h1 h2 => ?_, fun x hx => ?_, fun x c hx => ?_, fun _ => I.ok.hd hcalm, I.ok.frames, .inl rfl, fun b hb => ⟨?_, fun x c e => ?_⟩, fun b o e => ⟨?_, ?_⟩, ?_, fun b o e hb => ?_, fun b hb hfr => ?_, ?_, fun b hb => ?_⟩,
  rfl, I.bare, Un.kept hk, ⟨m, hn, fun i x v e1 e2 e3 => ?_⟩, fun x c e => ?_, ?_, fun x c e => ?_, fun p hp => ?_, ?_, ?_⟩
 ·show (s.heap.push { cls := .type "list", data := .seq ([] : List Value).toArray }).objs.size ≤ s.heap.objs.size + 1
  rw [hsz]; exact Nat.le_refl _
 ·exact I.ok.inj x y c (B.sub I.ok h1) (B.sub I.ok h2)
 ·have q := B.ofC (y := x) hx
  obtain ⟨c, hc⟩ := closL_has (cells := X.env.cells) (cs := []) (mem_of_lookup' q)
  exact lookup_of_mem hc
 ·exact absurd hx (by show ¬ (false = true); decide)
 ·exact Nat.ne_of_lt (Nat.lt_succ_of_lt (hfl b hb))
 ·exact (hf b hb).2.2.2.2.1 x c (B.sub I.ok e)
 ·exact pushK b o (I.bk b o e)
 ·show upd H s.heap.objs.size (.lst []) b = none
  rw [updF b (lt b o (I.bk b o e))]; exact (I.bs b o e).2
 ·show X.base.objs.size ≤ (s.heap.push { cls := .type "list", data := .seq ([] : List Value).toArray }).objs.size
  rw [hsz]; exact Nat.le_succ_of_le (Nat.le_trans I.ok.bsz I.sz)
 ·rcases (hf b hb).2.2.2.1 with z | z
  ·exact I.ok.noex b o e z
  ·have := Heap.lt_size e
   exact absurd (Nat.lt_of_lt_of_le this (Nat.le_trans I.ok.bsz z)) (Nat.lt_irrefl _)
 ·rcases List.mem_cons.mp (I.stkSub b hfr) with e | z
  ·exact (hf b hb).2.1 e
  ·exact (hf b hb).2.2.1 z
 ·exact Heap.FunFrames.of_keeps (fun b o e _ => ⟨o, pushK b o e, rfl⟩) I.stack
 ·show upd H s.heap.objs.size (.lst []) b = none
  rw [updF b (frlt b hb)]; exact I.stkFree b hb
 ·have hi : xs.length ≤ i := by
   rcases Nat.lt_or_ge i xs.length with z | z
   ·unfold blkσ at e2
    rw [List.getElem?_append_left (by simpa using z), List.getElem?_replicate, if_pos z] at e2
    cases e2
   ·exact z
  have e2' : σ[i - xs.length]? = some (some v) := by
   unfold blkσ at e2
   rw [List.getElem?_append_right (by simpa using hi), List.length_replicate] at e2
   exact e2
  have e1' : (X.N.map (hid xs))[i - xs.length]? = some x := by
   have q : (blkN xs X.N)[i]? = some x := e1
   unfold blkN at q
   rw [List.getElem?_append_right hi] at q
   exact q
  rw [List.getElem?_map] at e1'
  cases eN : X.N[i - xs.length]? with
  | none => rw [eN] at e1'; cases e1'
  | some y =>
   rw [eN] at e1'
   have ey : hid xs y = x := Option.some.inj e1'
   have hy : y ∈ X.N := List.mem_of_getElem? eN
   have kf := B.kindF (y := x) e3
   unfold hid at ey
   by_cases hc : xs.contains y = true
   ·rw [if_pos hc] at ey
    rw [← ey, B.nohid y hy] at kf
    rcases kf with z | z <;> cases z
   ·rw [if_neg hc] at ey
    subst ey
    rcases kf with z | z
    ·rcases B.own (y, .local) (mem_of_lookup' z) rfl with q | q
     ·exact absurd (List.contains_iff_mem.mpr q) hc
     ·exact absurd (show (".0" : Str) ∈ X.N from q ▸ hy) B.nodot
    ·have kk := B.free (y, .free) (mem_of_lookup' z) rfl
     obtain ⟨m0, hn0, hl0⟩ := I.loc
     obtain ⟨u, ru, lk⟩ := hl0 _ y v eN e2' (.inr kk)
     refine ⟨u, ru, ?_⟩
     rcases lk with ⟨kl, _⟩ | ⟨_, c, ec, zc⟩
     ·rcases kk with kk | kk
      ·rw [show X.env.kindOf y = some .local from kl] at kk; cases kk
      ·rw [show X.env.kindOf y = some .local from kl] at kk; cases kk
     ·obtain ⟨c1, hc1⟩ := closL_has (cells := X.env.cells) (cs := []) (mem_of_lookup' z)
      obtain ⟨c2, hc2⟩ := lookup_of_mem hc1
      have hc3 := B.sub I.ok hc2
      rw [ec] at hc3
      cases hc3
      obtain ⟨oc, hoc, hdc⟩ := zc
      exact .inr ⟨B.kindC z, c, hc2, oc, hk0 c oc hoc, hdc⟩
 ·obtain ⟨v, oc, hoc, hdc⟩ := I.cell x c (B.sub I.ok e)
  exact ⟨v, oc, hk0 c oc hoc, hdc⟩
 ·show upd H s.heap.objs.size (.lst []) (s.heap.objs.size + 1) = none
  rw [upd_ne (Nat.succ_ne_self _)]; exact fresh _ (Nat.le_succ _)
 ·have e' := B.sub I.ok e
  rw [updF c (cl x c e')]; exact I.freeC x c e'
 ·have hp' : p ∈ X.pn ++ pins := by
   rcases List.mem_append.mp hp with z | z
   ·exact z
   ·exact nomatch z
  obtain ⟨q1, q2, q3, q4, q5⟩ := I.pin p hp'
  refine ⟨hk0 _ _ q1, by rw [updF _ (lt _ _ q1)]; exact q2, ?_, fun z => ?_, q5⟩
  ·exact Nat.ne_of_lt (Nat.lt_succ_of_lt (lt _ _ q1))
  ·rcases List.mem_cons.mp (I.stkSub _ z) with e | z
   ·exact q3 e
   ·exact q4 z
 ·refine I.hok.laid hk0 (Nat.le_refl _) ?_
  exact ⟨Nat.zero_le _, [], 0, .nil, hk _ _ (Heap.get?_push_size _ rfl)⟩
 ·show (blkσ xs σ).length = (blkN xs X.N).length
  unfold blkσ blkN
  rw [List.length_append, List.length_append, List.length_replicate, List.length_map, I.len]
theorem blk_end {fp : List Addr} {s' : Shared} {σ' : St} {H' : Hp} (I : Inv X pins σ H s) (hf : ∀ b ∈ fp, FpOk X pins H b)
  (J : Inv (blk X pins xs sc (s.heap.objs.size + 1) fp { s with heap := s.heap.push { cls := .type "list", data := .seq ([] : List Value).toArray } } (upd H s.heap.objs.size (.lst []))) [] σ' H' s') :
  Inv X pins σ H' s' := by
 have u1 : Un (frs X.stack) fp H (upd H s.heap.objs.size (.lst [])) s.heap (s.heap.push { cls := .type "list", data := .seq ([] : List Value).toArray }) :=
  Un.laid (fun b o e => Heap.get?_push_of_some _ e) (Nat.le_refl _) (I.hok.fresh (Nat.le_refl _))
 have u2 : Un (frs X.stack) fp (upd H s.heap.objs.size (.lst [])) H' (s.heap.push { cls := .type "list", data := .seq ([] : List Value).toArray }) s'.heap := J.base
 exact I.call' (s' := s') (ch := fp) J.os (u1.trans u2) J.hok J.bare fun b hb => ⟨(hf b hb).2.2.2.1, (hf b hb).2.1, (hf b hb).2.2.2.2.1, (hf b hb).2.2.2.2.2⟩
theorem blk_gone {fp : List Addr} {s' s'' : Shared} {σ' σ2 : St} {H' H2 : Hp} {h' : Heap} (I : Inv X pins σ H s)
  (hC : H2 (s.heap.objs.size + 1) = none) (I2 : Inv X pins σ2 H2 s'') (hs : Heap.SameBut (s.heap.objs.size + 1) s''.heap h') : Inv X pins σ2 H2 { s'' with heap := h' } := by
 have hL : s.heap.objs.size + 1 ≠ X.env.locals := Nat.ne_of_gt (Nat.lt_succ_of_lt I.lt)
 refine I2.turned (t' := s''.toks) (it := s.heap.objs.size + 1) (fun b o hb e => (hs.2 b hb).trans e) hC hL (.inr (Nat.le_succ_of_le I.sz)) (fun x c e => ?_) fun p hp => ?_
 ·obtain ⟨v, q⟩ := I.cell x c e
  exact Nat.ne_of_lt (Nat.lt_succ_of_lt q.lt)
 ·exact Nat.ne_of_lt (Nat.lt_succ_of_lt (Heap.lt_size (I.pin p hp).1))
end
def PIf (X : Cx) (ifs : List Expr) (t : TT) : Prop :=
 ∀ (pins : List (Addr × Obj)) (s : Shared) (σ : St) (H : Hp) (Q : Bool → Hp → Prop), Inv X pins σ H s → t σ H Q →
  wpAny (model X.prog X.w) X.A (forIn ifs true fun c r => if r = true then do let ok ← isTrue c X.env (eval c X.env); pure (ForInStep.yield ok) else pure (ForInStep.yield r)) (TP X pins σ Q) X.xe s
def tTrue : TT := fun _ H Q => Q true H
theorem pif_nil {X : Cx} : PIf X [] tTrue := fun _ _ _ H _ I h => wpAny_tests_nil ⟨H, I, h⟩
def tTurns (J : It) (g : TG) (tc : TT) (te : TE) (D : Addr) (Q : Hp → Prop) (σ : St) (H : Hp) : Prop :=
 ∃ W : Nat → Nat → St → Hp → Prop, (∃ m, W 0 m σ H) ∧ ∀ i m σ H, W i m σ H →
  (J.stop i H ∧ Q H) ∨ (J.go i H ∧ ∃ N : St → Hp → Prop, (∀ σ' H', N σ' H' → ∃ m', m' < m ∧ W (i + 1) m' σ' H') ∧ ∀ x H', J.yld i H x H' → g x σ H' fun σ2 H2 => tc σ2 H2 fun b H3 =>
   if b = true then te σ2 H3 fun v H4 => ∃ ys, H4 D = some (.lst ys) ∧ ys.length < sizeLine ∧ N σ2 (upd H4 D (.lst (ys ++ [v]))) else N σ2 H3)
theorem comp_loop {P : Program} {w : World} {K : PySem.W.Frag} {Y : Cx} (hP : Y.prog = P) (hw : Y.w = w) (hK : Y.K = K) {tg iter elt : Expr} {ifs : List Expr} {scope : Scope} {pos : Pos} {J : It} {fp : List Addr} {it D : Addr} {tn : Nat → Heap → Prop} {g : TG} {tc : TT} {te : TE}
  {Q : Hp → Prop} {R : Result → Shared → Prop} {s : Shared} {σ : St} {H : Hp}
  (hcalm : Y.calm = true) (hx : Y.xe = fun _ _ => False) (T : Turn P w K tg J fp it tn) (hg : PG Y tg g) (hc : PIf Y ifs tc) (he : PE Y elt te) (I : Inv Y [] σ H s) (st : tn 0 s.heap) (hf : ∀ b ∈ fp, FpOk Y [] H b) (h : tTurns J g tc te D Q σ H)
  (hR : ∀ σ' H' s', Inv Y [] σ' H' s' → Q H' → R (.ok .next) s') :
  codeAny (model P w) Y.A (.compLoop (.ListComp elt [⟨tg, iter, ifs, 0⟩] scope pos) 0 (.ref it) (.ref D) Y.env) R s := by
 subst hP hw hK
 obtain ⟨W, ⟨m0, w0⟩, turn⟩ := h
 have stat : ∀ {H' : Hp}, (∀ b ∈ fp, H' b = none) → ∀ b ∈ fp, FpOk Y [] H' b := fun hn b hb => ⟨hn b hb, (hf b hb).2⟩
 have no : ∀ {α : Type} {t : Sem α} {Qa : α → Shared → Prop} {E : Value → Shared → Prop} {s : Shared}, wpAny (model Y.prog Y.w) Y.A t Qa Y.xe s → wpAny (model Y.prog Y.w) Y.A t Qa E s := fun z => wpAny_mono z (fun _ _ q => q) fun _ _ q => by rw [hx] at q; exact q.elim
 refine codeAny_loop rfl (fun n s' => ∃ i σ' H', Inv Y [] σ' H' s' ∧ tn i s'.heap ∧ (∀ b ∈ fp, H' b = none) ∧ W i n σ' H') ?_ m0 ⟨0, σ, H, I, st, fun b hb => (hf b hb).1, w0⟩
 rintro n s3 ⟨i, σ3, H3, I3, st3, fr3, w3⟩
 show wpAny _ Y.A ((compTurn (.ListComp elt [⟨tg, iter, ifs, 0⟩] scope pos) 0 (.ref it) (.ref D) Y.env).onRaise (fun x => do noteFrame x Y.env; theTreesLotGoes x)) _ _ s3
 refine wpAny_noted ?_
 rw [compTurn_list]
 refine wpAny_bind (wpAny_standAt (wpAny_bind ?_))
 rcases turn i n σ3 H3 w3 with ⟨stop, qn⟩ | ⟨go, N, hN, step⟩
 ·refine wpAny_mono (T.done Y rfl rfl rfl hcalm i [] s3 σ3 H3 _ I3 (stat fr3) st3 stop) (fun r s4 ⟨hr, I4⟩ => ?_) fun _ _ q => q
  subst hr
  exact wpAny_pure (hR σ3 H3 s4 I4 qn)
 ·refine wpAny_mono (T.item Y rfl rfl rfl hcalm i [] s3 σ3 H3 _ I3 (stat fr3) st3 go) (fun r s4 ⟨u, hr, h4⟩ => ?_) fun _ _ q => q
  subst hr
  refine wpAny_bind (wpAny_mono h4 (fun _ s5 ⟨x, H5, I5, r5, y5, st5, fr5⟩ => ?_) fun _ _ q => q)
  have I5' := I5.pinned (stat fr5) (T.obj _ _ st5)
  have again : ∀ {s7 : Shared} {σ7 : St} {H7 : Hp}, Inv Y ([] ++ pinsAt fp s5.heap) σ7 H7 s7 → N σ7 H7 → ∃ m, m < n ∧ ∃ i σ' H', Inv Y [] σ' H' s7 ∧ tn i s7.heap ∧ (∀ b ∈ fp, H' b = none) ∧ W i m σ' H' := fun {s7 σ7 H7} I7 n7 => by
   obtain ⟨m', hm, w7⟩ := hN σ7 H7 n7
   refine ⟨m', hm, i + 1, σ7, H7, I7.unpinned, T.keep _ _ _ st5 fun b hb o e => (I7.pin (b, o) (List.mem_append_right _ (List.mem_append_right _ (mem_pinsAt hb e)))).1, fun b hb => ?_, w7⟩
   obtain ⟨o, e, d⟩ := T.obj _ _ st5 b hb
   exact (I7.pin (b, o) (List.mem_append_right _ (List.mem_append_right _ (mem_pinsAt hb e)))).2.1
  refine wpAny_bind (no (thn (hg _ s5 σ3 H5 x u _ I5' r5 (step x H5 y5)) fun _ s6 ⟨σ6, H6, I6, q6⟩ => ?_))
  refine wpAny_bind (no (thn (hc _ s6 σ6 H6 _ I6 q6) fun ok s7 ⟨H7, I7, q7⟩ => ?_))
  cases ok with
  | false => exact wpAny_pure ⟨rfl, again I7 q7⟩
  | true =>
   refine wpAny_bind (wpAny_bind (no (thn (he _ s7 σ6 H7 _ I7 q7) fun v s8 ⟨y, H8, I8, r8, ys, eD, hz, n8⟩ => ?_)))
   refine wpAny_bind (no (thn (mt_append _ s8 σ6 H8 (.ref D) [y] (.ref D) [v] (fun _ H9 => N σ6 H9) I8 rfl (.cons r8 .nil) ⟨D, ys, y, rfl, rfl, eD, hz, n8⟩) fun _ s9 ⟨_, H9, I9, _, n9⟩ => ?_))
   exact wpAny_pure (wpAny_pure ⟨rfl, again I9 n9⟩)
section
variable {X : Cx}
def tComp (xs : List Str) (wi : TI) (g : TG) (tc : TT) (te : TE) : TE := fun σ H Q => wi σ H fun J H1 => ∀ D, H1 D = none → tTurns J g tc te D (fun H' => Q (.ref D) H') (blkσ xs σ) (upd H1 D (.lst []))
theorem comp_core {tg iter elt : Expr} {ifs : List Expr} {sc : Scope} {pos pos' : Pos} {xs : List Str} {wi : TI} {g : TG} {tc : TT} {te : TE} {use : Option (Value → Sem Unit)} (hcalm : X.calm = true) (B : BlkScope X xs sc) (hi : PI X tg iter wi)
  (hb : ∀ pins C fp s3 H3, PG (blk X pins xs sc C fp s3 H3) tg g ∧ PIf (blk X pins xs sc C fp s3 H3) ifs tc ∧ PE (blk X pins xs sc C fp s3 H3) elt te)
  {pins : List (Addr × Obj)} {s : Shared} {σ : St} {H : Hp} {Q : Value → Shared → Prop} {QA : Addr → Hp → Prop} (I : Inv X pins σ H s) (h : wi σ H fun J H1 => ∀ D, H1 D = none → tTurns J g tc te D (QA D) (blkσ xs σ) (upd H1 D (.lst [])))
  (fin : ∀ C D H' s' m, s'.heap.Ns C m → H' C = none → Inv X pins σ H' s' → QA D H' → (∀ σ2 H2 s2 h2, Inv X pins σ2 H2 s2 → H2 C = none → Heap.SameBut C s2.heap h2 → Inv X pins σ2 H2 { s2 with heap := h2 }) → C ≠ X.env.locals → (∀ x c, X.env.cells.lookup x = some c → c ≠ C) →
   match use with
   | none => ∀ h', Heap.SameBut C s'.heap h' → Q (.ref D) { s' with heap := h' }
   | some u => wpAny (model X.prog X.w) X.A (u (.ref D)) (fun _ s'' => ∃ m, s''.heap.Ns C m ∧ ∀ h', Heap.SameBut C s''.heap h' → Q .none { s'' with heap := h' }) X.xe s')
  (hs : ∀ x, foldedSetIterable iter X.env x = pure x := by intro _; rfl) :
  wpAny (model X.prog X.w) X.A (comprehension (.ListComp elt [⟨tg, iter, ifs, 0⟩] sc pos) sc X.env pos' (newList []) false (eval iter X.env) use) Q X.xe s := by
 refine wpAny_comprehension_free (cl := closL X.env.cells sc.names []) (use := use) rfl hs (closureFor_closL (B.cells I.ok)) B.kind B.locs
  (thn (hi pins s σ H _ I h) fun v s1 h1 => thn h1 fun itv s2 h2 => ?_)
 obtain ⟨it, fp, tn, J, H2, e, I2, T, st2, f2, tr⟩ := h2
 subst e
 have hfl : ∀ b ∈ fp, b < s2.heap.objs.size := fun b hb => by obtain ⟨o, e, _⟩ := T.obj _ _ st2 b hb; exact Heap.lt_size e
 have hD : H2 s2.heap.objs.size = none := I2.hok.fresh (Nat.le_refl _)
 refine wpAny_newObj_type (wpAny_newFunctionEnv B.nocell (by intro y hy; simp at hy) (fun h1 hns hsb => ?_) B.kind)
 have hsz : (s2.heap.push { cls := .type "list", data := .seq ([] : List Value).toArray }).objs.size = s2.heap.objs.size + 1 := Heap.size_push ..
 dsimp only at hns hsb ⊢
 rw [hsz] at hns hsb ⊢
 have hk : ∀ b o, (s2.heap.push { cls := .type "list", data := .seq ([] : List Value).toArray }).get? b = some o → h1.get? b = some o := fun b o e =>
  (hsb.2 b (Nat.ne_of_lt (by have := Heap.lt_size e; rw [hsz] at this; exact this))).trans (Heap.get?_push_of_some _ e)
 have J0 := blk_start (tk := s2.toks + ([] : List (Str × Value)).length) hcalm B I2 f2 hfl hns hk
 have st3 : tn 0 h1 := T.keep _ _ _ st2 fun b _ o e => hk b o (Heap.get?_push_of_some _ e)
 have fY : ∀ b ∈ fp, FpOk (blk X pins xs sc (s2.heap.objs.size + 1) fp { s2 with heap := s2.heap.push { cls := .type "list", data := .seq ([] : List Value).toArray } } (upd H2 s2.heap.objs.size (.lst []))) [] (upd H2 s2.heap.objs.size (.lst [])) b := fun b hb => by
  obtain ⟨q1, q2, q3, q4, q5, q6⟩ := f2 b hb
  refine ⟨by rw [upd_ne (Nat.ne_of_lt (hfl b hb))]; exact q1, Nat.ne_of_lt (Nat.lt_succ_of_lt (hfl b hb)), fun z => ?_, .inl hb, fun x c e => q5 x c (B.sub I2.ok e), fun p hp => ?_⟩
  ·rcases List.mem_cons.mp (I2.stkSub _ z) with e | z
   ·exact q2 e
   ·exact q3 z
  ·rcases List.mem_append.mp hp with z | z
   ·exact q6 p z
   ·exact nomatch z
 have loop : ∀ (RR : Result → Shared → Prop), (∀ σ' H' s', Inv (blk X pins xs sc (s2.heap.objs.size + 1) fp { s2 with heap := s2.heap.push { cls := .type "list", data := .seq ([] : List Value).toArray } } (upd H2 s2.heap.objs.size (.lst []))) [] σ' H' s' → QA s2.heap.objs.size H' → RR (.ok .next) s') →
   codeAny (model X.prog X.w) X.A (.compLoop (.ListComp elt [⟨tg, iter, ifs, 0⟩] sc pos) 0 (.ref it) (.ref s2.heap.objs.size) (compEnvC sc (closL X.env.cells sc.names []) (s2.heap.objs.size + 1) X.env)) RR
    { s2 with heap := h1, toks := s2.toks + ([] : List (Str × Value)).length } := fun RR hR =>
  comp_loop (Y := blk X pins xs sc (s2.heap.objs.size + 1) fp { s2 with heap := s2.heap.push { cls := .type "list", data := .seq ([] : List Value).toArray } } (upd H2 s2.heap.objs.size (.lst []))) rfl rfl rfl rfl rfl T (hb _ _ _ _ _).1 (hb _ _ _ _ _).2.1 (hb _ _ _ _ _).2.2 J0 st3 fY (tr _ hD) hR
 refine codeAny_compStart_list (loop _ ?_) (T.self _ 0 _ _ _ st3 (loop _ ?_))
 all_goals
  intro σ' H' s' J' q'
  have I' := blk_end (sc := sc) I2 f2 J'
  obtain ⟨m, hm, _⟩ := J'.loc
  have hC : H' (s2.heap.objs.size + 1) = none := J'.free
  have z := fin (s2.heap.objs.size + 1) s2.heap.objs.size H' s' m hm hC I' q' (fun σ3 H3 s3 h3 I3 c3 sb => blk_gone (fp := fp) (s' := s') (σ' := σ') (H' := H') I2 c3 I3 sb) (Nat.ne_of_gt (Nat.lt_succ_of_lt I2.lt))
   (fun x c e => by obtain ⟨v, q⟩ := I2.cell x c e; exact Nat.ne_of_lt (Nat.lt_succ_of_lt q.lt))
  cases use with
  | none => exact ⟨m, hm, fun h' sb => z h' sb⟩
  | some u => exact z
theorem pe_comp {tg iter elt : Expr} {ifs : List Expr} {sc : Scope} {pos : Pos} (xs : List Str) {wi : TI} {g : TG} {tc : TT} {te : TE} (hcalm : X.calm = true) (B : BlkScope X xs sc) (hi : PI X tg iter wi)
  (hb : ∀ pins C fp s3 H3, PG (blk X pins xs sc C fp s3 H3) tg g ∧ PIf (blk X pins xs sc C fp s3 H3) ifs tc ∧ PE (blk X pins xs sc C fp s3 H3) elt te) (hs : ∀ x, foldedSetIterable iter X.env x = pure x := by intro _; rfl) :
  PE X (.ListComp elt [⟨tg, iter, ifs, 0⟩] sc pos) (tComp xs wi g tc te) := by
 intro pins s σ H Q I h
 rw [eval_ListComp]
 exact comp_core (use := none) (Q := EP X pins σ Q) (QA := fun D H' => Q (.ref D) H') hcalm B hi hb I h (fun C D H' s' m _ hC I' q back _ _ h' sb => ⟨.ref D, H', back σ H' s' h' I' hC sb, rfl, q⟩) hs
theorem ps_comp {tg iter elt : Expr} {ifs : List Expr} {sc : Scope} {pos spos py : Pos} (xs : List Str) {j : Nat} {y : Str} {wi : TI} {g : TG} {tc : TT} {te : TE} (hcalm : X.calm = true) (B : BlkScope X xs sc) (hi : PI X tg iter wi)
  (hb : ∀ pins C fp s3 H3, PG (blk X pins xs sc C fp s3 H3) tg g ∧ PIf (blk X pins xs sc C fp s3 H3) ifs tc ∧ PE (blk X pins xs sc C fp s3 H3) elt te)
  (hN : X.N.Nodup) (hj : X.N[j]? = some y) (hy : Loc X.env.scope y) (hsw : swapsWith (.ListComp elt [⟨tg, iter, ifs, 0⟩] sc pos) (some (.Name y py)) spos.line X.env = pure true)
  (hfn : X.fn y = true ∨ X.env.scope.names.lookup y = some .local := by first | exact .inl rfl | exact .inr rfl | assumption) (hs : ∀ x, foldedSetIterable iter X.env x = pure x := by intro _; rfl) :
  PS X (.Assign [.Name y py] (.ListComp elt [⟨tg, iter, ifs, 0⟩] sc pos) spos) (tAsg (tComp xs wi g tc te) (gName j)) := by
 intro pins s σ H D I h
 rw [exec_Assign_Name_used _ _ _ _ hsw]
 refine wpAny_bind (wpAny_standAt (wpAny_bind ?_))
 show wpAny _ X.A (do let _ ← comprehension (.ListComp elt [⟨tg, iter, ifs, 0⟩] sc pos) sc X.env _ (newList []) false (eval iter X.env) (some (assign (.Name y py) X.env))) _ _ s
 refine wpAny_bind (wpAny_mono (comp_core (use := some (assign (.Name y py) X.env)) (Q := fun _ s' => SP X pins D .next s') (QA := fun Da H' => D.nx (σ.set j (some (.ref Da))) H') hcalm B hi hb I h (fun C Da H' s' m hm hC I' q back hCL hCc => ?_) hs) (fun _ s' hq => wpAny_pure (wpAny_pure hq)) fun _ _ e => e)
 refine wpAny_assign_Name (store_ok2 I' hN hj hy (v := .ref Da) rfl (fun s2 I2 ⟨a, sb, ha⟩ => ?_) hfn)
 have hne : C ≠ a := by
  rcases ha with z | z
  ·rw [z]; exact hCL
  ·exact fun e => hCc _ _ z e.symm
 exact ⟨m, hm.sameBut sb hne, fun h' sb' => ⟨_, H', back _ H' s2 h' I2 hC sb', q⟩⟩
end
end L2
namespace L2
open PySem PySem.Spec PyProof.Rows PySem.SeqAt
inductive EqV (K : PySem.W.Frag) (H : Hp) : Nat → V → V → Bool → Prop where
 | int {n : Nat} (i j : Int) : EqV K H n (.int i) (.int j) (i == j)
 | bl {n : Nat} (i j : Bool) : EqV K H n (.bl i) (.bl j) (i == j)
 | str {n : Nat} (i j : Str) : EqV K H n (.str i) (.str j) (i == j)
 | same {n : Nat} (a : Addr) : EqV K H n (.ref a) (.ref a) true
 | non {n : Nat} : EqV K H n .non .non true
 | lst {n : Nat} {a b : Addr} {xs ys : List V} {e : Nat → Bool} (ne : a ≠ b) (h1 : SqL K H a xs) (h2 : SqL K H b ys) (hl : xs.length = ys.length)
   (he : ∀ (j : Nat) (x y : V), xs[j]? = some x → ys[j]? = some y → EqV K H n x y (e j)) : EqV K H (n + 1) (.ref a) (.ref b) ((List.range xs.length).all e)
 | lstN {n : Nat} {a b : Addr} {xs ys : List V} (ne : a ≠ b) (h1 : SqL K H a xs) (h2 : SqL K H b ys) (hl : xs.length ≠ ys.length) : EqV K H (n + 1) (.ref a) (.ref b) false
 | tup {n : Nat} {a b : Addr} {xs ys : List V} {e : Nat → Bool} (ne : a ≠ b) (h1 : SqT K H a xs) (h2 : SqT K H b ys) (hl : xs.length = ys.length)
   (he : ∀ (j : Nat) (x y : V), xs[j]? = some x → ys[j]? = some y → EqV K H n x y (e j)) : EqV K H (n + 1) (.ref a) (.ref b) ((List.range xs.length).all e)
section
variable {X : Cx} {pins : List (Addr × Obj)} {σ : St} {H : Hp} {s : Shared}
theorem vals_at {xs : List V} {us : List Value} (r : Vals xs us) {j : Nat} (h : j < us.toArray.size) : ∃ x, xs[j]? = some x ∧ RelV x us.toArray[j] := by
 have hl := r.length
 have hj : j < xs.length := by rw [hl]; simpa using h
 obtain ⟨u, hu, ru⟩ := r.get (List.getElem?_eq_getElem hj)
 have e : us.toArray[j] = u := by
  have : us[j]? = some us.toArray[j] := by simp
  rw [this] at hu; exact Option.some.inj hu
 exact ⟨xs[j], List.getElem?_eq_getElem hj, by rw [e]; exact ru⟩
theorem EqV.at (I : Inv X pins σ H s) : ∀ {n : Nat} {x y : V} {b : Bool}, EqV X.K H n x y b → ∀ {A : Around} {u v : Value}, A.units + n < cLine → RelV x u → RelV y v → EqAt A s u v b := by
 intro n x y b h
 induction h with
 | int i j => intro A u v _ ru rv; obtain ⟨t, rfl⟩ := ru; obtain ⟨t', rfl⟩ := rv; exact EqAt.int_int _ _ _ _
 | bl i j => intro A u v _ ru rv; cases ru; cases rv; exact EqAt.bool_bool _ _
 | str i j => intro A u v _ ru rv; obtain ⟨t, rfl⟩ := ru; obtain ⟨t', rfl⟩ := rv; exact EqAt.str_str _ _ _ _
 | same a => intro A u v _ ru rv; cases ru; cases rv; exact EqAt.same _
 | non => intro A u v _ ru rv; cases ru; cases rv; exact EqAt.same _
 | @lst n a b xs ys e ne h1 h2 hl he ih =>
  intro A u v hu ru rv
  cases ru; cases rv
  obtain ⟨i1, r1, p1, _⟩ := I.list h1
  obtain ⟨i2, r2, p2, _⟩ := I.list h2
  have e1 : xs.length = i1.toArray.size := by rw [r1.length]; simp
  have e2 : ys.length = i2.toArray.size := by rw [r2.length]; simp
  rw [e1]
  refine EqAt.of_refs ne (RcAt.lists p1.isList p2.isList (by omega) (by omega) fun j k1 k2 => ?_)
  obtain ⟨x, hx, rx⟩ := vals_at r1 k1
  obtain ⟨y, hy, ry⟩ := vals_at r2 k2
  exact ih j x y hx hy (by show A.units + 1 + n < cLine; omega) rx ry
 | @lstN n a b xs ys ne h1 h2 hl =>
  intro A u v hu ru rv
  cases ru; cases rv
  obtain ⟨i1, r1, p1, _⟩ := I.list h1
  obtain ⟨i2, r2, p2, _⟩ := I.list h2
  refine EqAt.of_refs ne (RcAt.lists_lengths p1.isList p2.isList ?_ (by omega))
  have e1 : xs.length = i1.toArray.size := by rw [r1.length]; simp
  have e2 : ys.length = i2.toArray.size := by rw [r2.length]; simp
  exact bne_iff_ne.mpr (by omega)
 | @tup n a b xs ys e ne h1 h2 hl he ih =>
  intro A u v hu ru rv
  cases ru; cases rv
  obtain ⟨i1, r1, p1, _⟩ := I.tuple h1
  obtain ⟨i2, r2, p2, _⟩ := I.tuple h2
  have e1 : xs.length = i1.toArray.size := by rw [r1.length]; simp
  have e2 : ys.length = i2.toArray.size := by rw [r2.length]; simp
  have q := RcAt.tuples (A := A) (e := e) p1 p2 (by omega) fun j k1 k2 => by
   obtain ⟨x, hx, rx⟩ := vals_at r1 k1
   obtain ⟨y, hy, ry⟩ := vals_at r2 k2
   exact ih j x y hx hy (by show A.units + 1 + n < cLine; omega) rx ry
  have ez : i1.toArray.size = i2.toArray.size := by omega
  rw [ez, Nat.min_self, beq_self_eq_true, Bool.and_true, ← ez, ← e1] at q
  exact EqAt.of_refs ne q
inductive RcV (K : PySem.W.Frag) (H : Hp) : V → V → Bool → Prop where
 | lst {a b : Addr} {xs ys : List V} {e : Nat → Bool} (h1 : SqL K H a xs) (h2 : SqL K H b ys) (hl : xs.length = ys.length)
   (he : ∀ (j : Nat) (x y : V), xs[j]? = some x → ys[j]? = some y → EqV K H 4 x y (e j)) : RcV K H (.ref a) (.ref b) ((List.range xs.length).all e)
 | lstN {a b : Addr} {xs ys : List V} (h1 : SqL K H a xs) (h2 : SqL K H b ys) (hl : xs.length ≠ ys.length) : RcV K H (.ref a) (.ref b) false
 | tup {a b : Addr} {xs ys : List V} {e : Nat → Bool} (h1 : SqT K H a xs) (h2 : SqT K H b ys) (hl : xs.length = ys.length)
   (he : ∀ (j : Nat) (x y : V), xs[j]? = some x → ys[j]? = some y → EqV K H 4 x y (e j)) : RcV K H (.ref a) (.ref b) ((List.range xs.length).all e)
theorem RcV.at (I : Inv X pins σ H s) {x y : V} {b : Bool} (h : RcV X.K H x y b) {A : Around} {u v : Value} (hu : A.units + 8 < cLine) (ru : RelV x u) (rv : RelV y v) : RcAt A s u v b ∧ RcNeAt A s u v (!b) := by
 cases h with
 | @lst a b xs ys e h1 h2 hl he =>
  cases ru; cases rv
  obtain ⟨i1, r1, p1, _⟩ := I.list h1
  obtain ⟨i2, r2, p2, _⟩ := I.list h2
  have e1 : xs.length = i1.toArray.size := by rw [r1.length]; simp
  have e2 : ys.length = i2.toArray.size := by rw [r2.length]; simp
  have el : ∀ j (k1 : j < i1.toArray.size) (k2 : j < i2.toArray.size), EqAt A.in1 s i1.toArray[j] i2.toArray[j] (e j) := fun j k1 k2 => by
   obtain ⟨x, hx, rx⟩ := vals_at r1 k1
   obtain ⟨y, hy, ry⟩ := vals_at r2 k2
   exact (he j x y hx hy).at I (by show A.units + 1 + 4 < cLine; omega) rx ry
  rw [e1]
  exact ⟨RcAt.lists p1.isList p2.isList (by omega) (by omega) el, RcNeAt.lists p1.isList p2.isList (by omega) (by omega) el⟩
 | @lstN a b xs ys h1 h2 hl =>
  cases ru; cases rv
  obtain ⟨i1, r1, p1, _⟩ := I.list h1
  obtain ⟨i2, r2, p2, _⟩ := I.list h2
  have e1 : xs.length = i1.toArray.size := by rw [r1.length]; simp
  have e2 : ys.length = i2.toArray.size := by rw [r2.length]; simp
  have q : (i1.toArray.size != i2.toArray.size) = true := bne_iff_ne.mpr (by omega)
  exact ⟨RcAt.lists_lengths p1.isList p2.isList q (by omega), RcNeAt.lists_lengths p1.isList p2.isList q (by omega)⟩
 | @tup a b xs ys e h1 h2 hl he =>
  cases ru; cases rv
  obtain ⟨i1, r1, p1, _⟩ := I.tuple h1
  obtain ⟨i2, r2, p2, _⟩ := I.tuple h2
  have e1 : xs.length = i1.toArray.size := by rw [r1.length]; simp
  have e2 : ys.length = i2.toArray.size := by rw [r2.length]; simp
  have el : ∀ j (k1 : j < i1.toArray.size) (k2 : j < i2.toArray.size), EqAt A.in1 s i1.toArray[j] i2.toArray[j] (e j) := fun j k1 k2 => by
   obtain ⟨x, hx, rx⟩ := vals_at r1 k1
   obtain ⟨y, hy, ry⟩ := vals_at r2 k2
   exact (he j x y hx hy).at I (by show A.units + 1 + 4 < cLine; omega) rx ry
  have ez : i1.toArray.size = i2.toArray.size := by omega
  have q1 := RcAt.tuples (A := A) (e := e) p1 p2 (by omega) el
  have q2 := RcNeAt.tuples (A := A) (e := e) p1 p2 (by omega) el
  rw [ez, Nat.min_self, beq_self_eq_true, Bool.and_true, ← ez, ← e1] at q1 q2
  exact ⟨q1, q2⟩
def rEqD (K : PySem.W.Frag) : R2 := fun x y H Q => ∃ b, RcV K H x y b ∧ Q (.bl b) H
def rNeD (K : PySem.W.Frag) : R2 := fun x y H Q => ∃ b, RcV K H x y b ∧ Q (.bl (!b)) H
theorem op_eqD (hu : X.A.units + 64 < cLine) : OpR X (compareOp .Eq) (rEqD X.K) := by
 intro pins s σ H x y v u Q I rx ry ⟨b, h, q⟩
 exact (h.at I (by omega) rx ry).1 _ _ _ _ ⟨.bl b, H, I, rfl, q⟩
theorem op_neD (hu : X.A.units + 64 < cLine) : OpR X (compareOp .NotEq) (rNeD X.K) := by
 intro pins s σ H x y v u Q I rx ry ⟨b, h, q⟩
 exact (h.at I (by omega) rx ry).2 _ _ _ _ ⟨.bl (!b), H, I, rfl, q⟩
end
theorem range_all_eq {α : Type} [BEq α] [LawfulBEq α] : ∀ {xs ys : List α}, xs.length = ys.length → (List.range xs.length).all (fun j => xs[j]? == ys[j]?) = (xs == ys) := by
 intro xs ys hl
 rw [Bool.eq_iff_iff, List.all_eq_true, beq_iff_eq]
 constructor
 ·intro h
  refine List.ext_getElem? fun j => ?_
  by_cases hj : j < xs.length
  ·exact eq_of_beq (h j (List.mem_range.mpr hj))
  ·rw [List.getElem?_eq_none (by omega), List.getElem?_eq_none (by omega)]
 ·intro h j _
  rw [h]; exact beq_self_eq_true _
section
variable {K : PySem.W.Frag} {H : Hp}
theorem eqv_ints_item {n : Nat} {xs ys : List Int} : ∀ (j : Nat) (x y : V), (xs.map V.int)[j]? = some x → (ys.map V.int)[j]? = some y → EqV K H n x y (xs[j]? == ys[j]?) := by
 intro j x y hx hy
 rw [List.getElem?_map] at hx hy
 cases ex : xs[j]? with
 | none => rw [ex] at hx; cases hx
 | some i =>
  cases ey : ys[j]? with
  | none => rw [ey] at hy; cases hy
  | some k =>
   rw [ex] at hx; rw [ey] at hy; cases hx; cases hy
   have e : (some i == some k) = (i == k) := by rfl
   rw [e]
   exact EqV.int i k
theorem rcv_ints {a b : Addr} {xs ys : List Int} (h1 : SqL K H a (xs.map V.int)) (h2 : SqL K H b (ys.map V.int)) : RcV K H (.ref a) (.ref b) (xs == ys) := by
 by_cases hl : xs.length = ys.length
 ·have q := RcV.lst (e := fun j => xs[j]? == ys[j]?) h1 h2 (by simpa using hl) eqv_ints_item
  rw [List.length_map, range_all_eq hl] at q
  exact q
 ·have e : (xs == ys) = false := by rw [beq_eq_false_iff_ne]; intro e; exact hl (by rw [e])
  rw [e]
  exact RcV.lstN h1 h2 (by simpa using hl)
end
section
variable {X : Cx}
def rIsi (K : PySem.W.Frag) (T : String) : List V → Hp → VK → Prop := fun vs H Q => ∃ x t b, vs = [x, .ty T] ∧ TyOf K H x t ∧ PySem.W.kitOne K t (.type T) = some b ∧ Q (.bl b) H
theorem call_isi (T : String) : CallR X (.builtin "isinstance") (rIsi X.K T) := by
 intro pins s σ H xs us Q I r h
 obtain ⟨x, t, b, rfl, ty, e, q⟩ := h
 obtain ⟨u, v, rfl, ru, rv⟩ := r.two
 cases rv
 exact isinst_ok I ru ty e fun tk => ⟨.bl b, H, I.tok tk, rfl, q⟩
theorem rng_list {pins : List (Addr × Obj)} {σ : St} {H : Hp} {s : Shared} {Q : VK} {E : Value → Shared → Prop} {lo hi : Int} {t u v : Tok} {tk : Nat} (hcalm : X.calm = true) (I : Inv X pins σ H s) (h1 : -(2 ^ 20) ≤ lo) (h2 : lo < 2 ^ 20) (h3 : -(2 ^ 20) ≤ hi) (h4 : hi < 2 ^ 20)
  (q : ∀ p, H p = none → Q (.ref p) (upd H p (.lst ((List.range (hi - lo).toNat).map fun i : Nat => V.int (lo + i))))) :
  wpAny (model X.prog X.w) X.A (call (.type "list") [.ref s.heap.objs.size]) (EP X pins σ Q) E { s with heap := s.heap.push { cls := .type "range", data := .fields #[.int lo t, .int hi u, .int 1 v] }, toks := tk } := by
 have I1 : Inv X pins σ H { s with heap := s.heap.push { cls := .type "range", data := .fields #[.int lo t, .int hi u, .int 1 v] }, toks := tk } := I.kept fun b o e => Heap.get?_push_of_some _ e
 refine call_list_range (n := (hi - lo).toNat) (I.ok.hd hcalm) (IsRange.new ..) (small_one (by omega) (by omega) (by omega) (by omega)) (by rw [rangeSize_one]; split <;> omega) (by omega) fun h' tk' acc' c' hk hS hacc => ?_
 refine ⟨.ref _, _, I1.laid (t' := tk') hk (Nat.le_refl _) (show ObjOk X.prog X.w _ h' _ (.lst ((List.range (hi - lo).toNat).map fun i : Nat => V.int (lo + i))) from ⟨?_, acc'.toList, c', ?_, by simpa using hS⟩), rfl, q _ (I1.hok.fresh (Nat.le_refl _))⟩
 ·rw [List.length_map, List.length_range]
  exact Nat.le_trans (show (hi - lo).toNat ≤ 2 ^ 22 by omega) (by decide)
 ·have key : ∀ (n : Nat) (us : List Value) (f : Nat → Int), us.length = n → (∀ (j : Nat) (u : Value), us[j]? = some u → ∃ t, u = Value.int (f j) t) → Vals ((List.range n).map fun i : Nat => V.int (f i)) us := by
   intro n
   induction n with
   | zero => intro us f hl _; have : us = [] := List.eq_nil_of_length_eq_zero hl; subst this; exact .nil
   | succ n ih =>
    intro us f hl hu
    cases us with
    | nil => cases hl
    | cons u0 r =>
     rw [List.range_succ_eq_map, List.map_cons, List.map_map]
     refine .cons (hu 0 u0 rfl) ?_
     exact ih r (fun i => f (i + 1)) (by simpa using hl) fun j w hw => hu (j + 1) w (by simpa using hw)
  refine key _ _ (fun i => lo + i) (by rw [Array.length_toList]; exact hacc.1) fun j w hw => ?_
  obtain ⟨t, e⟩ := hacc.2 j w (by rw [← Array.getElem?_toList]; exact hw)
  exact ⟨t, by rw [e, Int.mul_one]⟩
def tLRng (ta : TA) (lo : List V → Option (Int × Int)) : TE := fun σ H Q => ta σ H fun vs H1 => ∃ i j, lo vs = some (i, j) ∧ (-(2 ^ 20) ≤ i ∧ i < 2 ^ 20 ∧ -(2 ^ 20) ≤ j ∧ j < 2 ^ 20) ∧ ∀ p, H1 p = none → Q (.ref p) (upd H1 p (.lst ((List.range (j - i).toNat).map fun k : Nat => V.int (i + k))))
def rg1 : List V → Option (Int × Int)
 | [.int j] => some (0, j)
 | _ => none
theorem pe_list_range1 {a : Expr} {ta : TA} {p pos p' pos' : Pos} (hcalm : X.calm = true) (hg : Gl X "range") (hm : X.mg "range" = none) (hg' : Gl X "list") (hm' : X.mg "list" = none) (ha : PA X [a] ta) (hs : starEach [a] X.env = [(false, eval a X.env)] := by rfl)
  (hs' : starEach [.Call (.Name "range" p) [a] [] pos] X.env = [(false, eval (.Call (.Name "range" p) [a] [] pos) X.env)] := by rfl) :
  PE X (.Call (.Name "list" p') [.Call (.Name "range" p) [a] [] pos] [] pos') (tLRng ta rg1) := by
 intro pins s σ H Q I h
 refine Call_ (ld_blt I hg' hm' boot_list (PyProof.Rows.callWith_type1 ?_ hs' rfl))
 rw [hs']
 show wpAny _ _ (spliced ((false, eval (.Call (.Name "range" p) [a] [] pos) X.env) :: [])) _ _ s
 refine Calls.spliced_cons (Call_ (ld_blt I hg hm boot_range (PyProof.Rows.callWith_type1 (thn (ha pos pins s σ H _ I h) fun us s1 ⟨vs, H1, I1, r1, q1⟩ => ?_) hs rfl)))
 obtain ⟨i, j, e, ⟨q1, q2, q3, q4⟩, q⟩ := q1
 cases r1 with
 | nil => cases e
 | @cons x u xs us r rr =>
  cases rr with
  | cons _ _ => cases x <;> cases e
  | nil =>
   cases x with
   | int k =>
    cases e
    obtain ⟨t, rfl⟩ := r
    exact call_range_1 (Calls.spliced_nil (rng_list hcalm I1 q1 q2 q3 q4 q))
   | _ => cases e
theorem vals_intsAre : ∀ {ns : List Int} {us : List Value}, Vals (ns.map V.int) us → IntsAre us ns
 | [], _, .nil => .nil
 | n :: r, _, .cons h t => by obtain ⟨k, rfl⟩ := h; exact .cons n k (vals_intsAre t)
theorem intsAre_vals : ∀ {us : List Value} {ns : List Int}, IntsAre us ns → Vals (ns.map V.int) us
 | _, _, .nil => .nil
 | _, _, .cons n t h => .cons ⟨t, rfl⟩ (intsAre_vals h)
end
section
variable {X : Cx} {pins : List (Addr × Obj)} {σ : St} {H : Hp} {s : Shared} {d : Addr} {kvs : List (Key × V)}
end
theorem keyIs_rel {k : Key} {u : Value} (h : keyIs k u = true) : RelV (kV k) u := by
 rcases keyIs_shape h with ⟨i, t, rfl, rfl⟩ | ⟨x, t, rfl, rfl⟩
 ·exact ⟨t, rfl⟩
 ·exact ⟨t, rfl⟩
theorem KV.len {κ : Type} {kvs : List (κ × V)} {vs : List (κ × Value)} (r : KV kvs vs) : kvs.length = vs.length := Paired.length r
section
variable {X : Cx} {tg : Expr}
theorem call_sorted_dict (hcalm : X.calm = true) : CallR X (.builtin "sorted") (fun vs H Q => ∃ (d : Addr) (kvs : List (Key × V)) (ns : List Int), vs = [.ref d] ∧ H d = some (.dK kvs) ∧ kvs.map (·.1) = ns.map Sum.inl ∧ ns.length < 64 ∧ ∀ (l : Addr) (ns' : List Int), H l = none → ns'.Perm ns → ns'.Pairwise (· ≤ ·) → Q (.ref l) (upd H l (.lst (ns'.map V.int)))) := by
 intro pins s σ H xs us Q I r h
 obtain ⟨d, kvs, ns, rfl, hq, hk, h64, q⟩ := h
 obtain ⟨u, rfl, ru⟩ := r.one
 cases ru
 obtain ⟨z, y, vs, rr, ob, es, ep, e, c1, c2, c3⟩ := I.hok d _ hq
 have hlen : kvs.length = ns.length := by have := congrArg List.length hk; simpa using this
 have hn : vs.length ≤ sizeLine := by rw [← rr.len]; exact z
 refine Calls.call_function_entry kind_sorted plain_sorted entry_sorted (args_sorted1 _) ?_
 unfold Builtin.«sorted»
 refine wpAny_bind (m := checkCount "sorted" 1 1 _) (wpAny_pure ?_)
 refine wpAny_bind (PySem.W.kdu_collect (PySem.W.kdl_dict (prog := X.prog) (w := X.w) (knd := mixKind X.prog X.w) (d := d) (kvs := vs) (ep := ep) y) (I.ok.hd hcalm) ⟨ob, es, e, c1, c2, c3⟩ hn fun h' tk acc hkp hacc => ?_)
 have I1 : Inv X pins σ H { s with heap := h', toks := tk } := I.kept hkp
 have hl : acc.toList.length = vs.length := by rw [Array.length_toList]; exact hacc.1
 have hv : Vals (ns.map V.int) acc.toList := by
  have key : ∀ (ns : List Int) (kvs : List (Key × V)) (vs : List (Key × Value)) (us : List Value), KV kvs vs → kvs.map (·.1) = ns.map Sum.inl → us.length = vs.length → (∀ (j : Nat) (u : Value), us[j]? = some u → ∃ k x, vs[j]? = some (k, x) ∧ keyIs k u = true) → Vals (ns.map V.int) us := by
   intro ns
   induction ns with
   | nil =>
    intro kvs vs us r e hl _
    have : kvs = [] := by simpa using e
    subst this
    cases r
    have : us = [] := List.eq_nil_of_length_eq_zero hl
    subst this
    exact .nil
   | cons n ns ih =>
    intro kvs vs us r e hl hu
    cases r with
    | nil => cases e
    | @cons a b l1 l2 r0 rr =>
     rw [List.map_cons, List.map_cons] at e
     injection e with e1 e2
     cases us with
     | nil => cases hl
     | cons u ur =>
      obtain ⟨k, x, hx, hki⟩ := hu 0 u rfl
      have hb : b = (k, x) := by simpa using hx
      have ek : k = Sum.inl n := by
       have : a.1 = k := by rw [r0.1, hb]
       rw [← this]; exact e1
      rw [ek] at hki
      refine .cons (keyIs_rel (k := Sum.inl n) hki) (ih l1 l2 ur rr e2 (by simpa using hl) fun j w hw => ?_)
      obtain ⟨k', x', h1, h2⟩ := hu (j + 1) w (by simpa using hw)
      exact ⟨k', x', by simpa using h1, h2⟩
  exact key ns kvs vs acc.toList rr hk hl fun j u hu => hacc.2 j u (by rw [← Array.getElem?_toList]; exact hu)
 refine wpAny_bind (wpAny_newList ?_ (by rw [hl]; exact hn))
 have hoL : (h'.push (seqObj "list" acc.toList.toArray 0)).get? h'.objs.size = some (seqObj "list" acc.toList.toArray 0) := Heap.get?_push_size _ rfl
 have hal : acc.toList.length < 64 := by rw [hl, ← rr.len, hlen]; exact h64
 refine wpAny_bind (wpAny_holding (wpAny_call_entry slot_list_sort ⟨_, hoL, rfl⟩ entry_list_sort (list_sort_tree hoL (vals_intsAre hv) hal fun out ns' a1 a2 a3 => ⟨_, rfl, ?_⟩) (args_list_sort _)))
 obtain ⟨ee, he⟩ := sortedHeap_at (out := out) hoL
 have hsz : (h'.push (seqObj "list" acc.toList.toArray 0)).objs.size = h'.objs.size + 1 := Heap.size_push ..
 refine wpAny_pure ⟨_, rfl, .ref h'.objs.size, _, I1.laid (t' := tk) (fun b o eb => ?_) (Nat.le_refl _) (show ObjOk X.prog X.w _ _ _ (.lst (ns'.map V.int)) from ⟨?_, out.toList, ee, intsAre_vals a1, by simpa using he⟩), rfl, q _ ns' (I1.hok.fresh (Nat.le_refl _)) a2 a3⟩
 ·have hb : b < h'.objs.size := Heap.lt_size eb
  exact (sortedHeap_old (Nat.ne_of_lt hb) (by rw [hsz]; exact Nat.lt_succ_of_lt hb)).trans (Heap.get?_push_of_some _ eb)
 ·rw [List.length_map, a2.length_eq]
  exact Nat.le_trans (Nat.le_of_lt h64) (by decide)
theorem call_allB (hcalm : X.calm = true) : CallR X (.builtin "all") (fun vs H Q => ∃ (p : Addr) (bs : List Bool), vs = [.ref p] ∧ SqL X.K H p (bs.map V.bl) ∧ Q (.bl (bs.all id)) H) := by
 intro pins s σ H xs us Q I r h
 obtain ⟨p, bs, rfl, hq, q⟩ := h
 obtain ⟨u, rfl, ru⟩ := r.one
 cases ru
 obtain ⟨its, rv, pl, hz⟩ := I.list hq
 have hlt : p < s.heap.objs.size := by obtain ⟨o, e, _⟩ := pl.isList; exact Heap.lt_size e
 refine call_all_walk (wpAny_pyIter_list pl.isList ?_)
 have hl := rv.length
 rw [List.length_map] at hl
 refine ⟨s.heap.objs.size, _, _, its.toArray.size, _, _, fun i => bs.getD i false, rfl, Walks.list (A := X.A.in1) (I.ok.hd hcalm) s.heap.objs.size p (Nat.ne_of_lt hlt) its.toArray, ⟨⟨_, Heap.get?_push_size _ rfl, rfl, rfl⟩, pl.isList.at fun o e => Heap.get?_push_of_some _ e⟩, ?_, fun h' tk hk => ?_⟩
 ·intro i v s' Q' E' hP hQ
  have hv : its[i]? = some v := by simpa using hP
  have hi : i < bs.length := by rw [hl]; exact (List.getElem?_eq_some_iff.mp hv).1
  obtain ⟨u, hu, ru⟩ := rv.get (i := i) (x := V.bl bs[i]) (by rw [List.getElem?_map, List.getElem?_eq_getElem hi]; rfl)
  rw [hv] at hu
  cases hu
  have eb : v = Value.bool bs[i] := ru
  subst eb
  have eg : bs.getD i false = bs[i] := by simp [List.getD, hi]
  refine wpAny_truthy_bool ?_
  rw [← eg]; exact hQ
 ·have I1 : Inv X pins σ H { s with heap := h', toks := tk } := I.kept fun b o e => hk b o (by simp; exact Nat.ne_of_lt (Heap.lt_size e)) (Heap.get?_push_of_some _ e)
  have e : (List.range its.toArray.size).all (fun i => bs.getD i false) = bs.all id := by
   have e1 : its.toArray.size = bs.length := by simpa using hl.symm
   rw [e1, Bool.eq_iff_iff, List.all_eq_true, List.all_eq_true]
   constructor
   ·intro h x hx
    obtain ⟨i, hi, rfl⟩ := List.mem_iff_getElem.mp hx
    have := h i (List.mem_range.mpr hi)
    simpa [List.getD, hi] using this
   ·intro h i hi
    have hi' := List.mem_range.mp hi
    have := h bs[i] (List.getElem_mem hi')
    simpa [List.getD, hi'] using this
  rw [e]
  exact ⟨.bl _, H, I1, rfl, q⟩
end
end L2
namespace L2
open PySem PySem.Spec PyProof.Rows
def blkOk (osc : Scope) (N xs : List Str) (sc : Scope) : Bool :=
 (sc.kind == .function) && sc.names.all (fun y => y.2 != .cell) && sc.names.all (fun y => y.2 != .local || (sc.names.lookup y.1 == some .local)) && sc.names.all (fun y => y.2 != .local || (xs.contains y.1 || y.1 == (".0" : Str))) &&
  sc.names.all (fun y => y.2 != .free || (osc.names.lookup y.1 == some .cell || osc.names.lookup y.1 == some .free)) && N.all (fun y => (sc.names.lookup (y ++ ("#" : Str))).isNone) && !N.contains (".0" : Str)
theorem blk_ok {X : Cx} {xs : List Str} {sc : Scope} (osc : Scope) (N : List Str) (hs : X.env.scope = osc) (hN : X.N = N) (h : blkOk osc N xs sc = true) : BlkScope X xs sc := by
 unfold blkOk at h
 simp only [Bool.and_eq_true, List.all_eq_true, Bool.or_eq_true, Bool.not_eq_true', bne_iff_ne, beq_iff_eq, List.contains_iff_mem] at h
 obtain ⟨⟨⟨⟨⟨⟨h1, h2⟩, h3⟩, h4⟩, h5⟩, h6⟩, h7⟩ := h
 refine ⟨h1, h2, fun y hy e => ?_, fun y hy e => ?_, fun y hy e => ?_, fun y hy => ?_, ?_⟩
 ·exact (h3 y hy).resolve_left fun z => z e
 ·exact (h4 y hy).resolve_left fun z => z e
 ·have z := (h5 y hy).resolve_left fun z => z e
  rw [← hs] at z
  exact z
 ·rw [hN] at hy
  exact Option.isNone_iff_eq_none.mp (h6 y hy)
 ·rw [hN]
  intro z
  rw [List.contains_iff_mem.mpr z] at h7
  cases h7
def Gives (t : TE) (σ : St) (H : Hp) (v : V) : Prop := ∀ P : VK, (∀ H2, Same H H2 → P v H2) → t σ H P
def Tells (t : TT) (σ : St) (H : Hp) (b : Bool) : Prop := ∀ P : Bool → Hp → Prop, (∀ H2, Same H H2 → P b H2) → t σ H P
theorem Same.rfl' {H : Hp} : Same H H := fun _ _ h => h
theorem Same.new {H : Hp} {p : Addr} (h : H p = none) (o : HO) : Same H (upd H p o) := fun b u q => by rw [upd_ne (ne_of_none q h)]; exact q
theorem tells_true {σ : St} {H : Hp} : Tells tTrue σ H true := fun _ h => h H Same.rfl'
theorem turns_gen {J : It} {n : Nat} {tc : TT} {te : TE} {D : Addr} {Q : Hp → Prop} {σ : St} {H1 : Hp} (item : Nat → V) (c : Nat → Bool) (v : Nat → V) (hD : H1 D = none) (hn : n ≤ 1000)
  (hgo : ∀ i H', Same H1 H' → i < n → J.go i H') (hyl : ∀ i H' x H2, Same H1 H' → i < n → J.yld i H' x H2 → H2 = H' ∧ x = item i) (hst : ∀ H', Same H1 H' → J.stop n H')
  (ht : ∀ i H', i < n → Same H1 H' → Tells tc (some (item i) :: σ) H' (c i)) (he : ∀ i H', i < n → c i = true → Same H1 H' → Gives te (some (item i) :: σ) H' (v i))
  (hq : ∀ H', Same H1 H' → H' D = some (.lst (((List.range n).filter c).map v)) → Q H') : tTurns J (gName 0) tc te D Q (none :: σ) (upd H1 D (.lst [])) := by
 refine ⟨fun i m σ' H' => ∃ x, σ' = x :: σ ∧ m = n - i ∧ i ≤ n ∧ Same H1 H' ∧ H' D = some (.lst (((List.range i).filter c).map v)), ⟨n, none, rfl, rfl, Nat.zero_le _, Same.new hD _, upd_same⟩, ?_⟩
 rintro i m σ' H' ⟨x, rfl, rfl, hi, g, hl⟩
 by_cases hlt : i < n
 ·refine .inr ⟨hgo i H' g hlt, fun σ2 H2 => ∃ x, σ2 = x :: σ ∧ Same H1 H2 ∧ H2 D = some (.lst (((List.range (i + 1)).filter c).map v)), ?_, fun x' H2 y => ?_⟩
  ·rintro σ2 H2 ⟨x, rfl, g2, l2⟩
   exact ⟨n - (i + 1), by omega, x, rfl, rfl, hlt, g2, l2⟩
  ·obtain ⟨rfl, rfl⟩ := hyl i H' x' H2 g hlt y
   show tc (some (item i) :: σ) H2 _
   refine ht i H2 hlt g _ fun H3 g3 => ?_
   have hr : (List.range (i + 1)).filter c = (List.range i).filter c ++ (if c i = true then [i] else []) := by
    rw [List.range_succ, List.filter_append, List.filter_cons, List.filter_nil]
   refine ite2 (fun hc => ?_) (fun hc => ?_)
   ·refine he i H3 hlt hc (g.trans g3) _ fun H4 g4 => ?_
    have l4 := g4 _ _ (g3 _ _ hl)
    refine ⟨_, l4, ?_, some (item i), rfl, fun b o hb => ?_, ?_⟩
    ·rw [List.length_map]
     have := List.length_filter_le c (List.range i)
     rw [List.length_range] at this
     exact small1000 (by omega)
    ·have hne : b ≠ D := fun e => by rw [e, hD] at hb; cases hb
     rw [upd_ne hne]
     exact g4 _ _ (g3 _ _ (g _ _ hb))
    ·rw [upd_same, hr, if_pos hc, List.map_append]
     rfl
   ·refine ⟨some (item i), rfl, g.trans g3, ?_⟩
    rw [hr, if_neg hc, List.append_nil]
    exact g3 _ _ hl
 ·have e : i = n := by omega
  subst e
  exact .inl ⟨hst H' g, hq H' g hl⟩
theorem turns_range {lo : Int} {n : Nat} {tc : TT} {te : TE} {D : Addr} {Q : Hp → Prop} {σ : St} {H1 : Hp} (c : Nat → Bool) (v : Nat → V) (hD : H1 D = none) (hn : n ≤ 1000)
  (ht : ∀ i H', i < n → Same H1 H' → Tells tc (some (.int (lo + i)) :: σ) H' (c i)) (he : ∀ i H', i < n → c i = true → Same H1 H' → Gives te (some (.int (lo + i)) :: σ) H' (v i))
  (hq : ∀ H', Same H1 H' → H' D = some (.lst (((List.range n).filter c).map v)) → Q H') : tTurns (Itr lo n) (gName 0) tc te D Q (none :: σ) (upd H1 D (.lst [])) :=
 turns_gen (fun i => .int (lo + i)) c v hD hn (fun i _ _ h => h) (fun i H' x H2 _ _ y => y) (fun _ _ => Nat.le_refl _) ht he hq
theorem range_getD_filter {α : Type} (c : α → Bool) (d : α) : ∀ (xs : List α), ((List.range xs.length).filter fun i => c (xs.getD i d)).map (fun i => xs.getD i d) = xs.filter c
 | [] => rfl
 | x :: xs => by
  have ih := range_getD_filter c d xs
  rw [List.length_cons, List.range_succ_eq_map, List.filter_cons]
  have e1 : (x :: xs).getD 0 d = x := rfl
  rw [e1]
  have e2 : (List.map Nat.succ (List.range xs.length)).filter (fun i => c ((x :: xs).getD i d)) = (((List.range xs.length).filter fun i => c (xs.getD i d)).map Nat.succ) := by
   rw [List.filter_map]
   rfl
  by_cases hc : c x = true
  ·rw [if_pos hc, List.filter_cons, if_pos hc, List.map_cons, e2, List.map_map, ← ih]
   rfl
  ·rw [if_neg hc, List.filter_cons, if_neg hc, e2, List.map_map, ← ih]
   rfl
theorem turns_list {K : PySem.W.Frag} {a : Addr} {xs : List V} {tc : TT} {te : TE} {D : Addr} {Q : Hp → Prop} {σ : St} {H1 : Hp} (c : Nat → Bool) (v : Nat → V) (hS : SqL K H1 a xs) (hD : H1 D = none) (hn : xs.length ≤ 1000)
  (ht : ∀ i H', i < xs.length → Same H1 H' → Tells tc (some (xs.getD i .non) :: σ) H' (c i)) (he : ∀ i H', i < xs.length → c i = true → Same H1 H' → Gives te (some (xs.getD i .non) :: σ) H' (v i))
  (hq : ∀ H', Same H1 H' → H' D = some (.lst (((List.range xs.length).filter c).map v)) → Q H') : tTurns (Itl K a) (gName 0) tc te D Q (none :: σ) (upd H1 D (.lst [])) := by
 refine turns_gen (fun i => xs.getD i .non) c v hD hn (fun i H' g h => ⟨xs, xs[i], g.seq hS, List.getElem?_eq_getElem h⟩) (fun i H' x H2 g h y => ⟨y.1, ?_⟩) (fun H' g => ⟨xs, g.seq hS, Nat.le_refl _⟩) ht he hq
 have := y.2 xs (g.seq hS)
 rw [List.getElem?_eq_getElem h] at this
 rw [List.getD_eq_getElem?_getD, List.getElem?_eq_getElem h]
 exact (Option.some.inj this).symm
end L2
namespace L2
open PySem PySem.Spec PyProof.Rows
structure KDict (K : PySem.W.Frag) (w : World) (d : Addr) (kvs : List (Str × Tok × Value)) : Prop where
 lo : (d == sysModules) = false
 nd : (kvs.map (·.1)).Nodup
 at' : ∃ n, K.lookup d = some { cls := .type "dict", data := .dict (kvs.map fun e => ({ hash := PyData.keyHash w.params e.1, key := .str e.1 e.2.1, val := e.2.2 } : DictEntry)).toArray n }
section
variable {X : Cx} {d : Addr} {kvs : List (Str × Tok × Value)} {o i : Expr} {td ty : TE} {pos : Pos}
end
theorem getD_map_int (xs : List Int) {i : Nat} (h : i < xs.length) : (xs.map V.int).getD i .non = .int (xs.getD i 0) := by
 rw [List.getD_eq_getElem?_getD, List.getElem?_map, List.getElem?_eq_getElem h, List.getD_eq_getElem?_getD, List.getElem?_eq_getElem h]
 rfl
end L2
namespace L2
open PySem PySem.Spec PyProof.Rows
section
variable {X : Cx} (K : PySem.W.Frag)
theorem ix_listK (h : X.K = K := by rfl) : IxR X (rIxL K) := h ▸ ix_list
end
end L2
namespace L2
open PySem PySem.Spec PyProof.Rows
section
variable {X : Cx}
end
def Ex (S : Addr → Prop) (H H' : Hp) : Prop := ∀ b o, ¬ S b → H b = some o → H' b = some o
theorem Ex.trans {S : Addr → Prop} {H H1 H2 : Hp} (a : Ex S H H1) (b : Ex S H1 H2) : Ex S H H2 := fun c o n h => b c o n (a c o n h)
theorem Ex.same {S : Addr → Prop} {H H1 : Hp} (a : Same H H1) : Ex S H H1 := fun c o _ h => a c o h
theorem Ex.put {S : Addr → Prop} {H : Hp} {p : Addr} (o : HO) (hp : S p) : Ex S H (upd H p o) := fun c o' n h => by
 have : c ≠ p := fun e => n (e ▸ hp)
 rw [upd_ne this]; exact h
theorem pick_int (xs : List Int) {r : Int} (h0 : 0 ≤ r) (h1 : r < (xs.length : Nat)) : ∃ v, atI (xs.map V.int) r = some (.int v) ∧ v ∈ xs := by
 have hj : r.toNat < xs.length := by omega
 have e : r = ((r.toNat : Nat) : Int) := by omega
 refine ⟨xs[r.toNat], ?_, List.getElem_mem hj⟩
 have q : atI (xs.map V.int) ((r.toNat : Nat) : Int) = some (.int xs[r.toNat]) := atI_nat (by rw [List.getElem?_map, List.getElem?_eq_getElem hj] <;> rfl)
 rw [← e] at q
 exact q
theorem putK_keys {kvs : List (Key × V)} {ks : List Int} {x : Int} {v : V} (h : kvs.map (·.1) = ks.map Sum.inl) : (putK kvs (Sum.inl x) v).map (·.1) = (if x ∈ ks then ks else ks ++ [x]).map Sum.inl := by
 unfold putK
 have key : (kvs.any fun kv => decide (kv.1 = Sum.inl x)) = decide (x ∈ ks) := by
  have e1 : (kvs.any fun kv => decide (kv.1 = Sum.inl x)) = (kvs.map (·.1)).any fun k => decide (k = Sum.inl x) := by rw [List.any_map]; rfl
  rw [e1, h, List.any_map, Bool.eq_iff_iff, List.any_eq_true, decide_eq_true_iff]
  constructor
  ·rintro ⟨y, hy, e⟩
   have e' : (Sum.inl y : Key) = Sum.inl x := of_decide_eq_true e
   cases e'
   exact hy
  ·intro hx
   exact ⟨x, hx, decide_eq_true rfl⟩
 rw [key]
 by_cases hx : x ∈ ks
 ·rw [decide_eq_true hx, if_pos rfl, if_pos hx, ← h, List.map_map]
  refine List.map_congr_left fun kv _ => ?_
  show (if kv.1 = Sum.inl x then (kv.1, v) else kv).1 = kv.1
  split <;> rfl
 ·rw [decide_eq_false hx, if_neg Bool.false_ne_true, if_neg hx, List.map_append, List.map_append, h]
  rfl
inductive CInts : List Expr → List Int → Prop where
 | nil : CInts [] []
 | cons {n : Int} {j : Nat} {p : Pos} {es : List Expr} {ns : List Int} : CInts es ns → CInts (.Constant (.int n) j p :: es) (n :: ns)
inductive CLists : List Expr → List (List Int) → Prop where
 | nil : CLists [] []
 | cons {fs es : List Expr} {ns : List Int} {nss : List (List Int)} {p : Pos} : CInts fs ns → CLists es nss → CLists (.List fs p :: es) (ns :: nss)
section
variable {X : Cx}
end
end L2
namespace L2
open PySem PySem.Spec PyProof.Rows
section
variable {X : Cx} (K : PySem.W.Frag)
end
end L2
namespace L2
open PySem PySem.Spec PyProof.Rows
theorem fltT {α : Type} (l : List α) : l.filter (fun _ => true) = l := List.filter_eq_self.mpr fun _ _ => rfl
theorem rgD {α : Type} (xs : List α) (d : α) : (List.range xs.length).map (fun i => xs.getD i d) = xs := by
 have h := range_getD_filter (fun _ : α => true) d xs
 rw [fltT, fltT] at h
 exact h
section
variable {X : Cx} {pins : List (Addr × Obj)} {σ : St} {H : Hp} {s : Shared}
end
section
variable {X : Cx}
end
structure Base (K : PySem.W.Frag) (C : Addr) (mc : Value) (m : Str) (f : Addr) : Prop where
 ga : PySem.W.specialIn K (.ref C) "__getattribute__" = some (some (.builtin "type.__getattribute__"))
 rd : PySem.W.readsIn K C mc = true
 at_ : PySem.W.findCls K (.ref C) mc m = some (.val (.ref f))
 kp : PySem.W.keepIn K (.ref f) = true
section
variable {X : Cx} {CX : CXT} {k : Nat} {f C : Addr} {mc : Value} {fd : FuncData} {ps : List Str} {sp : Sp} {dvs : List V} {ds : List Value} {E : XK} {x m : Str} {p pos apos : Pos} {e : Expr} {es : List Expr} {t : TA}
end
end L2
namespace L2
open PySem PySem.Spec PyProof.Rows
section
variable {X : Cx}
end
section
variable {X : Cx}
end
end L2
namespace L2
open PySem PySem.Spec PyProof.Rows
end L2
namespace L2
open PySem PySem.Spec PyProof.Rows
section
variable {X : Cx}
end
end L2
namespace L2
open PySem PySem.Spec PyProof.Rows
mutual
inductive Dat (H : Hp) : V → PyData → Prop
 | non : Dat H .non .none
 | bl (b : Bool) : Dat H (.bl b) (.bool b)
 | int (i : Int) : Dat H (.int i) (.int i)
 | str (x : Str) : Dat H (.str x) (.str x)
 | lst {a : Addr} {xs : List V} {ds : List PyData} : H a = some (.lst xs) → DatAll H xs ds → Dat H (.ref a) (.list ds)
 | tup {a : Addr} {xs : List V} {ds : List PyData} : H a = some (.tup xs) → DatAll H xs ds → Dat H (.ref a) (.tuple ds)
 | dct {a : Addr} : H a = some (.dK []) → Dat H (.ref a) (.dict [])
inductive DatAll (H : Hp) : List V → List PyData → Prop
 | nil : DatAll H [] []
 | cons {x : V} {d : PyData} {xs : List V} {ds : List PyData} : Dat H x d → DatAll H xs ds → DatAll H (x :: xs) (d :: ds)
end
mutual
theorem Dat.same {H H' : Hp} (g : Same H H') : ∀ {x : V} {d : PyData}, Dat H x d → Dat H' x d
 | _, _, .non => .non
 | _, _, .bl b => .bl b
 | _, _, .int i => .int i
 | _, _, .str x => .str x
 | _, _, .lst e h => .lst (g _ _ e) (h.same g)
 | _, _, .tup e h => .tup (g _ _ e) (h.same g)
 | _, _, .dct e => .dct (g _ _ e)
theorem DatAll.same {H H' : Hp} (g : Same H H') : ∀ {xs : List V} {ds : List PyData}, DatAll H xs ds → DatAll H' xs ds
 | _, _, .nil => .nil
 | _, _, .cons h t => .cons (h.same g) (t.same g)
end
theorem DatAll.app {H : Hp} : ∀ {xs ys : List V} {ds es : List PyData}, DatAll H xs ds → DatAll H ys es → DatAll H (xs ++ ys) (ds ++ es)
 | _, _, _, _, .nil, h => h
 | _, _, _, _, .cons a t, h => .cons a (t.app h)
theorem DatAll.ints {H : Hp} : ∀ (ns : List Int), DatAll H (ns.map V.int) (ns.map PyData.int)
 | [] => .nil
 | n :: r => .cons (.int n) (DatAll.ints r)
section
variable {X : Cx} {pins : List (Addr × Obj)} {σ : St} {H : Hp} {s : Shared}
mutual
theorem Dat.reads (I : Inv X pins σ H s) : ∀ {x : V} {d : PyData} {u : Value}, Dat H x d → RelV x u → ∃ as, Reads s.heap u d as
 | _, _, _, .non, r => by cases r; exact ⟨_, .none⟩
 | _, _, _, .bl b, r => by cases r; exact ⟨_, .bool b⟩
 | _, _, _, .int i, r => by obtain ⟨t, rfl⟩ := r; exact ⟨_, .int i t⟩
 | _, _, _, .str x, r => by obtain ⟨t, rfl⟩ := r; exact ⟨_, .str x t⟩
 | _, _, _, .lst (a := a) e h, r => by
  cases r
  obtain ⟨_, its, n, rv, _, eo⟩ := I.lstM e
  obtain ⟨as, q⟩ := h.reads I rv
  exact ⟨_, .list eo rfl rfl (by simpa using q)⟩
 | _, _, _, .tup e h, r => by
  cases r
  obtain ⟨_, its, rv, o, h1, h2, n, h3⟩ := I.hok _ _ e
  obtain ⟨as, q⟩ := h.reads I rv
  exact ⟨_, .tuple h1 h2 h3 (by simpa using q)⟩
 | _, _, _, .dct e, r => by
  cases r
  obtain ⟨z, y, vs, rv, ob, es, ep, h1, h2, h3, _, h5, _⟩ := I.hok _ _ e
  cases rv
  have he : es.toList = [] := by
   cases hh : es.toList with
   | nil => rfl
   | cons x r => rw [hh] at h5; cases h5
  exact ⟨_, .dict (kvs := []) (as := []) (bs := []) h1 h2.1 h3 (by rw [he]; exact .nil) (by rw [he]; exact .nil)⟩
theorem DatAll.reads (I : Inv X pins σ H s) : ∀ {xs : List V} {ds : List PyData} {us : List Value}, DatAll H xs ds → Vals xs us → ∃ as, ReadsAll s.heap us ds as
 | _, _, _, .nil, r => by cases r; exact ⟨_, .nil⟩
 | _, _, _, .cons h t, r => by
  cases r with
  | cons r1 r2 =>
   obtain ⟨as, q1⟩ := h.reads I r1
   obtain ⟨bs, q2⟩ := t.reads I r2
   exact ⟨_, .cons q1 q2⟩
end
def AllFit (ds : List PyData) : Prop := ∀ t ∈ PyData.shownAll ds, t.length ≤ sizeLine
mutual
theorem Dat.rk (I : Inv X pins σ H s) : ∀ {x : V} {d : PyData} {u : Value}, Dat H x d → RelV x u → d.showable = true → d.shown.length ≤ sizeLine → ∃ bs, ReadAtMost s.heap d.depth bs ∧ ReprK X.prog X.w bs s.heap d.depth u d.shown
 | _, _, _, .non, r, _, _ => by
  cases r
  rw [PyData.shown_none]
  exact ⟨[], fun _ h => (nomatch h), ReprK.of_is ReprIs.none _ _ _⟩
 | _, _, _, .bl b, r, _, _ => by
  cases r
  rw [PyData.shown_bool]
  exact ⟨[], fun _ h => (nomatch h), ReprK.of_is (ReprIs.bool b) _ _ _⟩
 | _, _, _, .int i, r, hs, _ => by
  obtain ⟨t, rfl⟩ := r
  rw [PyData.shown_int]
  refine ⟨[], fun _ h => (nomatch h), ReprK.of_is (ReprIs.int t ?_) _ _ _⟩
  simpa [PyData.showable] using hs
 | _, _, _, .str x, r, _, hz => by
  obtain ⟨t, rfl⟩ := r
  rw [PyData.shown_str] at hz ⊢
  exact ⟨[], fun _ h => (nomatch h), ReprK.of_is (ReprIs.str x t hz) _ _ _⟩
 | _, _, _, .lst (a := a) (ds := ds) e h, r, hs, hz => by
  cases r
  obtain ⟨_, its, n, rv, _, eo⟩ := I.lstM e
  obtain ⟨as, q⟩ := h.reads I rv
  have rd : Reads s.heap (.ref a) (.list ds) (a :: as) := .list eo rfl rfl (by simpa using q)
  have hz2 : (listText (PyData.shownAll ds)).length ≤ sizeLine := by
   rw [PyData.shown] at hz
   exact hz
  obtain ⟨bs, hb, hk⟩ := h.rk I rv (by simpa [PyData.showable] using hs) fun t ht => Nat.le_trans (listText_mem_le ht) hz2
  have hlt : PyData.depthAll ds < (PyData.list ds).depth := by simp only [PyData.depth]; omega
  refine ⟨a :: bs, ReadAtMost.cons rd (Nat.le_of_lt hlt) hb, ?_⟩
  have hn := not_mem_of_deeper rd hlt hb
  rw [PyData.depth, PyData.shown]
  cases its with
  | nil =>
   cases q
   rw [PyData.shownAll, listText_nil]
   exact ReprK.listEmpty eo rfl rfl
  | cons y l =>
   refine ReprK.list eo rfl rfl hn ?_ fun i z ez => hk.item i z ?_
   ·have := hk.length_eq
    simpa using this
   ·simpa using ez
 | _, _, _, .tup (a := a) (ds := ds) e h, r, hs, hz => by
  cases r
  obtain ⟨_, its, rv, o, h1, h2, n, h3⟩ := I.hok _ _ e
  obtain ⟨as, q⟩ := h.reads I rv
  have rd : Reads s.heap (.ref a) (.tuple ds) as := .tuple h1 h2 h3 (by simpa using q)
  have hz2 : (tupleText (PyData.shownAll ds)).length ≤ sizeLine := by
   rw [PyData.shown] at hz
   exact hz
  obtain ⟨bs, hb, hk⟩ := h.rk I rv (by simpa [PyData.showable] using hs) fun t ht => Nat.le_trans (tupleText_mem_le ht) hz2
  have hlt : PyData.depthAll ds < (PyData.tuple ds).depth := by simp only [PyData.depth]; omega
  refine ⟨a :: bs, ReadAtMost.cons rd (Nat.le_of_lt hlt) hb, ?_⟩
  have hn := not_mem_of_deeper rd hlt hb
  rw [PyData.depth, PyData.shown]
  exact ReprK.tuple h1 h2 h3 hn (by simpa using hk)
 | _, _, _, .dct (a := a) e, r, hs, hz => by
  obtain ⟨as, rd⟩ := (Dat.dct e).reads I r
  cases r
  obtain ⟨z, y, vs, rv, ob, es, ep, h1, h2, h3, _, h5, _⟩ := I.hok _ _ e
  cases rv
  have he : es.toList = [] := by
   cases hh : es.toList with
   | nil => rfl
   | cons x r => rw [hh] at h5; cases h5
  have hlt : 0 < (PyData.dict []).depth := by simp only [PyData.depth]; omega
  refine ⟨[a], ReadAtMost.cons (n := 0) rd (Nat.zero_le _) (fun _ h => (nomatch h)), ?_⟩
  rw [PyData.depth, PyData.shown]
  have hd := ReprK.dict (prog := X.prog) (w := X.w) (as := []) (d := PyData.depthKv []) (ps := []) h1 h2.1 h3 y (fun h => (nomatch h)) (by rw [he]; exact .nil)
  simpa [PyData.shownKv] using hd
theorem DatAll.rk (I : Inv X pins σ H s) : ∀ {xs : List V} {ds : List PyData} {us : List Value}, DatAll H xs ds → Vals xs us → PyData.showableAll ds = true → AllFit ds → ∃ bs, ReadAtMost s.heap (PyData.depthAll ds) bs ∧ ReprAllK X.prog X.w bs s.heap (PyData.depthAll ds) us (PyData.shownAll ds)
 | _, _, _, .nil, r, _, _ => by
  cases r
  rw [PyData.shownAll]
  exact ⟨[], fun _ h => (nomatch h), .nil⟩
 | _, _, _, .cons (d := d) (ds := ds) h t, r, hs, hz => by
  cases r with
  | cons r1 r2 =>
   have hs' : d.showable = true ∧ PyData.showableAll ds = true := by simpa [PyData.showableAll] using hs
   have hz' : ∀ t ∈ d.shown :: PyData.shownAll ds, t.length ≤ sizeLine := by
    have := hz
    unfold AllFit at this
    rw [PyData.shownAll] at this
    exact this
   obtain ⟨b1, m1, k1⟩ := h.rk I r1 hs'.1 (hz' _ List.mem_cons_self)
   obtain ⟨b2, m2, k2⟩ := t.rk I r2 hs'.2 fun t ht => hz' t (List.mem_cons_of_mem _ ht)
   have l1 : d.depth ≤ PyData.depthAll (d :: ds) := by simp only [PyData.depthAll]; omega
   have l2 : PyData.depthAll ds ≤ PyData.depthAll (d :: ds) := by simp only [PyData.depthAll]; omega
   refine ⟨b1 ++ b2, (m1.mono l1).append (m2.mono l2), ?_⟩
   rw [PyData.shownAll]
   exact .cons ((k1.more fun b hb => List.mem_append_left b2 hb).level_le l1) (k2.more_le (fun b hb => List.mem_append_right b1 hb) l2)
end
theorem call_repr (hu : X.A.units + 64 < cLine) (hg : X.A.guards = some []) : CallR X (.builtin "repr") (fun vs H Q => ∃ x d, vs = [x] ∧ Dat H x d ∧ d.showable = true ∧ d.depth ≤ 8 ∧ d.shown.length ≤ sizeLine ∧ Q (.str d.shown) H) := by
 intro pins s σ H xs us Q I r h
 obtain ⟨x, d, rfl, hd, hs, hp, hz, q⟩ := h
 obtain ⟨u, rfl, ru⟩ := r.one
 have fin : ∀ (h' : Heap) (t : Tok) (tk : Nat), (∀ b o, s.heap.get? b = some o → h'.get? b = some o) → EP X pins σ Q (.str d.shown t) { s with heap := h', toks := tk } := fun h' t tk hk => ⟨.str d.shown, H, I.kept hk, ⟨t, rfl⟩, q⟩
 cases hd with
 | non =>
  cases ru
  rw [PyData.shown_none] at fin
  exact PySem.P.repr_of_none (fin s.heap _ _ fun _ _ e => e)
 | bl b =>
  cases ru
  rw [PyData.shown_bool] at fin
  exact PySem.P.repr_of_bool (fin s.heap _ _ fun _ _ e => e)
 | int i =>
  obtain ⟨t, rfl⟩ := ru
  rw [PyData.shown_int] at fin
  exact PySem.P.repr_of_int (by simpa [PyData.showable] using hs) (fin s.heap _ _ fun _ _ e => e)
 | str x =>
  obtain ⟨t, rfl⟩ := ru
  rw [PyData.shown_str] at fin hz
  exact PySem.P.repr_of_str (fin s.heap _ _ fun _ _ e => e) hz
 | lst e h =>
  rename_i a xs ds
  cases ru
  obtain ⟨_, its, n, rv, _, eo⟩ := I.lstM e
  obtain ⟨as, q2⟩ := h.reads I rv
  have rd : Reads s.heap (.ref a) (.list ds) (a :: as) := .list eo rfl rfl (by simpa using q2)
  rw [PyData.shown] at hz fin
  rw [PyData.depth] at hp
  obtain ⟨bs, hb, hk⟩ := h.rk I rv (by simpa [PyData.showable] using hs) fun t ht => Nat.le_trans (listText_mem_le ht) hz
  have hn := not_mem_of_deeper rd (by simp only [PyData.depth]; omega) hb
  refine call_repr_slot (by omega) ⟨_, eo, rfl⟩ F.slot_list_repr.toG ?_
  cases its with
  | nil =>
   cases q2
   rw [PyData.shownAll, listText_nil] at fin
   exact call_list_repr_empty ⟨_, eo, rfl⟩ eo rfl ⟨_, _, rfl, fin s.heap _ _ fun _ _ e => e⟩
  | cons y l =>
   refine call_list_reprK eo rfl rfl hn ?_ (fun i z ez => hk.item i z ?_) hg (fun b _ => Clear.nil b) ?_ (fun _ _ e => e) (fun h' u tk hk' => ⟨_, _, rfl, fin h' u tk hk'⟩) hz
   ·have := hk.length_eq
    simpa using this
   ·simpa using ez
   ·show X.A.units + 1 + (PyData.depthAll ds + 1) < cLine
    omega
 | tup e h =>
  rename_i a xs ds
  cases ru
  obtain ⟨_, its, rv, o, h1, h2, n, h3⟩ := I.hok _ _ e
  obtain ⟨as, q2⟩ := h.reads I rv
  have rd : Reads s.heap (.ref a) (.tuple ds) as := .tuple h1 h2 h3 (by simpa using q2)
  rw [PyData.shown] at hz fin
  rw [PyData.depth] at hp
  obtain ⟨bs, hb, hk⟩ := h.rk I rv (by simpa [PyData.showable] using hs) fun t ht => Nat.le_trans (tupleText_mem_le ht) hz
  have hn := not_mem_of_deeper rd (by simp only [PyData.depth]; omega) hb
  refine call_repr_slot (by omega) ⟨_, h1, h2⟩ F.slot_tuple_repr (call_tuple_reprK h1 h2 h3 hn (by simpa using hk) hg (fun b _ => Clear.nil b) ?_ (fun _ _ e => e) (fun h' u tk hk' => ⟨_, _, rfl, fin h' u tk hk'⟩) hz)
  show X.A.units + 1 + (PyData.depthAll ds + 1) < cLine
  omega
 | dct e =>
  rename_i a
  cases ru
  obtain ⟨z, y, vs, rv, ob, es, ep, h1, h2, h3, _, h5, _⟩ := I.hok _ _ e
  cases rv
  have he : es.toList = [] := by
   cases hh : es.toList with
   | nil => rfl
   | cons x r => rw [hh] at h5; cases h5
  have ht : (PyData.dict []).shown = dictText [] := by simp only [PyData.shown, PyData.shownKv]
  rw [ht] at hz fin
  refine call_repr_slot (by omega) ⟨_, h1, h2.1⟩ F.slot_dict_repr (call_dict_reprK (as := []) (d := 0) (ps := []) h1 h2.1 h3 y (fun h => (nomatch h)) (by rw [he]; exact .nil) hg (fun b _ => Clear.nil b) ?_ (fun _ _ e => e) (fun h' u tk hk' => ⟨_, _, rfl, fin h' u tk hk'⟩) hz)
  show X.A.units + 1 + (0 + 1) < cLine
  omega
end
end L2
namespace L2
open PySem PySem.Spec PyProof.Rows
noncomputable def msk (S : Addr → Prop) (H : Hp) : Hp := fun b => open Classical in if S b then none else H b
theorem msk_in {S : Addr → Prop} {H : Hp} {b : Addr} (h : ¬ S b) : msk S H b = H b := if_neg h
theorem msk_some {S : Addr → Prop} {H : Hp} {b : Addr} {o : HO} (h : msk S H b = some o) : ¬ S b ∧ H b = some o := by
 unfold msk at h
 split at h
 ·cases h
 ·exact ⟨by assumption, h⟩
theorem msk_le {S : Addr → Prop} {H : Hp} : Same (msk S H) H := fun _ _ h => (msk_some h).2
theorem msk_same {S : Addr → Prop} {H H' : Hp} (g : Same H H') : Same (msk S H) (msk S H') := fun b o h => by
 obtain ⟨n, e⟩ := msk_some h
 rw [msk_in n]
 exact g b o e
structure Fine (n k : Nat) (d : PyData) : Prop where
 show_ : d.showable = true
 leaf : d.leavesShort 40 = true
 bulk : d.bulk ≤ n
 deep : d.depth ≤ k
def Th (H : Hp) (v : V) (n k : Nat) : Prop := ∃ d, Dat H v d ∧ Fine n k d
theorem Th.same {H H' : Hp} {v : V} {n k : Nat} (h : Th H v n k) (g : Same H H') : Th H' v n k := by
 obtain ⟨d, a, b⟩ := h
 exact ⟨d, a.same g, b⟩
theorem Th.mono {H : Hp} {v : V} {n k n' k' : Nat} (h : Th H v n k) (hn : n ≤ n') (hk : k ≤ k') : Th H v n' k' := by
 obtain ⟨d, a, b⟩ := h
 exact ⟨d, a, b.show_, b.leaf, Nat.le_trans b.bulk hn, Nat.le_trans b.deep hk⟩
theorem Fine.len {n k : Nat} {d : PyData} (h : Fine n k d) (hn : n ≤ 10000) : d.shown.length ≤ sizeLine := by
 have q := PyData.shown_le_bulk 40 (by decide) d h.leaf
 have b := h.bulk
 have e : sizeLine = 2 ^ 24 := rfl
 rw [e]
 omega
theorem Th.non {H : Hp} {n k : Nat} : Th H .non n k := ⟨_, .non, rfl, rfl, Nat.zero_le _, Nat.zero_le _⟩
theorem Th.bl {H : Hp} {n k : Nat} (b : Bool) : Th H (.bl b) n k := ⟨_, .bl b, rfl, rfl, Nat.zero_le _, Nat.zero_le _⟩
theorem Th.int {H : Hp} {n k : Nat} {i : Int} (h : i.natAbs < 10 ^ 30) : Th H (.int i) n k := by
 refine ⟨_, .int i, ?_, ?_, Nat.zero_le _, Nat.zero_le _⟩
 ·rw [PyData.showable]
  refine decide_eq_true ?_
  by_cases z : i.natAbs = 0
  ·rw [z]; decide
  ·exact (Nat.log2_lt z).mpr (Nat.lt_trans h (Nat.lt_of_lt_of_le (show 10 ^ 30 < 2 ^ 100 by decide) (Nat.pow_le_pow_right (by decide) (by decide))))
 ·have q := int_text_length_le10 (k := 30) (by decide) h
  simp only [PyData.leavesShort, PyData.shown_int, decide_eq_true_eq]
  rw [PySem.ofString_length]
  omega
theorem Th.str {H : Hp} {n k : Nat} {x : Str} (h1 : x.cps.toList.all (fun c => decide (c < 16 ^ 8)) = true) (h2 : x.cps.size ≤ n) : Th H (.str x) n k := ⟨_, .str x, rfl, by rw [PyData.leavesShort]; exact h1, h2, Nat.zero_le _⟩
theorem things {H : Hp} {n k : Nat} : ∀ {xs : List V}, (∀ x ∈ xs, Th H x n k) → ∃ ds, DatAll H xs ds ∧ PyData.showableAll ds = true ∧ PyData.leavesShortAll 40 ds = true ∧ PyData.bulkAll ds ≤ xs.length * (n + 1) ∧ PyData.depthAll ds ≤ k
 | [], _ => ⟨[], .nil, rfl, rfl, Nat.zero_le _, Nat.zero_le _⟩
 | x :: r, h => by
  obtain ⟨d, q, f⟩ := h x List.mem_cons_self
  obtain ⟨ds, q2, a, b, c, e⟩ := things fun y hy => h y (List.mem_cons_of_mem _ hy)
  refine ⟨d :: ds, .cons q q2, ?_, ?_, ?_, ?_⟩
  ·rw [PyData.showableAll, f.show_, a]; rfl
  ·rw [PyData.leavesShortAll, f.leaf, b]; rfl
  ·have := f.bulk
   rw [PyData.bulkAll, List.length_cons, Nat.succ_mul]
   omega
  ·have := f.deep
   rw [PyData.depthAll]
   omega
theorem Th.lst {H : Hp} {a : Addr} {xs : List V} {n k : Nat} (e : H a = some (.lst xs)) (h : ∀ x ∈ xs, Th H x n k) : Th H (.ref a) (xs.length * (n + 1)) (k + 1) := by
 obtain ⟨ds, q, a1, a2, a3, a4⟩ := things h
 refine ⟨_, .lst e q, ?_, ?_, ?_, ?_⟩
 ·rw [PyData.showable]; exact a1
 ·rw [PyData.leavesShort]; exact a2
 ·rw [PyData.bulk]; exact a3
 ·rw [PyData.depth]; omega
theorem Th.tup {H : Hp} {a : Addr} {xs : List V} {n k : Nat} (e : H a = some (.tup xs)) (h : ∀ x ∈ xs, Th H x n k) : Th H (.ref a) (xs.length * (n + 1)) (k + 1) := by
 obtain ⟨ds, q, a1, a2, a3, a4⟩ := things h
 refine ⟨_, .tup e q, ?_, ?_, ?_, ?_⟩
 ·rw [PyData.showable]; exact a1
 ·rw [PyData.leavesShort]; exact a2
 ·rw [PyData.bulk]; exact a3
 ·rw [PyData.depth]; omega
theorem pick_any {xs : List V} {r : Int} (h0 : 0 ≤ r) (h1 : r < (xs.length : Nat)) : ∃ v, atI xs r = some v ∧ v ∈ xs := by
 have hj : r.toNat < xs.length := by omega
 have e : r = ((r.toNat : Nat) : Int) := by omega
 refine ⟨xs[r.toNat], ?_, List.getElem_mem hj⟩
 have q : atI xs ((r.toNat : Nat) : Int) = some xs[r.toNat] := atI_nat (List.getElem?_eq_getElem hj)
 rw [← e] at q
 exact q
def tyD : PyData → String
 | .none => "NoneType" | .bool _ => "bool" | .int _ => "int" | .str _ => "str" | .list _ => "list" | .tuple _ => "tuple" | .dict _ => "dict"
theorem Dat.ty {K : PySem.W.Frag} {H : Hp} {v : V} {d : PyData} (h : Dat H v d) : TyOf K H v (.type (tyD d)) := by
 cases h with
 | non => exact .non
 | bl b => exact .bl b
 | int i => exact .int i
 | str x => exact .str x
 | lst e _ => exact .lst e
 | tup e _ => exact .tup e
 | dct e => exact .dK e
def isL : PyData → Bool
 | .list _ => true
 | _ => false
def isT : PyData → Bool
 | .tuple _ => true
 | _ => false
def isI : PyData → Bool
 | .int _ => true
 | .bool _ => true
 | _ => false
def isB : PyData → Bool
 | .bool _ => true
 | _ => false
def isW : PyData → Bool
 | .int _ => true
 | _ => false
theorem kit_l (K : PySem.W.Frag) (d : PyData) : PySem.W.kitOne K (.type (tyD d)) (.type "list") = some (isL d) := by cases d <;> rfl
theorem kit_t (K : PySem.W.Frag) (d : PyData) : PySem.W.kitOne K (.type (tyD d)) (.type "tuple") = some (isT d) := by cases d <;> rfl
theorem kit_i (K : PySem.W.Frag) (d : PyData) : PySem.W.kitOne K (.type (tyD d)) (.type "int") = some (isI d) := by cases d <;> rfl
theorem kit_b (K : PySem.W.Frag) (d : PyData) : PySem.W.kitOne K (.type (tyD d)) (.type "bool") = some (isB d) := by cases d <;> rfl
def riseGo : Int → List PyData → Bool
 | _, [] => true
 | b, .int n :: r => decide (b < n) && riseGo n r
 | _, _ :: _ => false
def riseD (few : Int) : PyData → Bool
 | .list ds => decide (few ≤ (ds.length : Int)) && (decide (ds.length ≤ 10) && riseGo (-1) ds)
 | _ => false
def planD : PyData → Bool
 | .tuple [x, y] => riseD 1 x && riseD 0 y
 | _ => false
theorem DatAll.len {H : Hp} : ∀ {xs : List V} {ds : List PyData}, DatAll H xs ds → xs.length = ds.length
 | _, _, .nil => rfl
 | _, _, .cons _ h => by rw [List.length_cons, List.length_cons, h.len]
theorem DatAll.at {H : Hp} : ∀ {xs : List V} {ds : List PyData} (_ : DatAll H xs ds) {i : Nat} {x : V}, xs[i]? = some x → ∃ d, ds[i]? = some d ∧ Dat H x d
 | _, _, .nil, i, x, h => nomatch h
 | _, _, .cons q _, 0, x, h => by cases h; exact ⟨_, rfl, q⟩
 | _, _, .cons _ t, i + 1, x, h => by
  obtain ⟨d, e, q⟩ := t.at (i := i) (x := x) h
  exact ⟨d, e, q⟩
section
variable {X : Cx}
end
end L2
namespace L2
open PySem PySem.Spec PyProof.Rows
end L2
namespace L2
open PySem PySem.Spec PyProof.Rows
section
variable {prog : Program} {w : World} {A : Around} {E : Value → Shared → Prop} {s : Shared}
end
end L2
namespace L2
open PySem PySem.Spec PyProof.Rows
section
variable {X : Cx}
end
end L2
namespace HT
open PySem PyProof.Rows
section
variable {prog : Program} {w : World} {A : Around} {R : Result → Shared → Prop} {I S : Addr} {fp wr : List Addr} {n : Nat} {P : Nat → Value → Prop} {St : Nat → Heap → Prop}
end
end HT
namespace L2
open PySem PySem.Spec PyProof.Rows
section
variable {X : Cx}
end
end L2
namespace HT
open PySem PyProof.Rows PySem.SeqAt PySem.MeetsSeq PySem.MeetsSeq2 PySem.MeetsSeq3
inductive OrdK
 | lt
 | le
 | gt
end HT
namespace L2
open PySem PySem.Spec PyProof.Rows
section
variable {X : Cx}
end
end L2
namespace HT
open PySem PyProof.Rows
section
variable {prog : Program} {w : World} {A : Around} {E : Value → Shared → Prop} {s : Shared}
end
section
variable {prog : Program} {w : World} {A : Around} {R : Result → Shared → Prop} {I S : Addr} {fp wr : List Addr} {n : Nat} {P : Nat → Value → Prop} {St : Nat → Heap → Prop}
end
end HT
namespace L2
open PySem PySem.Spec PyProof.Rows
section
variable {X : Cx}
end
end L2
namespace HT
open PySem PyProof.Rows
def UpP (xs : Array Nat) : Prop := xs.toList.Pairwise (· < ·)
theorem UpP.at {xs : Array Nat} (u : UpP xs) {i k : Nat} (h : i < k) (hk : k < xs.size) : xs.getD i 0 < xs.getD k 0 := by
 have := List.pairwise_iff_getElem.mp u i k (by rw [Array.length_toList]; omega) (by rw [Array.length_toList]; exact hk) h
 rw [Array.getElem_toList, Array.getElem_toList] at this
 rw [Array.getD_eq_getD_getElem?, Array.getD_eq_getD_getElem?, Array.getElem?_eq_getElem (by omega), Array.getElem?_eq_getElem hk]
 exact this
structure BelowAt (xs : Array Nat) (j b : Nat) : Prop where
 le : b ≤ xs.size
 lo : ∀ i < b, xs.getD i 0 < j
 hi : ∀ i, b ≤ i → i < xs.size → j ≤ xs.getD i 0
theorem below_go {xs : Array Nat} (u : UpP xs) (j : Nat) : ∀ (fuel lo hi : Nat), lo ≤ hi → hi ≤ xs.size → hi - lo ≤ fuel → (∀ i < lo, xs.getD i 0 < j) → (∀ i, hi ≤ i → i < xs.size → j ≤ xs.getD i 0) → BelowAt xs j (SetTable.below.go xs j fuel lo hi)
 | 0, lo, hi, h1, h2, h3, h4, h5 => ⟨by show lo ≤ _; omega, h4, fun i a b => h5 i (by have a' : lo ≤ i := a; omega) b⟩
 | fuel + 1, lo, hi, h1, h2, h3, h4, h5 => by
  unfold SetTable.below.go
  by_cases hlt : lo < hi
  ·rw [if_pos hlt]
   have hm : (lo + hi) / 2 < xs.size := by omega
   have em : xs.getD ((lo + hi) / 2) j = xs.getD ((lo + hi) / 2) 0 := by rw [Array.getD_eq_getD_getElem?, Array.getD_eq_getD_getElem?, Array.getElem?_eq_getElem hm]; rfl
   show BelowAt xs j (if xs.getD ((lo + hi) / 2) j < j then SetTable.below.go xs j fuel ((lo + hi) / 2 + 1) hi else SetTable.below.go xs j fuel lo ((lo + hi) / 2))
   rw [em]
   by_cases hc : xs.getD ((lo + hi) / 2) 0 < j
   ·rw [if_pos hc]
    refine below_go u j fuel _ hi (by omega) h2 (by omega) (fun i hi' => ?_) h5
    by_cases e : i = (lo + hi) / 2
    ·rw [e]; exact hc
    ·exact Nat.lt_trans (u.at (show i < (lo + hi) / 2 by omega) hm) hc
   ·rw [if_neg hc]
    refine below_go u j fuel lo _ (by omega) (by omega) (by omega) h4 fun i a b => ?_
    by_cases e : i = (lo + hi) / 2
    ·rw [e]; omega
    ·have := u.at (show (lo + hi) / 2 < i by omega) b
     omega
  ·rw [if_neg hlt]
   exact ⟨by omega, h4, fun i a b => h5 i (by omega) b⟩
theorem below_is {xs : Array Nat} (u : UpP xs) (j : Nat) : BelowAt xs j (SetTable.below xs j) := below_go u j _ 0 xs.size (Nat.zero_le _) (Nat.le_refl _) (by omega) (fun i h => absurd h (Nat.not_lt_zero _)) (fun i h1 h2 => by omega)
theorem has_nil (j : Nat) : SetTable.has #[] j = false := by
 unfold SetTable.has
 rw [show (#[] : Array Nat)[SetTable.below #[] j]? = none by simp]
 rfl
theorem slot_empty {t : SetTable} (u : UpP t.place) {j : Nat} (h : t.slot j = .empty) : ∀ x ∈ t.place.toList, x ≠ j := by
 intro x hx e
 subst e
 obtain ⟨i, hi, ei⟩ := List.mem_iff_getElem.mp hx
 rw [Array.length_toList] at hi
 rw [Array.getElem_toList] at ei
 have gi : t.place.getD i 0 = x := by rw [Array.getD_eq_getD_getElem?, Array.getElem?_eq_getElem hi, ei]; rfl
 have B := below_is u x
 have hbi : SetTable.below t.place x ≤ i := Nat.le_of_not_lt fun z => by have := B.lo i z; omega
 have hb : SetTable.below t.place x < t.place.size := by omega
 have eb : SetTable.below t.place x = i := by
  rcases Nat.lt_or_ge (SetTable.below t.place x) i with z | z
  ·have h1 := B.hi _ (Nat.le_refl _) hb
   have h2 := u.at z hi
   omega
  ·omega
 have e1 : (t.place[SetTable.below t.place x]? == some x) = true := by rw [eb, Array.getElem?_eq_getElem hi, ei]; exact beq_self_eq_true _
 unfold SetTable.slot at h
 dsimp only at h
 rw [if_pos e1] at h
 cases h
theorem slot_nodummy {t : SetTable} (d : t.dummies = #[]) (j : Nat) : t.slot j ≠ .dummy := by
 unfold SetTable.slot
 dsimp only
 rw [d, has_nil]
 split
 ·exact fun z => nomatch z
 ·exact fun z => nomatch z
theorem probe_empty {t : SetTable} (d : t.dummies = #[]) (hashAt : Nat → Int) (h : Int) : ∀ (fuel : Nat) (p : SetTable.Probe) (j : Nat) (dm : Option Nat), SetTable.probe.go t hashAt h fuel p = some (.empty j dm) → t.slot j = .empty ∧ dm = p.dummy
 | 0, _, _, _, e => by cases e
 | fuel + 1, p, j, dm, e => by
  unfold SetTable.probe.go at e
  cases hs : t.slot p.j with
  | empty =>
   rw [hs] at e
   cases e
   exact ⟨hs, rfl⟩
  | dummy => exact absurd hs (slot_nodummy d _)
  | live i =>
   rw [hs] at e
   dsimp only at e
   have adv : (t.advance p).dummy = p.dummy := by
    unfold SetTable.advance
    split <;> rfl
   split at e
   ·cases e
   ·have ih := probe_empty d hashAt h fuel (t.advance p) j dm e
    rw [adv] at ih
    exact ih
theorem free_empty {t : SetTable} (d : t.dummies = #[]) {h : Int} {j : Nat} {wd : Bool} (e : t.freeSlot h = some (j, wd)) : t.slot j = .empty := by
 unfold SetTable.freeSlot at e
 split at e
 ·rename_i j' dm hp
  obtain ⟨h1, h2⟩ := probe_empty d _ _ _ _ _ _ hp
  have h3 : dm = none := h2
  rw [h3] at e
  cases e
  exact h1
 ·cases e
structure TabOk (t : SetTable) (led : Bool) : Prop where
 up : UpP t.place
 dum : t.dummies = #[]
 led : t.led = led
theorem up_range (n : Nat) : UpP (Array.range n) := by
 unfold UpP
 rw [Array.toList_range]
 exact List.pairwise_lt_range
theorem TabOk.standIn {t : SetTable} {led : Bool} (T : TabOk t led) (n : Nat) : TabOk (t.standIn n) led := ⟨up_range n, rfl, T.led⟩
theorem TabOk.layNew {t : SetTable} {led : Bool} (T : TabOk t led) (es : Array (Int × Value)) (h : Int) (x : Value) : TabOk (layNew t es h x).2.1 led := by
 unfold PySem.layNew
 split
 ·rename_i slot wd hf
  have hE := free_empty T.dum hf
  have T' : TabOk (t.put slot).1 led := by
   refine ⟨?_, ?_, T.led⟩
   ·have B := below_is T.up slot
    have ne := slot_empty T.up hE
    show UpP (SetTable.insertAt t.place (SetTable.below t.place slot) slot)
    unfold UpP
    rw [SetTable.toList_insertAt]
    have lt : ∀ a ∈ t.place.toList.take (SetTable.below t.place slot), a < slot := fun a ha => by
     obtain ⟨i, hi, ei⟩ := List.mem_iff_getElem.mp ha
     rw [List.length_take, Array.length_toList] at hi
     rw [List.getElem_take, Array.getElem_toList] at ei
     have := B.lo i (by omega)
     rw [Array.getD_eq_getD_getElem?, Array.getElem?_eq_getElem (by omega), ei] at this
     exact this
    have gt : ∀ a ∈ t.place.toList.drop (SetTable.below t.place slot), slot < a := fun a ha => by
     obtain ⟨i, hi, ei⟩ := List.mem_iff_getElem.mp ha
     rw [List.length_drop, Array.length_toList] at hi
     rw [List.getElem_drop, Array.getElem_toList] at ei
     have := B.hi (SetTable.below t.place slot + i) (by omega) (by omega)
     rw [Array.getD_eq_getD_getElem?, Array.getElem?_eq_getElem (by omega), ei] at this
     have this' : slot ≤ a := this
     have := ne a (List.mem_of_mem_drop ha)
     omega
    refine List.pairwise_append.mpr ⟨T.up.sublist (List.take_sublist _ _), List.pairwise_cons.mpr ⟨gt, T.up.sublist (List.drop_sublist _ _)⟩, fun a ha b hb => ?_⟩
    rcases List.mem_cons.mp hb with z | z
    ·rw [z]; exact lt a ha
    ·exact Nat.lt_trans (lt a ha) (gt b z)
   ·show (if SetTable.has t.dummies slot then SetTable.eraseAt t.dummies (SetTable.below t.dummies slot) else t.dummies) = #[]
    rw [T.dum, has_nil]
    rfl
  show TabOk ((t.put slot).1.orStandIn _) led
  unfold SetTable.orStandIn
  split
  ·exact T'
  ·exact T'.standIn _
 ·exact T.standIn _
theorem TabOk.laid {mask finger moves : Nat} {led plain : Bool} {hs : Array Int} {t : SetTable} {order : Array Nat} (e : SetTable.laid mask finger moves led plain hs = some (t, order)) : TabOk t led := by
 unfold SetTable.laid at e
 cases hl : SetTable.layClean mask hs with
 | none => rw [hl] at e; cases e
 | some owner =>
  rw [hl] at e
  have e' := Option.some.inj e
  have e1 : _ = t := congrArg Prod.fst e'
  rw [← e1]
  refine ⟨?_, rfl, rfl⟩
  show ((((List.range (mask + 1)).filterMap fun j => (owner.getD j none).map (j, ·)).map (·.1)).toArray).toList.Pairwise (· < ·)
  have key : ∀ (l : List Nat), l.Pairwise (· < ·) → ((l.filterMap fun j => (owner.getD j none).map (j, ·)).map (·.1)).Pairwise (· < ·) ∧ ∀ a ∈ (l.filterMap fun j => (owner.getD j none).map (j, ·)).map (·.1), a ∈ l := by
   intro l
   induction l with
   | nil => intro _; exact ⟨List.Pairwise.nil, (fun _ h => nomatch h)⟩
   | cons a r ih =>
    intro hp
    obtain ⟨i1, i2⟩ := ih hp.of_cons
    rw [List.filterMap_cons]
    cases owner.getD a none with
    | none => exact ⟨i1, fun x hx => List.mem_cons_of_mem _ (i2 x hx)⟩
    | some k =>
     refine ⟨List.pairwise_cons.mpr ⟨fun x hx => List.rel_of_pairwise_cons hp (i2 x hx), i1⟩, fun x hx => ?_⟩
     rcases List.mem_cons.mp hx with z | z
     ·rw [z]; exact List.mem_cons_self
     ·exact List.mem_cons_of_mem _ (i2 x z)
  exact (key _ List.pairwise_lt_range).1
theorem TabOk.relayAll {t : SetTable} {led : Bool} (T : TabOk t led) (es : Array (Int × Value)) (n : Nat) : TabOk (relayAll t es n).2.1 led := by
 unfold PySem.relayAll
 split
 ·rename_i t' order hr
  have T' : TabOk t' t.led := TabOk.laid hr
  rw [T.led] at T'
  dsimp only
  split
  ·exact T'
  ·exact T.standIn _
 ·exact T.standIn _
end HT
namespace HT
open PySem PyProof.Rows
def GoodE (e : Int × Value) : Prop := ∃ k t, e = (hashInt k, .int k t)
def keyE (e : Int × Value) : Int := match e.2 with
 | .int k _ => k
 | _ => 0
section
variable {prog : Program} {w : World}
def SetI (h : Heap) (a : Addr) (ks : List Int) (led : Bool) : Prop := ∃ o es ep t, h.get? a = some o ∧ o.ExactSet ∧ o.data = .set es ep t ∧ (∀ e ∈ es.toList, GoodE e) ∧ es.toList.map keyE = ks ∧ ks.Nodup ∧ es.size < scanBound ∧ t.fits es.size = true ∧ TabOk t led
theorem good_elems {es : List (Int × Value)} (h : ∀ e ∈ es, GoodE e) : ElemsOf (intKind prog w) es := fun e he => by
 obtain ⟨k, t, rfl⟩ := h e he
 exact ⟨⟨k, intKind_is _ _ _ _, rfl⟩, rfl⟩
theorem good_is {e : Int × Value} (h : GoodE e) (k : Int) : (intKind prog w).is k e.2 = decide (keyE e = k) := by
 obtain ⟨k', t, rfl⟩ := h
 show Value.isInt k (.int k' t) = decide (k' = k)
 unfold Value.isInt
 rw [Bool.eq_iff_iff, decide_eq_true_iff]
 first | (rw [beq_iff_eq]) | simp
variable {A : Around} {E : Value → Shared → Prop} {s : Shared} {a : Addr} {ks : List Int} {led : Bool}
theorem SetI.store {h : Heap} {o : Obj} {es es' : Array (Int × Value)} {ep : Nat} {t t' : SetTable} (ho : h.get? a = some o) (hx : o.ExactSet) (hd : o.data = .set es ep t) (g : ∀ e ∈ es'.toList, GoodE e) (nd : (es'.toList.map keyE).Nodup) (hb : es'.size < scanBound) (hf : t'.fits es'.size = true) (T : TabOk t' led) :
  (h.update a (Obj.putSet es' t')).get? a = some { o with data := .set es' (ep + 1) t' } ∧ SetI (h.update a (Obj.putSet es' t')) a (es'.toList.map keyE) led := by
 have e := Heap.get?_update_self (Obj.putSet es' t') ho (by rw [putSet_of es' t' hd]; rfl)
 rw [putSet_of es' t' hd] at e
 exact ⟨e, _, es', ep + 1, t', e, hx, rfl, g, rfl, nd, hb, hf, T⟩
theorem setAdd_I {k : Int} {tk : Tok} {Q : Bool → Shared → Prop} (S : SetI s.heap a ks led) (room : ks.length + 1 < scanBound)
  (q : ∀ b h' ks', Heap.SameBut a s.heap h' → SetI h' a ks' led → (k ∈ ks → ks'.Perm ks) → (k ∉ ks → ks'.Perm (ks ++ [k])) → Q b { s with heap := h' }) : wpAny (model prog w) A (setAddHashed a (.int k tk) (hashInt k)) Q E s := by
 obtain ⟨o, es, ep, t, ho, hx, hd, hg, hk, nd, hb, hf, T⟩ := S
 have hel : ElemsOf (intKind prog w) es.toList := good_elems hg
 have sc : (Value.int k tk).scannable = true := rfl
 have isk : (intKind prog w).is k (.int k tk) = true := intKind_is _ _ _ _
 have len : ks.length = es.size := by rw [← hk, List.length_map, Array.length_toList]
 have idx : (k ∈ ks ↔ ∃ e ∈ es.toList, (intKind prog w).is k e.2 = true) := by
  rw [← hk, List.mem_map]
  exact ⟨fun ⟨e, h1, h2⟩ => ⟨e, h1, by rw [good_is (hg e h1)]; exact decide_eq_true h2⟩, fun ⟨e, h1, h2⟩ => ⟨e, h1, by rw [good_is (hg e h1)] at h2; exact of_decide_eq_true h2⟩⟩
 unfold setAddHashed setAddHashedIn
 refine wpAny_holding (wpAny_bind (wpAny_setState_of ho hd hf ?_))
 dsimp only
 rw [byScan_of sc hb hel, if_pos rfl]
 unfold setAddByScan
 refine wpAny_bind (wpAny_bind (wpAny_rule (wpAny_bind (wpAny_setScan_of isk ho hd hf hel ?_))))
 cases hr : List.findIdx? (fun e => (intKind prog w).is k e.2) es.toList with
 | some j =>
  obtain ⟨hj, hpj, _⟩ := List.findIdx?_eq_some_iff_getElem.mp hr
  have hm : k ∈ ks := idx.mpr ⟨_, List.getElem_mem hj, hpj⟩
  dsimp only
  exact wpAny_pure (wpAny_pure (q false s.heap ks (Heap.SameBut.refl a s.heap) ⟨o, es, ep, t, ho, hx, hd, hg, hk, nd, hb, hf, T⟩ (fun _ => List.Perm.refl _) (fun z => absurd hm z)))
 | none =>
  have hn : k ∉ ks := fun z => by
   obtain ⟨e, h1, h2⟩ := idx.mp z
   have := List.findIdx?_eq_none_iff.mp hr e h1
   rw [h2] at this
   cases this
  dsimp only
  have gw : ∀ (b : Bool) {s1 : Shared} {Q' : Unit → Shared → Prop}, Q' () s1 → wpAny (model prog w) A (match b with | true => rule "set.scan.the-table-gave-way" | false => pure ()) Q' E s1 := fun b s1 Q' z => by
   cases b
   ·exact wpAny_pure z
   ·exact wpAny_rule z
  have p1 := layNew_perm t es (hashInt k) (.int k tk)
  have f1 := layNew_fits t es (hashInt k) (.int k tk)
  have T1 := T.layNew es (hashInt k) (.int k tk)
  generalize layNew t es (hashInt k) (.int k tk) = L at p1 f1 T1 ⊢
  obtain ⟨es1, t1, wd, gv⟩ := L
  dsimp only at p1 f1 T1 ⊢
  rw [Array.toList_push] at p1
  have g1 : ∀ e ∈ es1.toList, GoodE e := fun e he => by
   rcases List.mem_append.mp (p1.mem_iff.mp he) with z | z
   ·exact hg e z
   ·rw [List.mem_singleton.mp z]; exact ⟨k, tk, rfl⟩
  have pk : (es1.toList.map keyE).Perm (ks ++ [k]) := by
   have := p1.map keyE
   rw [List.map_append, hk] at this
   exact this
  have nd1 : (es1.toList.map keyE).Nodup := pk.nodup_iff.mpr (List.nodup_append.mpr ⟨nd, List.nodup_cons.mpr ⟨(fun h => nomatch h), List.nodup_nil⟩, fun x hx' y hy e => hn (by rw [← List.mem_singleton.mp hy, ← e]; exact hx')⟩)
  have b1 : es1.size < scanBound := by
   rw [← Array.length_toList, p1.length_eq, List.length_append, Array.length_toList]
   show es.size + 1 < _
   omega
  have fin : ∀ (g : Bool → Sem Unit) (_ : ∀ (b : Bool) (s1 : Shared) (Q' : Unit → Shared → Prop), Q' () s1 → wpAny (model prog w) A (g b) Q' E s1) (t2 : SetTable), t2.fits es1.size = true → TabOk t2 led → wpAny (model prog w) A (do
    storeSet a es1 t2
    if (!wd && t2.tooFull) = true then do
      g (relayAll t2 es1 (SetTable.grown es1.size)).2.2
      storeSet a (relayAll t2 es1 (SetTable.grown es1.size)).1 (relayAll t2 es1 (SetTable.grown es1.size)).2.1
      pure (some true)
     else pure (some true)) (fun r s' => wpAny (model prog w) A (match r with | some added => pure added | none => setAddHashedIn a (.int k tk) (hashInt k) 99999) Q E s') E s := by
   intro g hg2 t2 f2 T2
   refine wpAny_bind (wpAny_storeSet_of ho hd ?_ (fits_of_scanBound b1))
   obtain ⟨e1, S1⟩ := SetI.store (led := led) ho hx hd g1 nd1 b1 f2 T2
   have sb := Heap.SameBut.update s.heap a (Obj.putSet es1 t2)
   by_cases hc : (!wd && t2.tooFull) = true
   ·rw [if_pos hc]
    have p2 := relayAll_perm t2 es1 (SetTable.grown es1.size)
    have f3 := relayAll_fits t2 es1 (SetTable.grown es1.size)
    have T3 := T2.relayAll es1 (SetTable.grown es1.size)
    generalize relayAll t2 es1 (SetTable.grown es1.size) = L at p2 f3 T3 ⊢
    obtain ⟨es2, t3, gv2⟩ := L
    dsimp only at p2 f3 T3 ⊢
    have sz : es2.size = es1.size := by rw [← Array.length_toList, p2.length_eq, Array.length_toList]
    have pk2 := (p2.map keyE).trans pk
    refine wpAny_bind (hg2 _ _ _ (wpAny_bind (wpAny_storeSet_of e1 rfl ?_ (fits_of_scanBound (by rw [sz]; exact b1)))))
    obtain ⟨_, S2⟩ := SetI.store (led := led) (es' := es2) (t' := t3) e1 hx rfl (fun e he => g1 e (p2.mem_iff.mp he)) ((p2.map keyE).nodup_iff.mpr nd1) (by rw [sz]; exact b1) f3 T3
    exact wpAny_pure (wpAny_pure (q true _ _ (sb.trans (Heap.SameBut.update _ a _)) S2 (fun z => absurd z hn) fun _ => pk2))
   ·rw [if_neg hc]
    exact wpAny_pure (wpAny_pure (q true _ _ sb S1 (fun z => absurd z hn) fun _ => pk))
  refine wpAny_bind (gw _ ?_)
  split
  ·refine wpAny_bind ?_
   rw [hashByValue_scannable 8 sc]
   refine wpAny_pure ?_
   exact fin _ (fun b s1 Q' z => by cases b <;> first | exact wpAny_pure z | exact wpAny_rule z) _ (by split; exact f1; exact SetTable.fits_plain_off f1) (by split; exact T1; exact ⟨T1.up, T1.dum, T1.led⟩)
  ·refine wpAny_bind (wpAny_pure ?_)
   exact fin _ (fun b s1 Q' z => by cases b <;> first | exact wpAny_pure z | exact wpAny_rule z) _ f1 T1
end
end HT
namespace HT
open PySem PyProof.Rows
section
variable {prog : Program} {w : World} {A : Around} {E : Value → Shared → Prop} {s : Shared}
def ledW (w : World) : Bool := !w.params.followText "set-order"
def freshSet (w : World) : Obj := { cls := .type "set", dict := none, data := .set #[] 0 (.fresh 0 0 (ledW w)) }
theorem freshSet_I {h : Heap} {a : Addr} (e : h.get? a = some (freshSet w)) : SetI h a [] (ledW w) :=
 ⟨_, #[], 0, .fresh 0 0 (ledW w), e, ⟨rfl, rfl, rfl⟩, rfl, (fun _ h => nomatch h), rfl, List.nodup_nil, by show 0 < scanBound; decide, rfl, ⟨List.Pairwise.nil, rfl, rfl⟩⟩
theorem set_newL (v : Value) {R : Value → Shared → Prop} (q : R (.ref s.heap.objs.size) { s with heap := s.heap.push (freshSet w) }) : codeAny (model prog w) A (.call (.builtin "set.__new__") ⟨[.type "set", v], []⟩) (wants R E) s := by
 refine codeAny_of_tree ?_
 change wpAny _ A.in1 (checkBuiltinCall "set.__new__" ⟨[.type "set", v], []⟩ >>= fun _ => again (.builtin "set.__new__" ⟨[.type "set", v], []⟩)) _ _ s
 refine wpAny_bind (wpAny_of_eq (F.newCall_set_1 v) (wpAny_pure ⟨plainId_quiet F.plain_set_new _, codeAny_builtin F.entry_set_new ?_⟩))
 rw [Around.under_plainId F.plain_set_new _]
 unfold Builtin.«set.__new__» Builtin.Frozenset.newClass
 have sub := sub_set_self
 obtain ⟨h0, g0, d0, t0, o0⟩ := s
 dsimp only
 wp_walk
 refine wpAny_askSetting (wpAny_pure ?_)
 dsimp only
 simp only [newObj]
 exact wpAny_bind (wpAny_alloc (wpAny_pure (wpAny_pure q)))
theorem set_fill {I S : Addr} {fp wr : List Addr} {n : Nat} {P : Nat → Value → Prop} {St : Nat → Heap → Prop} {R : Result → Shared → Prop} {led : Bool} (W : Walks prog w A.in1 I fp wr n P St) (nS : S ∉ fp) (val : Nat → Int) (hv : ∀ i v, P i v → ∃ t, v = .int (val i) t) (hb : ∀ ks : List Int, ks.Nodup → (∀ x ∈ ks, ∃ j < n, val j = x) → ks.length + 1 < scanBound) :
  ∀ (k i : Nat) (s : Shared) (ks : List Int), i + k = n → St i s.heap → SetI s.heap S ks led → ks.length ≤ i → (∀ x, x ∈ ks ↔ ∃ j < i, val j = x) →
   (∀ h' tk ks', SetI h' S ks' led → (∀ x, x ∈ ks' ↔ ∃ j < n, val j = x) → (∀ b o, b ∉ wr → b ≠ S → s.heap.get? b = some o → h'.get? b = some o) → R (.ok (.ret .none)) { s with heap := h', toks := tk }) →
   codeAny (model prog w) A (.builtin "set.update.loop" ⟨[.ref S, .ref I], []⟩) R s := by
 have nW : S ∉ wr := fun z => nS (W.sub S z)
 intro k
 induction k with
 | zero =>
  intro i s ks hi hst hS _ hm q
  have ei : i = n := by omega
  subst ei
  refine codeAny_builtin F.entry_set_update_loop ?_
  rw [Around.under_plainId F.plain_set_update_loop _]
  refine wpAny_bind (m := pyNext (.ref I)) (W.done s _ _ hst fun h' tk kp => ?_)
  obtain ⟨o, es, ep, t, ho, rest⟩ := hS
  exact wpAny_pure (q h' tk ks ⟨o, es, ep, t, kp S _ nW ho, rest⟩ hm fun b o h1 _ h3 => kp b o h1 h3)
 | succ k ih =>
  intro i s ks hi hst hS hlen hm q
  refine codeAny_builtin F.entry_set_update_loop ?_
  rw [Around.under_plainId F.plain_set_update_loop _]
  refine wpAny_bind (m := pyNext (.ref I)) (W.item i s _ _ (by omega) hst fun v h1 t1 hP st1 kp => ?_)
  obtain ⟨tv, rfl⟩ := hv i v hP
  have hS1 : SetI h1 S ks led := by
   obtain ⟨o, es, ep, t, ho, rest⟩ := hS
   exact ⟨o, es, ep, t, kp S _ nW ho, rest⟩
  refine wpAny_bind (m := holding [Value.int (val i) tv] (setAdd S (.int (val i) tv))) (wpAny_holding ?_)
  unfold setAdd
  refine wpAny_holding (wpAny_bind (wpAny_pyHash_int ?_))
  refine setAdd_I (s := { s with heap := h1, toks := t1 + 1 }) hS1 (hb ks (let ⟨_, _, _, _, _, _, _, _, _, nd, _⟩ := hS; nd) fun x hx => let ⟨j, h1, h2⟩ := (hm x).mp hx; ⟨j, by omega, h2⟩) fun b h2 ks2 sb S2 c1 c2 => ?_
  have m2 : ∀ x, x ∈ ks2 ↔ ∃ j < i + 1, val j = x := fun x => by
   by_cases hin : val i ∈ ks
   ·rw [(c1 hin).mem_iff, hm x]
    refine ⟨fun ⟨j, h1, h2⟩ => ⟨j, by omega, h2⟩, fun ⟨j, h1, h2⟩ => ?_⟩
    by_cases e : j = i
    ·rw [e] at h2
     rw [h2] at hin
     exact (hm x).mp hin
    ·exact ⟨j, by omega, h2⟩
   ·rw [(c2 hin).mem_iff, List.mem_append, List.mem_singleton, hm x]
    refine ⟨fun z => z.elim (fun ⟨j, h1, h2⟩ => ⟨j, by omega, h2⟩) fun e => ⟨i, by omega, e.symm⟩, fun ⟨j, h1, h2⟩ => ?_⟩
    by_cases e : j = i
    ·rw [e] at h2
     exact .inr h2.symm
    ·exact .inl ⟨j, by omega, h2⟩
  have l2 : ks2.length ≤ i + 1 := by
   by_cases hin : val i ∈ ks
   ·rw [(c1 hin).length_eq]; omega
   ·rw [(c2 hin).length_eq, List.length_append]
    show ks.length + 1 ≤ _
    omega
  refine wpAny_pure ⟨plainId_quiet F.plain_set_update_loop _, ih (i + 1) _ ks2 (by omega) (W.frame _ _ _ st1 fun c hc o h => ?_) S2 l2 m2 fun h' tk ks' S' m' kp' => q h' tk ks' S' m' fun c o h1' h2' h3' => kp' c o h1' h2' ?_⟩
  ·rw [sb.2 c (fun z : c = S => nS (by rw [← z]; exact hc))]; exact h
  ·show h2.get? c = some o
   rw [sb.2 c h2']; exact kp c o h1' h3'
set_option maxHeartbeats 6400000 in
theorem call_setI {l : Addr} {items : Array Value} {ns : List Int} {Q : Value → Shared → Prop} (hh : A.handled = none) (hl : s.heap.IsList l items) (hi : IntsAre items.toList ns) (hb : ∀ ks : List Int, ks.Nodup → (∀ x ∈ ks, x ∈ ns) → ks.length + 1 < scanBound)
  (q : ∀ h' tk ks, SetI h' s.heap.objs.size ks (ledW w) → (∀ x, x ∈ ks ↔ x ∈ ns) → (∀ b o, b < s.heap.objs.size → s.heap.get? b = some o → h'.get? b = some o) → Q (.ref s.heap.objs.size) { s with heap := h', toks := tk }) : wpAny (model prog w) A (call (.type "set") [.ref l]) Q E s := by
 obtain ⟨c0, tl0, mro0⟩ := F.called_set.mro
 have made0 := F.called_set.made
 have sub0 := F.called_set.sub
 have lt : l < s.heap.objs.size := by obtain ⟨_, e, _⟩ := hl; exact Heap.lt_size e
 refine wpAny_call (codeAny_of_tree ?_)
 change wpAny _ _ (callAny (.type "set") _) _ _ _
 refine wpAny_pure ⟨Code.quiet_builtin _ (by decide +kernel), codeAny_builtin F.entry_type_call ?_⟩
 rw [Around.under_plain (weight_type_call_type "set" [.ref l] []) rfl]
 have nt := F.called_set.notType
 have cc := F.called_set.canCreate
 have tc := F.typeCall_set_1 (.ref l)
 repeat (any_goals (first | assumption | wp_step))
 refine codeAny_mono (set_newL (.ref l) (E := E) (R := fun ob s1 => ob = .ref s.heap.objs.size ∧ s1 = { s with heap := s.heap.push (freshSet w) }) ⟨rfl, rfl⟩) fun r s1 hr => ?_
 cases r with
 | error e => exact hr
 | ok fl =>
  cases fl with
  | ret ob =>
   obtain ⟨rfl, rfl⟩ := hr
   have eS : (s.heap.push (freshSet w)).get? s.heap.objs.size = some (freshSet w) := Heap.get?_push_size _ rfl
   have tS : Shared.TypeIs { s with heap := s.heap.push (freshSet w) } (.ref s.heap.objs.size) "set" := ⟨_, eS, rfl⟩
   have li := F.called_set.init.lookup
   have bi := F.called_set.init.bind (.ref s.heap.objs.size)
   repeat (any_goals (first | assumption | wp_step))
   refine codeAny_mono (codeAny_call_builtin (R := wants (fun r s2 => r = .none ∧ ∃ h' tk ks, s2 = { s with heap := h', toks := tk } ∧ SetI h' s.heap.objs.size ks (ledW w) ∧ (∀ x, x ∈ ks ↔ x ∈ ns) ∧ (∀ b o, b < s.heap.objs.size → s.heap.get? b = some o → h'.get? b = some o)) E) F.called_set.init.plain F.entry_set_init (check_set_init_1 tS ?_)) fun r2 s2 hr2 => ?_
   ·have ll : (s.heap.push (freshSet w)).IsList l items := hl.push _
    obtain ⟨⟨oc, od, odat, osl⟩, ho, hc, nl, hd⟩ := id ll
    simp only at hc hd
    subst hc hd
    have s1 := F.sub_list_set
    have s2 := F.sub_list_frozenset
    have nd : (Value.type "list" == Value.type "dict") = false := by decide
    unfold freshSet at eS
    unfold Builtin.«set.__init__» noKeywords Builtin.Frozenset.updateFrom
    generalize ePI : pyIter = PI
    wp_walk
    subst ePI
    refine wpAny_pyIter_list ll (wpAny_bind (wpAny_runValue ?_))
    have h3 : A.in1.in1.in1.handled = none := by simp [hh]
    have sz : (s.heap.push (freshSet w)).objs.size = s.heap.objs.size + 1 := Heap.size_push ..
    have ne : l ≠ (s.heap.push (freshSet w)).objs.size := by rw [sz]; exact Nat.ne_of_lt (Nat.lt_succ_of_lt lt)
    have nf : s.heap.objs.size ∉ [(s.heap.push (freshSet w)).objs.size, l] := by
     rw [sz, List.mem_cons, List.mem_singleton]
     exact fun z => z.elim (fun y => absurd y (Nat.ne_of_lt (Nat.lt_succ_self _))) fun y => absurd y (Nat.ne_of_gt lt)
    have hsz : ns.length = items.size := by rw [← hi.length, Array.length_toList]
    refine set_fill (Walks.list h3 _ l ne items) nf (fun i => ns.getD i 0) (fun i v hv => IntsAre.int_at hi i v (by rw [Array.getElem?_toList]; exact hv)) (fun ks nd m => hb ks nd fun x hx => by
     obtain ⟨j, hj, rfl⟩ := m x hx
     rw [List.getD_eq_getElem?_getD, List.getElem?_eq_getElem (by omega)]
     exact List.getElem_mem _) items.size 0 _ [] (Nat.zero_add _)
     ⟨⟨_, Heap.get?_push_size _ rfl, rfl, rfl⟩, ll.push _⟩ (freshSet_I (Heap.get?_push_of_some _ eS)) (Nat.zero_le _) (fun x => ⟨(fun z => nomatch z), fun ⟨j, hj, _⟩ => absurd hj (Nat.not_lt_zero _)⟩) fun h' tk ks S' m' kp => ?_
    refine wpAny_pure (wpAny_pure ⟨rfl, h', tk, ks, rfl, S', fun x => ?_, fun b o hb' e => ?_⟩)
    ·rw [m' x]
     constructor
     ·rintro ⟨j, hj, rfl⟩
      rw [List.getD_eq_getElem?_getD, List.getElem?_eq_getElem (by omega)]
      exact List.getElem_mem _
     ·intro hx
      obtain ⟨j, hj, e⟩ := List.mem_iff_getElem.mp hx
      exact ⟨j, by omega, by rw [List.getD_eq_getElem?_getD, List.getElem?_eq_getElem hj]; exact e⟩
    ·refine kp b o (fun z => ?_) (Nat.ne_of_lt hb') (Heap.get?_push_of_some _ (Heap.get?_push_of_some _ e))
     rw [List.mem_singleton, sz] at z
     have y := Nat.lt_succ_of_lt hb'
     rw [z] at y
     exact absurd y (Nat.lt_irrefl _)
   ·cases r2 with
    | error e => exact hr2
    | ok fl2 =>
     cases fl2 with
     | ret r =>
      obtain ⟨rfl, h', tk, ks, rfl, S', m', kp⟩ := hr2
      repeat (any_goals (first | assumption | wp_step))
      exact q _ _ _ S' m' kp
     | _ => exact hr2.elim
  | _ => exact hr.elim
end
end HT
namespace HT
open PySem PyProof.Rows
theorem slot_seti_next : Slot "set_iterator" "__next__" "set_iterator.__next__" :=
 .of (owner := "set_iterator") (n := "__next__") (by rw [typeLookup_type, builtinLookup_eq_fast]; kernel_rfl) (by decide +kernel) (by decide +kernel) (by decide +kernel) (by first | exact .inl (by decide +kernel) | exact .inr (by decide +kernel)) (by rw [isSubtype_type]; kernel_rfl)
theorem entry_seti_next : entryFor table "set_iterator.__next__" = some Builtin.«set_iterator.__next__» := entryFor_of_fast (by kernel_rfl)
theorem args_seti_next (a : Value) : argsOk "set_iterator.__next__" ⟨[a], []⟩ := by unfold argsOk; kernel_rfl
theorem entry_set_iter : entryFor table "set.__iter__" = some Builtin.«frozenset.__iter__» := entryFor_alias (id' := "frozenset.__iter__") (by kernel_rfl) rfl (by decide +kernel) (by kernel_rfl)
theorem choose_wp {M : Model} {A : Around} {E : Value → Shared → Prop} {s : Shared} {src : Source} {n : Nat} {Q : Nat → Shared → Prop} (hn : n ≠ 0) (q : ∀ i d, i < n → Q i { s with drawn := d }) : wpAny M A (choose src n) Q E s :=
 fun _ _ _ => ⟨hn, q _ _ (Nat.mod_lt _ (Nat.pos_of_ne_zero hn))⟩
theorem perm_out {α : Type} : ∀ {l : List α} {i : Nat} (h : i < l.length), (l[i] :: l.eraseIdx i).Perm l
 | _ :: _, 0, _ => List.Perm.refl _
 | a :: r, i + 1, h => ((List.Perm.swap a _ _).trans (List.Perm.cons a (perm_out (l := r) (i := i) (Nat.lt_of_succ_lt_succ h))))
theorem draw_perm {M : Model} {A : Around} {E : Value → Shared → Prop} {α : Type} (n : Nat) : ∀ (xs : List α) (s : Shared) (Q : List α → Shared → Prop), xs.length ≤ n → (∀ ys d, ys.Perm xs → Q ys { s with drawn := d }) → wpAny M A (drawOrder n xs) Q E s := by
 induction n with
 | zero =>
  intro xs s Q hl q
  have e : xs = [] := List.length_eq_zero_iff.mp (by omega)
  subst e
  exact wpAny_pure (q [] s.drawn (List.Perm.refl _))
 | succ n ih =>
  intro xs s Q hl q
  cases xs with
  | nil => exact wpAny_pure (q [] s.drawn (List.Perm.refl _))
  | cons x r =>
   unfold drawOrder
   refine wpAny_bind (choose_wp (by simp) fun i d hi => ?_)
   rw [List.getElem?_eq_getElem hi]
   refine wpAny_bind (ih _ _ _ ?_ fun ys d' hp => wpAny_pure (q _ d' ?_))
   ·rw [List.length_eraseIdx_of_lt hi]
    rw [List.length_cons] at hl ⊢
    omega
   ·exact (List.Perm.cons _ hp).trans (perm_out hi)
theorem pick_go {α : Type} (next : Nat → Nat) : ∀ (fuel k : Nat) (left : List α) (out : Array α), left.length = fuel → (pickOrder.go next fuel k left out).toList.Perm (out.toList ++ left)
 | 0, k, [], out, _ => by show out.toList.Perm _; rw [List.append_nil]
 | fuel + 1, k, left, out, hl => by
  have hi : next k % left.length < left.length := Nat.mod_lt _ (by omega)
  unfold pickOrder.go
  rw [List.getElem?_eq_getElem hi]
  refine (pick_go next fuel (k + 1) _ _ (by rw [List.length_eraseIdx_of_lt hi]; omega)).trans ?_
  rw [Array.toList_push, List.append_assoc]
  exact List.Perm.append_left _ (perm_out hi)
theorem pick_perm {α : Type} (next : Nat → Nat) (xs : Array α) : (pickOrder next xs).toList.Perm xs.toList := pick_go next _ 0 _ #[] (Array.length_toList)
def slotAt (place : Array Nat) (i : Nat) : Nat := if i = 0 then 0 else place.getD (i - 1) 0 + 1
theorem BelowAt.uniq {xs : Array Nat} {j b c : Nat} (B : BelowAt xs j b) (C : BelowAt xs j c) : b = c := by
 rcases Nat.lt_trichotomy b c with z | z | z
 ·have h1 := C.lo b z
  have h2 := B.hi b (Nat.le_refl _) (by have := C.le; omega)
  omega
 ·exact z
 ·have h1 := B.lo c z
  have h2 := C.hi c (Nat.le_refl _) (by have := B.le; omega)
  omega
theorem slotAt_below {xs : Array Nat} (u : UpP xs) {i : Nat} (hi : i ≤ xs.size) : SetTable.below xs (slotAt xs i) = i := by
 refine (below_is u _).uniq ?_
 unfold slotAt
 by_cases h0 : i = 0
 ·rw [if_pos h0, h0]
  exact ⟨Nat.zero_le _, fun k h => absurd h (Nat.not_lt_zero _), fun k _ _ => Nat.zero_le _⟩
 ·rw [if_neg h0]
  refine ⟨hi, fun k hk => ?_, fun k h1 h2 => ?_⟩
  ·by_cases e : k = i - 1
   ·rw [e]; exact Nat.lt_succ_self _
   ·have := u.at (show k < i - 1 by omega) (by omega)
    omega
  ·exact u.at (show i - 1 < k by omega) h2
section
variable {prog : Program} {w : World} {A : Around} {E : Value → Shared → Prop} {s : Shared} {a : Addr} {o : Obj} {es : Array (Int × Value)} {ep : Nat} {t : SetTable}
theorem next_text {slot given : Nat} {Q : Option (Value × Nat) → Shared → Prop} (ho : s.heap.get? a = some o) (hd : o.data = .set es ep t) (hf : t.fits es.size = true) (hT : w.params.followText "set-order" = true)
  (q : Q (((pickOrder (w.params.setOrder a ep) es)[given]?).map fun e => (e.2, slot)) s) : wpAny (model prog w) A (setNext a slot given ep) Q E s := by
 have by_ : ∀ {Q' : Bool → Shared → Prop}, Q' true s → wpAny (model prog w) A setsByText Q' E s := fun z => by
  unfold setsByText
  have z' := z
  rw [← hT] at z'
  exact wpAny_bind (wpAny_askSetting (wpAny_pure z'))
 unfold setNext
 refine wpAny_bind (wpAny_setState_of ho hd hf (wpAny_bind (by_ ?_)))
 rw [if_pos rfl]
 dsimp only
 rw [if_neg (by simp)]
 unfold setWalk
 refine wpAny_bind (wpAny_bind (wpAny_setState_of ho hd hf (wpAny_bind (by_ ?_))))
 rw [if_pos rfl]
 exact wpAny_bind (wpAny_askSetting (wpAny_pure (wpAny_pure q)))
theorem next_led {slot given : Nat} {Q : Option (Value × Nat) → Shared → Prop} (ho : s.heap.get? a = some o) (hd : o.data = .set es ep t) (hf : t.fits es.size = true) (hT : w.params.followText "set-order" = false) (hl : t.led = true) (hp : (!t.plain && decide (es.size > 1)) = false)
  (q : Q (match es[SetTable.below t.place slot]?, t.place[SetTable.below t.place slot]? with | some (_, x), some j => some (x, j + 1) | _, _ => none) s) : wpAny (model prog w) A (setNext a slot given ep) Q E s := by
 have by_ : ∀ {Q' : Bool → Shared → Prop}, Q' false s → wpAny (model prog w) A setsByText Q' E s := fun z => by
  unfold setsByText
  have z' := z
  rw [← hT] at z'
  exact wpAny_bind (wpAny_askSetting (wpAny_pure z'))
 unfold setNext
 refine wpAny_bind (wpAny_setState_of ho hd hf (wpAny_bind (by_ ?_)))
 rw [if_neg Bool.false_ne_true]
 dsimp only
 change wpAny _ _ (if (!t.plain && decide (es.size > 1)) = true then _ else _) _ _ _
 rw [if_neg (by rw [hp]; exact Bool.false_ne_true)]
 change wpAny _ _ ((if (!t.led && !es.isEmpty) = true then _ else _) >>= _) _ _ _
 rw [if_neg (by rw [hl]; exact Bool.false_ne_true)]
 exact wpAny_bind (wpAny_pure (wpAny_pure q))
end
end HT
namespace HT
open PySem PyProof.Rows
def itO (first : Value) (i n ep : Nat) (a : Addr) : Obj := { cls := .type "set_iterator", dict := none, data := .fields #[first, rawInt i, .ref a, rawInt n, rawInt ep], slots := #[] }
section
variable {prog : Program} {w : World} {A : Around} {E : Value → Shared → Prop} {s : Shared} {a I : Addr} {o : Obj} {es : Array (Int × Value)} {ep : Nat} {t : SetTable}
theorem entries_wp {Q : Array (Int × Value) → Shared → Prop} (ho : s.heap.get? a = some o) (hd : o.data = .set es ep t) (hf : t.fits es.size = true) (q : Q es s) : wpAny (model prog w) A (setEntries a) Q E s := by
 unfold setEntries
 exact wpAny_bind (wpAny_setState_of ho hd hf (wpAny_pure q))
theorem stop_wp {Q : Option Value → Shared → Prop} {K : Value → Sem (Option Value)} (hh : A.handled = none) (q : ∀ h', (∀ b o, s.heap.get? b = some o → h'.get? b = some o) → ∀ x, (∃ oo, h'.get? x = some oo ∧ oo.cls = .type "StopIteration") → wpAny (model prog w) A (K (.ref x)) Q E { s with heap := h' }) :
  wpAny (model prog w) A.in1 (newExc (.type "StopIteration") [] >>= fun x => raiseNew (α := Fin) x) (fun _ _ => False) (fun e s' => wpAny (model prog w) A (K e) Q E s') s := by
 refine wpAny_bind ?_
 simp only [newExc, newTuple]
 refine wpAny_bind (wpAny_newObj_type ?_ (by size_fits))
 refine wpAny_bind (m := firstArgMember _ _) (wpAny_of_eq (a := Value.none) (by first | rfl | (simp only [firstArgMember]; rfl)) ?_)
 refine wpAny_newObj_type ?_ (by size_fits)
 simp only [raiseNew]
 refine wpAny_bind (wpAny_handled ?_)
 rw [show A.in1.handled = none from hh]
 refine wpAny_bind (wpAny_pure (wpAny_throw ?_))
 exact q _ (fun b o e => Heap.get?_push_of_some _ (Heap.get?_push_of_some _ e)) _ ⟨_, Heap.get?_push_size _ rfl, rfl⟩
theorem seti_item {sl sl' i n : Nat} {v : Value} {Q : Option Value → Shared → Prop} (hI : s.heap.get? I = some (itO (rawInt sl) i n ep a)) (ho : s.heap.get? a = some o) (hd : o.data = .set es ep t) (hf : t.fits es.size = true) (hz : es.size = n)
  (hn : ∀ (E' : Value → Shared → Prop) (Q' : Option (Value × Nat) → Shared → Prop), Q' (some (v, sl')) s → wpAny (model prog w) A.in1 (setNext a sl i ep) Q' E' s)
  (q : ∀ h', h'.get? I = some (itO (rawInt sl') (i + 1) n ep a) → Heap.SameBut I s.heap h' → Q (some v) { s with heap := h' }) : wpAny (model prog w) A (pyNext (.ref I)) Q E s := by
 have ty : s.TypeIs (.ref I) "set_iterator" := ⟨_, hI, rfl⟩
 unfold pyNext
 refine wpAny_bind (wpAny_attempt (wpAny_callSpecial?_slot (name := Str.ofString "__next__") ty slot_seti_next (wpAny_call_entry slot_seti_next ty entry_seti_next ?_ (args_seti_next _))))
 change wpAny _ _ (fieldsOf (.ref I) >>= _) _ _ s
 refine wpAny_bind (wpAny_fieldsOf hI rfl ?_)
 change wpAny _ _ (setEntries a >>= _) _ _ s
 refine wpAny_bind (entries_wp ho hd hf ?_)
 rw [hz]
 change wpAny _ _ (if (((n : Nat) : Int) != ((n : Nat) : Int)) = true then _ else _) _ _ s
 rw [if_neg (by simp)]
 change wpAny _ _ (setNext a ((sl : Nat) : Int).toNat ((i : Nat) : Int).toNat ((ep : Nat) : Int).toNat >>= _) _ _ s
 rw [Int.toNat_natCast, Int.toNat_natCast, Int.toNat_natCast]
 refine wpAny_bind (hn _ _ ?_)
 change wpAny _ _ (setField (.ref I) 0 (rawInt (sl' : Nat)) >>= _) _ _ s
 refine wpAny_bind (wpAny_setField_rec hI (by simp) fun h1 e1 sb1 => ?_)
 refine wpAny_bind (m := setField (.ref I) 1 (rawInt (((i : Nat) : Int) + 1))) (wpAny_setField_rec e1 (by simp) fun h2 e2 sb2 => wpAny_pure ⟨v, rfl, wpAny_pure (q _ ?_ (sb1.trans sb2))⟩)
 exact e2
theorem seti_end {sl i n : Nat} {Q : Option Value → Shared → Prop} (hh : A.handled = none) (hI : s.heap.get? I = some (itO (rawInt sl) i n ep a)) (ho : s.heap.get? a = some o) (hd : o.data = .set es ep t) (hf : t.fits es.size = true) (hz : es.size = n)
  (hn : ∀ (E' : Value → Shared → Prop) (Q' : Option (Value × Nat) → Shared → Prop), Q' none s → wpAny (model prog w) A.in1 (setNext a sl i ep) Q' E' s)
  (q : ∀ h', Heap.ExtBut I s.heap h' → Q none { s with heap := h' }) : wpAny (model prog w) A (pyNext (.ref I)) Q E s := by
 have ty : s.TypeIs (.ref I) "set_iterator" := ⟨_, hI, rfl⟩
 unfold pyNext
 refine wpAny_bind (wpAny_attempt (wpAny_callSpecial?_slot (name := Str.ofString "__next__") ty slot_seti_next (wpAny_call_entry slot_seti_next ty entry_seti_next ?_ (args_seti_next _))))
 change wpAny _ _ (fieldsOf (.ref I) >>= _) _ _ s
 refine wpAny_bind (wpAny_fieldsOf hI rfl ?_)
 change wpAny _ _ (setEntries a >>= _) _ _ s
 refine wpAny_bind (entries_wp ho hd hf ?_)
 rw [hz]
 change wpAny _ _ (if (((n : Nat) : Int) != ((n : Nat) : Int)) = true then _ else _) _ _ s
 rw [if_neg (by simp)]
 change wpAny _ _ (setNext a ((sl : Nat) : Int).toNat ((i : Nat) : Int).toNat ((ep : Nat) : Int).toNat >>= _) _ _ s
 rw [Int.toNat_natCast, Int.toNat_natCast, Int.toNat_natCast]
 refine wpAny_bind (hn _ _ ?_)
 change wpAny _ _ (setField (.ref I) 2 .none >>= _) _ _ s
 refine wpAny_bind (wpAny_setField_rec hI (by simp) fun h1 e1 sb1 => ?_)
 refine wpAny_mono (stop_wp (A := A) (s := { s with heap := h1 }) hh fun h2 kp x ⟨oo, e2, c2⟩ => ?_) (fun _ _ z => z.elim) fun e s' z => z
 refine wpAny_bind (wpAny_isInstance (T := "StopIteration") (b := true) ⟨oo, e2, c2⟩ isSubtype_stop ?_)
 exact wpAny_pure (q _ fun b ob hb e => kp b ob (sb1.extBut b ob hb e))
theorem drawn_wp {p : Nat} {e : Int × Value} {Q : Value → Shared → Prop} (ho : s.heap.get? a = some o) (hd : o.data = .set es ep t) (hf : t.fits es.size = true) (he : es[p]? = some e) (q : Q e.2 s) : wpAny (model prog w) A (setNextDrawn a p ep) Q E s := by
 unfold setNextDrawn
 refine wpAny_bind (wpAny_setState_of ho hd hf ?_)
 dsimp only
 rw [if_neg (by simp), he]
 exact wpAny_pure q
theorem setd_item {T : Addr} {ps : List Nat} {i n p : Nat} {e : Int × Value} {Q : Option Value → Shared → Prop} (hI : s.heap.get? I = some (itO (.ref T) i n ep a)) (hT : IsTup s.heap T (ps.map fun p : Nat => rawInt p).toArray) (ho : s.heap.get? a = some o) (hd : o.data = .set es ep t) (hf : t.fits es.size = true) (hz : es.size = n)
  (hp : ps[i]? = some p) (he : es[p]? = some e) (q : ∀ h', h'.get? I = some (itO (.ref T) (i + 1) n ep a) → Heap.SameBut I s.heap h' → Q (some e.2) { s with heap := h' }) : wpAny (model prog w) A (pyNext (.ref I)) Q E s := by
 have ty : s.TypeIs (.ref I) "set_iterator" := ⟨_, hI, rfl⟩
 obtain ⟨ot, hot, _, nt, hdt⟩ := hT
 unfold pyNext
 refine wpAny_bind (wpAny_attempt (wpAny_callSpecial?_slot (name := Str.ofString "__next__") ty slot_seti_next (wpAny_call_entry slot_seti_next ty entry_seti_next ?_ (args_seti_next _))))
 change wpAny _ _ (fieldsOf (.ref I) >>= _) _ _ s
 refine wpAny_bind (wpAny_fieldsOf hI rfl ?_)
 change wpAny _ _ (setEntries a >>= _) _ _ s
 refine wpAny_bind (entries_wp ho hd hf ?_)
 rw [hz]
 change wpAny _ _ (if (((n : Nat) : Int) != ((n : Nat) : Int)) = true then _ else _) _ _ s
 rw [if_neg (by simp)]
 change wpAny _ _ (seqItems? (.ref T) >>= _) _ _ s
 refine wpAny_bind (wpAny_seqItems hot hdt ?_)
 have ep' : (ps.map fun p : Nat => rawInt p).toArray[((i : Nat) : Int).toNat]? = some (rawInt p) := by rw [Int.toNat_natCast, List.getElem?_toArray, List.getElem?_map, hp]; rfl
 dsimp only
 rw [ep']
 change wpAny _ _ (setNextDrawn a ((p : Nat) : Int).toNat ((ep : Nat) : Int).toNat >>= _) _ _ s
 rw [Int.toNat_natCast, Int.toNat_natCast]
 refine wpAny_bind (drawn_wp ho hd hf he ?_)
 refine wpAny_bind (m := setField (.ref I) 1 (rawInt (((i : Nat) : Int) + 1))) (wpAny_setField_rec hI (by simp) fun h2 e2 sb2 => wpAny_pure ⟨e.2, rfl, wpAny_pure (q _ ?_ sb2)⟩)
 exact e2
theorem setd_end {T : Addr} {ps : List Nat} {i n : Nat} {Q : Option Value → Shared → Prop} (hh : A.handled = none) (hI : s.heap.get? I = some (itO (.ref T) i n ep a)) (hT : IsTup s.heap T (ps.map fun p : Nat => rawInt p).toArray) (ho : s.heap.get? a = some o) (hd : o.data = .set es ep t) (hf : t.fits es.size = true) (hz : es.size = n)
  (hp : ps[i]? = none) (q : ∀ h', Heap.ExtBut I s.heap h' → Q none { s with heap := h' }) : wpAny (model prog w) A (pyNext (.ref I)) Q E s := by
 have ty : s.TypeIs (.ref I) "set_iterator" := ⟨_, hI, rfl⟩
 obtain ⟨ot, hot, _, nt, hdt⟩ := hT
 unfold pyNext
 refine wpAny_bind (wpAny_attempt (wpAny_callSpecial?_slot (name := Str.ofString "__next__") ty slot_seti_next (wpAny_call_entry slot_seti_next ty entry_seti_next ?_ (args_seti_next _))))
 change wpAny _ _ (fieldsOf (.ref I) >>= _) _ _ s
 refine wpAny_bind (wpAny_fieldsOf hI rfl ?_)
 change wpAny _ _ (setEntries a >>= _) _ _ s
 refine wpAny_bind (entries_wp ho hd hf ?_)
 rw [hz]
 change wpAny _ _ (if (((n : Nat) : Int) != ((n : Nat) : Int)) = true then _ else _) _ _ s
 rw [if_neg (by simp)]
 change wpAny _ _ (seqItems? (.ref T) >>= _) _ _ s
 refine wpAny_bind (wpAny_seqItems hot hdt ?_)
 have ep' : (ps.map fun p : Nat => rawInt p).toArray[((i : Nat) : Int).toNat]? = none := by rw [Int.toNat_natCast, List.getElem?_toArray, List.getElem?_map, hp]; rfl
 dsimp only
 rw [ep']
 change wpAny _ _ (setField (.ref I) 0 (rawInt 0) >>= _) _ _ s
 refine wpAny_bind (wpAny_setField_rec hI (by simp) fun h0 e0 sb0 => ?_)
 change wpAny _ _ (setField (.ref I) 2 .none >>= _) _ _ _
 refine wpAny_bind (wpAny_setField_rec e0 (by simp) fun h1 e1 sb1 => ?_)
 refine wpAny_mono (stop_wp (A := A) (s := { s with heap := h1 }) hh fun h2 kp x ⟨oo, e2, c2⟩ => ?_) (fun _ _ z => z.elim) fun e s' z => z
 refine wpAny_bind (wpAny_isInstance (T := "StopIteration") (b := true) ⟨oo, e2, c2⟩ isSubtype_stop ?_)
 exact wpAny_pure (q _ fun b ob hb e => kp b ob ((sb0.trans sb1).extBut b ob hb e))
theorem iter_set {Q : Value → Shared → Prop} (ho : s.heap.get? a = some o) (hx : o.ExactSet) (hd : o.data = .set es ep t) (hf : t.fits es.size = true)
  (q1 : (w.params.followText "set-order" = true ∨ (!t.plain && decide (es.size > 1)) = false) → Q (.ref s.heap.objs.size) { s with heap := s.heap.push (itO (rawInt 0) 0 es.size ep a) })
  (q2 : ∀ (ps : List Nat) (d : Drawn), ps.Perm (List.range es.size) → Q (.ref (s.heap.objs.size + 1)) { s with heap := (s.heap.push { cls := .type "tuple", data := .seq (ps.map fun p : Nat => rawInt p).toArray }).push (itO (.ref s.heap.objs.size) 0 es.size ep a), drawn := d }) (hsz : es.size ≤ sizeLine) : wpAny (model prog w) A (pyIter (.ref a)) Q E s := by
 have ty : s.TypeIs (.ref a) "set" := ⟨o, ho, hx.1⟩
 refine wpAny_pyIter_slot ty PySem.F.slot_set_iter (wpAny_call_entry PySem.F.slot_set_iter ty entry_set_iter ?_ (PySem.F.args_set_iter_1 _))
 unfold Builtin.«frozenset.__iter__»
 change wpAny _ _ (Builtin.Frozenset.sizeOf a >>= _) _ _ s
 unfold Builtin.Frozenset.sizeOf
 refine wpAny_bind (wpAny_bind (entries_wp ho hd hf (wpAny_pure ?_)))
 unfold setDrawn
 refine wpAny_bind (wpAny_bind (wpAny_setState_of ho hd hf ?_))
 unfold setsByText
 refine wpAny_bind (wpAny_bind (wpAny_askSetting (wpAny_pure (wpAny_pure ?_))))
 change wpAny _ _ (if (!w.params.followText "set-order" && (!t.plain && decide (es.size > 1))) = true then _ else _) _ _ _
 by_cases hc : (!w.params.followText "set-order" && (!t.plain && decide (es.size > 1))) = true
 ·rw [if_pos hc]
  refine wpAny_bind (draw_perm es.size (List.range es.size) s _ (by rw [List.length_range]; exact Nat.le_refl _) fun ps d hp => ?_)
  have hl : (ps.map fun p : Nat => rawInt p).length ≤ sizeLine := by rw [List.length_map, hp.length_eq, List.length_range]; exact hsz
  unfold newTuple
  refine wpAny_bind (wpAny_newObj_type ?_ (by first | exact hl | simpa using hl))
  refine wpAny_bind (m := setEpoch a) (wpAny_setEpoch_of (Heap.get?_push_of_some _ ho) hd hf ?_)
  have sz : (s.heap.push { cls := .type "tuple", data := .seq (ps.map fun p : Nat => rawInt p).toArray }).objs.size = s.heap.objs.size + 1 := Heap.size_push ..
  refine wpAny_bind (wpAny_newObj_type (wpAny_pure ⟨_, rfl, "set_iterator", _, ⟨_, Heap.get?_push_size _ rfl, rfl⟩, slot_seti_next.lookup, ?_⟩))
  have z := q2 ps d hp
  rw [← sz] at z
  exact z
 ·rw [if_neg hc]
  refine wpAny_bind (wpAny_pure ?_)
  refine wpAny_bind (m := setEpoch a) (wpAny_setEpoch_of ho hd hf ?_)
  refine wpAny_bind (wpAny_newObj_type (wpAny_pure ⟨_, rfl, "set_iterator", _, ⟨_, Heap.get?_push_size _ rfl, rfl⟩, slot_seti_next.lookup, q1 ?_⟩))
  cases hT : w.params.followText "set-order" with
  | true => exact .inl rfl
  | false =>
   rw [hT] at hc
   exact .inr (Bool.eq_false_iff.mpr hc)
end
end HT
namespace HT
open PySem PyProof.Rows
structure WalkN (prog : Program) (w : World) (A : Around) (I : Addr) (fp : List Addr) (vs : List Value) (St : Nat → Heap → Prop) : Prop where
 inI : I ∈ fp
 frame : ∀ i h h', St i h → (∀ b ∈ fp, ∀ o, h.get? b = some o → h'.get? b = some o) → St i h'
 item : ∀ (i : Nat) (v : Value) (s : Shared) (Q : Option Value → Shared → Prop) (E : Value → Shared → Prop), vs[i]? = some v → St i s.heap → (∀ h', St (i + 1) h' → (∀ b o, b ≠ I → s.heap.get? b = some o → h'.get? b = some o) → Q (some v) { s with heap := h' }) → wpAny (model prog w) A (pyNext (.ref I)) Q E s
 done : ∀ (s : Shared) (Q : Option Value → Shared → Prop) (E : Value → Shared → Prop), St vs.length s.heap → (∀ h', (∀ b o, b ≠ I → s.heap.get? b = some o → h'.get? b = some o) → Q none { s with heap := h' }) → wpAny (model prog w) A (pyNext (.ref I)) Q E s
section
variable {prog : Program} {w : World} {A : Around} {E : Value → Shared → Prop} {s : Shared} {a I S : Addr}
theorem ext_loop {fp : List Addr} {vs : List Value} {St : Nat → Heap → Prop} {R : Result → Shared → Prop} {res : Value} (W : WalkN prog w A.in1 I fp vs St) (nS : S ∉ fp) (hz : vs.length ≤ sizeLine) : ∀ (k i : Nat) (s : Shared) (acc : Array Value) (c : Nat), i + k = vs.length → St i s.heap →
  s.heap.get? S = some { cls := .type "list", dict := none, data := .seq acc c, slots := #[] } → acc.toList = vs.take i →
  (∀ h' acc' c', acc'.toList = vs → h'.get? S = some { cls := .type "list", dict := none, data := .seq acc' c', slots := #[] } → (∀ b o, b ≠ I → b ≠ S → s.heap.get? b = some o → h'.get? b = some o) → R (.ok (.ret res)) { s with heap := h' }) →
  codeAny (model prog w) A (.builtin "list.extend.loop" ⟨[.ref S, .ref I, res], []⟩) R s := by
 have SI : S ≠ I := fun z => nS (by rw [z]; exact W.inI)
 intro k
 induction k with
 | zero =>
  intro i s acc c hi hst hS ha q
  have ei : i = vs.length := by omega
  subst ei
  refine codeAny_builtin F.entry_extend_loop ?_
  rw [Around.under_plainId F.plain_extend_loop _]
  refine wpAny_bind (m := pyNext (.ref I)) (W.done s _ _ hst fun h' kp => ?_)
  exact wpAny_pure (q h' acc c (by rw [ha, List.take_length]) (kp S _ SI hS) fun b o h1 _ h3 => kp b o h1 h3)
 | succ k ih =>
  intro i s acc c hi hst hS ha q
  have hlt : i < vs.length := by omega
  have sza : acc.size = i := by rw [← Array.length_toList, ha, List.length_take]; omega
  refine codeAny_builtin F.entry_extend_loop ?_
  rw [Around.under_plainId F.plain_extend_loop _]
  refine wpAny_bind (m := pyNext (.ref I)) (W.item i vs[i] s _ _ (List.getElem?_eq_getElem hlt) hst fun h1 st1 kp => ?_)
  have hS1 := kp S _ SI hS
  refine wpAny_bind (m := updateSeq S (·.push vs[i])) (wpAny_updateSeq hS1 rfl (wpAny_pure ⟨plainId_quiet F.plain_extend_loop _, ih (i + 1) _ (acc.push vs[i]) _ (by omega) (W.frame _ _ _ st1 fun b hb o h => ?_) (Heap.get?_update_self _ hS1 rfl) ?_ fun h' acc' c' h1' h2' h3' => q h' acc' c' h1' h2' fun b o b1 b2 b3 => h3' b o b1 b2 ?_⟩) (by rw [sza]; omega) (by show (acc.push vs[i]).size ≤ sizeLine + 1; rw [Array.size_push, sza]; omega))
  ·rw [Heap.get?_update_other _ _ (fun z : S = b => nS (by rw [z]; exact hb))]; exact h
  ·rw [Array.toList_push, ha, List.take_add_one, List.getElem?_eq_getElem hlt]; rfl
  ·rw [Heap.get?_update_other _ _ (Ne.symm b2)]; exact kp b o b1 b3
theorem set_hint {Q : Bool → Shared → Prop} (ty : s.TypeIs (.ref a) "set") (q : Q false s) : wpAny (model prog w) A (Builtin.List.listLengthHint (.ref a)) Q E s := by
 unfold Builtin.List.listLengthHint
 refine wpAny_bind (wpAny_specialOf ty PySem.F.slot_set_len.lookup ?_)
 generalize eid : ("set.__len__" : String) = id1
 wp_delta
 rw [show splitId id1 = some ("set", "__len__") from by subst eid; decide +kernel]
 subst eid
 refine wpAny_bind (wpAny_isInstance (T := "set") (b := true) ty (by rw [isSubtype_type]; kernel_rfl) ?_)
 refine wpAny_ite_split (fun z => absurd z (by decide)) (fun _ => ?_)
 refine wpAny_ite_split (fun _ => ?_) (fun z => absurd (by decide +kernel) z)
 exact wpAny_bind (wpAny_typeOf ty (wpAny_pure q))
theorem set_walk {ks : List Int} {Q : Value → Shared → Prop} (hh : A.handled = none) (hS : SetI s.heap a ks (ledW w))
  (q : ∀ (I : Addr) (fp : List Addr) (vs : List Value) (ks' : List Int) (St : Nat → Heap → Prop) (h' : Heap) (d : Drawn), IntsAre vs ks' → ks'.Perm ks → WalkN prog w A I fp vs St → St 0 h' → s.heap.objs.size ≤ I → (∀ b ∈ fp, b < h'.objs.size) → (∀ b ∈ fp, s.heap.objs.size ≤ b ∨ b = a) → (∀ b o, s.heap.get? b = some o → h'.get? b = some o) → Q (.ref I) { s with heap := h', drawn := d }) :
  wpAny (model prog w) A (pyIter (.ref a)) Q E s := by
 obtain ⟨o, es, ep, t, ho, hx, hd, hg, hk, nd, hb, hf, T⟩ := hS
 have la : a < s.heap.objs.size := Heap.lt_size ho
 have allI : ∀ (l : List (Int × Value)), (∀ e ∈ l, GoodE e) → IntsAre (l.map (·.2)) (l.map keyE) := by
  intro l
  induction l with
  | nil => intro _; exact .nil
  | cons e r ih =>
   intro h
   obtain ⟨k, tk, rfl⟩ := h e List.mem_cons_self
   exact .cons k tk (ih fun e he => h e (List.mem_cons_of_mem _ he))
 have szI : ∀ x : Obj, (s.heap.push x).objs.size = s.heap.objs.size + 1 := fun x => Heap.size_push ..
 refine iter_set ho hx hd hf (fun hm => ?_) (fun ps d hp => ?_) (fits_of_scanBound hb)
 ·have fr : ∀ {sl : Nat → Nat} (i : Nat) (h h' : Heap), (h.get? s.heap.objs.size = some (itO (rawInt (sl i)) i es.size ep a) ∧ h.get? a = some o) → (∀ b ∈ [s.heap.objs.size, a], ∀ o, h.get? b = some o → h'.get? b = some o) → (h'.get? s.heap.objs.size = some (itO (rawInt (sl i)) i es.size ep a) ∧ h'.get? a = some o) := fun i h h' st kp => ⟨kp _ (by simp) _ st.1, kp _ (by simp) _ st.2⟩
  have mk : ∀ (sl : Nat → Nat) (l : List (Int × Value)), sl 0 = 0 → l.Perm es.toList →
    (∀ (s1 : Shared) (i : Nat) (v : Value), (l.map (·.2))[i]? = some v → s1.heap.get? a = some o → ∀ (E' : Value → Shared → Prop) (Q' : Option (Value × Nat) → Shared → Prop), Q' (some (v, sl (i + 1))) s1 → wpAny (model prog w) A.in1 (setNext a (sl i) i ep) Q' E' s1) →
    (∀ (s1 : Shared), s1.heap.get? a = some o → ∀ (E' : Value → Shared → Prop) (Q' : Option (Value × Nat) → Shared → Prop), Q' none s1 → wpAny (model prog w) A.in1 (setNext a (sl l.length) l.length ep) Q' E' s1) →
    Q (.ref s.heap.objs.size) { s with heap := s.heap.push (itO (rawInt 0) 0 es.size ep a) } := by
   intro sl l h0 hp h1 h2
   refine q s.heap.objs.size [s.heap.objs.size, a] (l.map (·.2)) (l.map keyE) (fun i h => h.get? s.heap.objs.size = some (itO (rawInt (sl i)) i es.size ep a) ∧ h.get? a = some o) _ s.drawn (allI l fun e he => hg e (hp.mem_iff.mp he)) (by rw [← hk]; exact hp.map keyE) ⟨by simp, fr, fun i v s1 Q' E' hv st q' => ?_, fun s1 Q' E' st q' => ?_⟩
    ⟨by rw [h0]; exact Heap.get?_push_size _ rfl, Heap.get?_push_of_some _ ho⟩ (Nat.le_refl _) (fun b hb' => ?_) (fun b hb' => ?_) (fun b ob e => Heap.get?_push_of_some _ e)
   ·refine seti_item st.1 st.2 hd hf rfl (fun E' Q'' z => h1 s1 i v hv st.2 E' Q'' z) fun h' e' sb => q' h' ⟨e', ?_⟩ fun b ob hb' e => sb.extBut b ob hb' e
    exact sb.extBut a o (Nat.ne_of_lt la) st.2
   ·have st2 := st
    rw [List.length_map] at st2
    exact seti_end hh st2.1 st2.2 hd hf rfl (fun E' Q'' z => h2 s1 st2.2 E' Q'' z) fun h' eb => q' h' fun b ob hb' e => eb b ob hb' e
   ·rw [szI]
    rcases List.mem_cons.mp hb' with z | z
    ·rw [z]; exact Nat.lt_succ_self _
    ·rw [List.mem_singleton.mp z]; exact Nat.lt_succ_of_lt la
   ·rcases List.mem_cons.mp hb' with z | z
    ·exact .inl (by rw [z]; exact Nat.le_refl _)
    ·exact .inr (List.mem_singleton.mp z)
  cases hT : w.params.followText "set-order" with
  | true =>
   refine mk (fun _ => 0) (pickOrder (w.params.setOrder a ep) es).toList rfl (pick_perm _ _) (fun s1 i v hv e1 E' Q' z => ?_) (fun s1 e1 E' Q' z => ?_)
   ·refine next_text e1 hd hf hT ?_
    rw [List.getElem?_map] at hv
    cases he : (pickOrder (w.params.setOrder a ep) es).toList[i]? with
    | none => rw [he] at hv; cases hv
    | some x =>
     rw [he] at hv
     have he' : (pickOrder (w.params.setOrder a ep) es)[i]? = some x := by rw [← Array.getElem?_toList]; exact he
     rw [he']
     cases hv
     exact z
   ·refine next_text e1 hd hf hT ?_
    have he' : (pickOrder (w.params.setOrder a ep) es)[(pickOrder (w.params.setOrder a ep) es).toList.length]? = none := by rw [← Array.getElem?_toList]; exact List.getElem?_eq_none (Nat.le_refl _)
    rw [he']
    exact z
  | false =>
   have hp : (!t.plain && decide (es.size > 1)) = false := by
    rcases hm with z | z
    ·rw [hT] at z; cases z
    ·exact z
   have hl : t.led = true := by rw [T.led]; unfold ledW; rw [hT]; rfl
   have psz : t.place.size = es.size := by
    have := hf
    simp only [SetTable.fits, Bool.and_eq_true, beq_iff_eq] at this
    exact this.1
   refine mk (slotAt t.place) es.toList rfl (List.Perm.refl _) (fun s1 i v hv e1 E' Q' z => ?_) (fun s1 e1 E' Q' z => ?_)
   ·refine next_led e1 hd hf hT hl hp ?_
    rw [List.getElem?_map] at hv
    cases he : es.toList[i]? with
    | none => rw [he] at hv; cases hv
    | some x =>
     rw [he] at hv
     have hi : i < es.size := by
      have := (List.getElem?_eq_some_iff.mp he).1
      rw [Array.length_toList] at this
      exact this
     have he' : es[i]? = some x := by rw [← Array.getElem?_toList]; exact he
     rw [slotAt_below T.up (by omega), he', Array.getElem?_eq_getElem (by omega)]
     cases hv
     have e2 : slotAt t.place (i + 1) = t.place[i] + 1 := by
      unfold slotAt
      rw [if_neg (Nat.succ_ne_zero _), Nat.add_sub_cancel, Array.getD_eq_getD_getElem?, Array.getElem?_eq_getElem (by omega)]
      rfl
     rw [e2] at z
     exact z
   ·refine next_led e1 hd hf hT hl hp ?_
    rw [Array.length_toList, slotAt_below T.up (by omega)]
    have he' : es[es.size]? = none := Array.getElem?_eq_none (Nat.le_refl _)
    rw [he']
    exact z
 ·have psl : ps.length = es.size := by rw [hp.length_eq, List.length_range]
  have at_ : ∀ {i p : Nat}, ps[i]? = some p → p < es.size := fun h => List.mem_range.mp (hp.mem_iff.mp (List.mem_of_getElem? h))
  have lsp : (ps.filterMap fun p => es[p]?).Perm es.toList := (hp.filterMap _).trans (by rw [filterMap_getElem?_range])
  have lat : ∀ (i : Nat), (ps.filterMap fun p => es[p]?)[i]? = (ps[i]?).bind fun p => es[p]? := by
   have key : ∀ (ps : List Nat), (∀ p ∈ ps, p < es.size) → ∀ i : Nat, (ps.filterMap fun p => es[p]?)[i]? = (ps[i]?).bind fun p => es[p]? := by
    intro ps
    induction ps with
    | nil => intro _ i; rfl
    | cons p r ih =>
     intro h i
     have hpl := h p List.mem_cons_self
     rw [List.filterMap_cons, Array.getElem?_eq_getElem hpl]
     cases i with
     | zero => show some es[p] = es[p]?; rw [Array.getElem?_eq_getElem hpl]
     | succ i => exact ih (fun x hx => h x (List.mem_cons_of_mem _ hx)) i
   exact key ps fun p h => List.mem_range.mp (hp.mem_iff.mp h)
  have tl : (s.heap.push { cls := .type "tuple", data := .seq (ps.map fun p : Nat => rawInt p).toArray }).get? s.heap.objs.size = some { cls := .type "tuple", data := .seq (ps.map fun p : Nat => rawInt p).toArray } := Heap.get?_push_size _ rfl
  refine q (s.heap.objs.size + 1) [s.heap.objs.size + 1, s.heap.objs.size, a] ((ps.filterMap fun p => es[p]?).map (·.2)) ((ps.filterMap fun p => es[p]?).map keyE)
   (fun i h => h.get? (s.heap.objs.size + 1) = some (itO (.ref s.heap.objs.size) i es.size ep a) ∧ h.get? s.heap.objs.size = some { cls := .type "tuple", data := .seq (ps.map fun p : Nat => rawInt p).toArray } ∧ h.get? a = some o) _ d
   (allI _ fun e he => hg e (lsp.mem_iff.mp he)) (by rw [← hk]; exact lsp.map keyE) ⟨by simp, fun i h h' st kp => ⟨kp _ (by simp) _ st.1, kp _ (by simp) _ st.2.1, kp _ (by simp) _ st.2.2⟩, fun i v s1 Q' E' hv st q' => ?_, fun s1 Q' E' st q' => ?_⟩
   ⟨by rw [← szI { cls := .type "tuple", data := .seq (ps.map fun p : Nat => rawInt p).toArray }]; exact Heap.get?_push_size _ rfl, Heap.get?_push_of_some _ tl, Heap.get?_push_of_some _ (Heap.get?_push_of_some _ ho)⟩ (Nat.le_succ _) (fun b hb' => ?_) (fun b hb' => ?_) (fun b ob e => Heap.get?_push_of_some _ (Heap.get?_push_of_some _ e))
  ·rw [List.getElem?_map, lat i] at hv
   cases hpi : ps[i]? with
   | none => rw [hpi] at hv; cases hv
   | some p =>
    rw [hpi] at hv
    have hv' : (es[p]?).map (·.2) = some v := hv
    rw [Array.getElem?_eq_getElem (at_ hpi)] at hv'
    cases hv'
    refine setd_item st.1 ⟨_, st.2.1, rfl, 0, rfl⟩ st.2.2 hd hf rfl hpi (Array.getElem?_eq_getElem (at_ hpi)) fun h' e' sb => q' h' ⟨e', ?_, ?_⟩ fun b ob hb' e => sb.extBut b ob hb' e
    ·exact sb.extBut _ _ (Nat.ne_of_lt (Nat.lt_succ_self _)) st.2.1
    ·exact sb.extBut a o (Nat.ne_of_lt (Nat.lt_succ_of_lt la)) st.2.2
  ·have ln : ((ps.filterMap fun p => es[p]?).map (·.2)).length = ps.length := by rw [List.length_map, lsp.length_eq, Array.length_toList, psl]
   have st2 := st
   rw [ln] at st2
   exact setd_end hh st2.1 ⟨_, st2.2.1, rfl, 0, rfl⟩ st2.2.2 hd hf rfl (List.getElem?_eq_none (Nat.le_refl _)) fun h' eb => q' h' fun b ob hb' e => eb b ob hb' e
  ·rw [Heap.size_push, szI]
   rcases List.mem_cons.mp hb' with z | z
   ·rw [z]; exact Nat.lt_succ_self _
   ·rcases List.mem_cons.mp z with z | z
    ·rw [z]; exact Nat.lt_succ_of_lt (Nat.lt_succ_self _)
    ·rw [List.mem_singleton.mp z]; exact Nat.lt_succ_of_lt (Nat.lt_succ_of_lt la)
  ·rcases List.mem_cons.mp hb' with z | z
   ·exact .inl (by rw [z]; exact Nat.le_succ _)
   ·rcases List.mem_cons.mp z with z | z
    ·exact .inl (by rw [z]; exact Nat.le_refl _)
    ·exact .inr (List.mem_singleton.mp z)
end
end HT
namespace HT
open PySem PyProof.Rows
section
variable {prog : Program} {w : World} {A : Around} {E : Value → Shared → Prop} {s : Shared} {a : Addr}
theorem collect_set {ks : List Int} {R : List Value → Shared → Prop} (hh : A.handled = none) (hS : SetI s.heap a ks (ledW w)) (hz : ks.length ≤ sizeLine)
  (q : ∀ (vs : List Value) (ks' : List Int) (h' : Heap) (d : Drawn), IntsAre vs ks' → ks'.Perm ks → (∀ b o, s.heap.get? b = some o → h'.get? b = some o) → R vs { s with heap := h', drawn := d }) : wpAny (model prog w) A (collect (.ref a)) R E s := by
 have la : a < s.heap.objs.size := by obtain ⟨o, _, _, _, ho, _⟩ := hS; exact Heap.lt_size ho
 unfold collect
 refine wpAny_bind (wpAny_runValue (codeAny_builtin F.entry_proto_collect ?_))
 rw [Around.under_plainId F.plain_proto_collect _]
 refine wpAny_bind (m := newList []) (wpAny_newObj_type ?_)
 refine wpAny_pure ⟨plainId_quiet F.plain_list_iadd _, codeAny_builtin F.entry_list_iadd ?_⟩
 rw [Around.under_plainId F.plain_list_iadd _]
 have e1 : (s.heap.push { cls := .type "list", data := .seq ([] : List Value).toArray }).get? s.heap.objs.size = some { cls := .type "list", dict := none, data := .seq #[] 0, slots := #[] } := Heap.get?_push_size _ rfl
 have sz1 : (s.heap.push { cls := .type "list", data := .seq ([] : List Value).toArray }).objs.size = s.heap.objs.size + 1 := Heap.size_push ..
 have hS1 : SetI (s.heap.push { cls := .type "list", data := .seq ([] : List Value).toArray }) a ks (ledW w) := by
  obtain ⟨o, es, ep, t, ho, r⟩ := hS
  exact ⟨o, es, ep, t, Heap.get?_push_of_some _ ho, r⟩
 have ty : Shared.TypeIs { s with heap := s.heap.push { cls := .type "list", data := .seq ([] : List Value).toArray } } (.ref a) "set" := by
  obtain ⟨o, es, ep, t, ho, hx, _⟩ := hS1
  exact ⟨o, ho, hx.1⟩
 change wpAny _ A.in1 (Builtin.List.listExtendWith (.ref s.heap.objs.size) (.ref a) (.ref s.heap.objs.size)) _ _ _
 unfold Builtin.List.listExtendWith
 refine wpAny_bind (wpAny_typeOf ty ?_)
 have c1 : Builtin.List.listSameRef (.ref s.heap.objs.size) (.ref a) = false := by simp [Builtin.List.listSameRef, Nat.ne_of_gt la]
 have c2 : (Value.type "set" == Value.type "list") = false := by decide
 have c3 : (Value.type "set" == Value.type "tuple") = false := by decide
 simp only [c1, c2, c3, Bool.or_false, Bool.false_eq_true, if_false]
 refine wpAny_bind (set_walk (A := A.in1) (s := { s with heap := s.heap.push { cls := .type "list", data := .seq ([] : List Value).toArray } }) hh hS1 fun I fp vs ks' St h2 d hi hp W st hI hlt hfp kp => ?_)
 have e2 := kp _ _ e1
 have nS : s.heap.objs.size ∉ fp := fun z => by
  rcases hfp _ z with y | y
  ·have y' : s.heap.objs.size + 1 ≤ s.heap.objs.size := by rw [← sz1]; exact y
   exact absurd y' (Nat.not_succ_le_self _)
  ·exact absurd y (Nat.ne_of_gt la)
 have hvl : vs.length ≤ sizeLine := by rw [hi.length, hp.length_eq]; exact hz
 have ty2 : Shared.TypeIs { s with heap := h2, drawn := d } (.ref a) "set" := by
  obtain ⟨o, es, ep, t, ho, hx, _⟩ := hS1
  exact ⟨o, kp _ _ ho, hx.1⟩
 have fin : ∀ (h3 : Heap) (c : Nat), St 0 h3 → h3.get? s.heap.objs.size = some { cls := .type "list", dict := none, data := .seq #[] c, slots := #[] } → (∀ b o, b ≠ s.heap.objs.size → h2.get? b = some o → h3.get? b = some o) →
   codeAny (model prog w) A (.builtin "list.extend.loop" ⟨[.ref s.heap.objs.size, .ref I, .ref s.heap.objs.size], []⟩) (fun r s' => match r with | .ok (.ret v) => wpAny (model prog w) A (match v with | .ref a => (do match (← load a).data with | .seq xs _ => pure xs.toList | _ => unsupported "internal:collect") | _ => unsupported "internal:collect") R E s' | .ok _ => False | .error e => E e s') { s with heap := h3, drawn := d } := by
  intro h3 c st3 e3 k3
  refine ext_loop W nS hvl vs.length 0 _ #[] c (Nat.zero_add _) st3 e3 rfl fun h' acc c' ha e' k' => ?_
  refine wpAny_bind (wpAny_load e' (wpAny_pure ?_))
  rw [ha]
  refine q vs ks' h' d hi hp fun b o hb => ?_
  have lb := Heap.lt_size hb
  have nb : b ≠ s.heap.objs.size := Nat.ne_of_lt lb
  have nI : b ≠ I := fun z => by
   have y : s.heap.objs.size + 1 ≤ I := by rw [← sz1]; exact hI
   rw [← z] at y
   exact absurd (Nat.lt_of_lt_of_le (Nat.lt_succ_self _) y) (Nat.lt_asymm lb)
  exact k' b o nI nb (k3 b o nb (kp b o (Heap.get?_push_of_some _ hb)))
 refine wpAny_bind (wpAny_holding (set_hint ty2 ?_))
 refine wpAny_ite_split (fun _ => ?_) (fun _ => wpAny_pure ⟨plainId_quiet F.plain_extend_loop _, fin h2 0 st e2 fun b o _ e => e⟩)
 refine wpAny_bind (wpAny_rule ?_)
 refine wpAny_bind ?_
 change wpAny _ _ (updateSeq s.heap.objs.size (·.push .none) >>= fun _ => updateSeq s.heap.objs.size (·.pop)) _ _ _
 refine wpAny_bind (wpAny_updateSeq e2 rfl ?_)
 have e3 := Heap.get?_update_self (Obj.mapSeq (·.push Value.none)) e2 rfl
 refine wpAny_updateSeq (hz := by seq_fits) e3 rfl ?_
 have e4 := Heap.get?_update_self (Obj.mapSeq (·.pop)) e3 rfl
 refine wpAny_pure ⟨plainId_quiet F.plain_extend_loop _, fin _ _ (W.frame 0 _ _ st fun b hb o e => ?_) e4 fun b o hb e => ?_⟩
 ·have nb : s.heap.objs.size ≠ b := fun z => nS (by rw [z]; exact hb)
  rw [Heap.get?_update_other _ _ nb, Heap.get?_update_other _ _ nb]; exact e
 ·rw [Heap.get?_update_other _ _ (Ne.symm hb), Heap.get?_update_other _ _ (Ne.symm hb)]; exact e
end
end HT
namespace L2
open PySem PySem.Spec PyProof.Rows
section
variable {X : Cx}
theorem sub_lenI : ∀ {xs ys : List Int}, xs.Nodup → (∀ x ∈ xs, x ∈ ys) → xs.length ≤ ys.length
 | [], _, _, _ => Nat.zero_le _
 | x :: xs, ys, nd, h => by
  obtain ⟨h1, nd'⟩ := List.nodup_cons.mp nd
  have hx := h x List.mem_cons_self
  have ih := sub_lenI (ys := ys.erase x) nd' fun y hy => (List.mem_erase_of_ne (fun e : y = x => h1 (e ▸ hy))).mpr (h y (List.mem_cons_of_mem _ hy))
  rw [List.length_erase_of_mem hx] at ih
  have : 0 < ys.length := List.length_pos_of_mem hx
  rw [List.length_cons]
  omega
def tSortSet (K : PySem.W.Frag) (te : TE) : TE := fun σ H Q => te σ H fun x H1 => ∃ (p : Addr) (ns : List Int), x = .ref p ∧ SqL K H1 p (ns.map V.int) ∧ ns.length < 64 ∧
 ∀ (l : Addr) (ys : List Int), H1 l = none → ys.Pairwise (· < ·) → (∀ y, y ∈ ys ↔ y ∈ ns) → Q (.ref l) (upd H1 l (.lst (ys.map V.int)))
theorem boot_set : bootBuiltins "set" = some (.type "set") := by decide +kernel
theorem pe_sortSet {e : Expr} {te : TE} {p1 p2 pos pos2 : Pos} (hcalm : X.calm = true) (hg1 : Gl X "sorted") (hm1 : X.mg "sorted" = none) (hg2 : Gl X "set") (hm2 : X.mg "set" = none) (he : PE X e te) (hs : starEach (e :: []) X.env = (false, eval e X.env) :: starEach [] X.env := by rfl)
  (hs2 : starEach ((.Call (.Name "set" p2) [e] [] pos2) :: []) X.env = (false, eval (.Call (.Name "set" p2) [e] [] pos2) X.env) :: starEach [] X.env := by rfl) :
  PE X (.Call (.Name "sorted" p1) [.Call (.Name "set" p2) [e] [] pos2] [] pos) (tSortSet X.K te) := by
 intro pins s σ H Q I h
 refine wpAny_Call_Name_kw (ld_blt I hg1 hm1 boot_sorted ?_)
 refine PyProof.Rows.callWith_builtin1 ?_ hs2 rfl
 rw [hs2]
 show wpAny _ _ (spliced ((false, eval (.Call (.Name "set" p2) [e] [] pos2) X.env) :: backTo pos (starEach [] X.env))) _ _ s
 refine Calls.spliced_cons ?_
 refine wpAny_Call_Name_kw (ld_blt I hg2 hm2 boot_set ?_)
 refine PyProof.Rows.callWith_type1 ?_ hs rfl
 rw [hs]
 show wpAny _ _ (spliced ((false, eval e X.env) :: backTo pos2 (starEach [] X.env))) _ _ s
 refine Calls.spliced_cons (thn (he pins s σ H _ I h) fun u s1 ⟨x, H1, I1, r1, q1⟩ => Calls.spliced_nil ?_)
 obtain ⟨p, ns, rfl, hq, h64, q⟩ := q1
 cases r1
 obtain ⟨its, rv, pl, hz⟩ := I1.list hq
 have hi := vals_intsAre rv
 have hlen : its.length = ns.length := hi.length
 refine HT.call_setI (I1.ok.hd hcalm) pl.isList (by simpa using hi) (fun ks nd m => by have := sub_lenI nd m; unfold scanBound; omega) fun h2 tk ks S m kp => Calls.spliced_nil ?_
 have ks64 : ks.length < 64 := by
  obtain ⟨_, _, _, _, _, _, _, _, _, nd, _⟩ := S
  exact Nat.lt_of_le_of_lt (sub_lenI nd fun x hx => (m x).mp hx) h64
 have I2 : Inv X pins σ H1 { s1 with heap := h2, toks := tk } := I1.kept fun b o e => kp b o (Heap.lt_size e) e
 refine Calls.call_function_entry kind_sorted plain_sorted entry_sorted (args_sorted1 _) ?_
 unfold Builtin.«sorted»
 refine wpAny_bind (m := checkCount "sorted" 1 1 _) (wpAny_pure ?_)
 refine wpAny_bind (HT.collect_set (I2.ok.hd hcalm) S (Nat.le_trans (Nat.le_of_lt ks64) (by decide)) fun vs ks' h3 d hv hp k3 => ?_)
 have I3 : Inv X pins σ H1 { s1 with heap := h3, toks := tk, drawn := d } := by
  have I3' : Inv X pins σ H1 { s1 with heap := h3, toks := tk } := I2.kept (t' := tk) k3
  exact ⟨I3'.ok, I3'.os, I3'.bare, I3'.base, I3'.loc, I3'.cell, I3'.free, I3'.freeC, I3'.pin, I3'.hok, I3'.len⟩
 have lv : vs.length = ks.length := by rw [hv.length, hp.length_eq]
 refine wpAny_bind (wpAny_newList ?_ (by rw [lv]; exact Nat.le_trans (Nat.le_of_lt ks64) (by decide)))
 have oL : (h3.push (seqObj "list" vs.toArray 0)).get? h3.objs.size = some (seqObj "list" vs.toArray 0) := Heap.get?_push_size _ rfl
 refine wpAny_bind (wpAny_holding (wpAny_call_entry slot_list_sort ⟨_, oL, rfl⟩ entry_list_sort (list_sort_tree oL hv (by rw [lv]; exact ks64) fun out ys a1 a2 a3 => ⟨_, rfl, ?_⟩) (args_list_sort _)))
 obtain ⟨ee, he'⟩ := sortedHeap_at (out := out) oL
 have sz : (h3.push (seqObj "list" vs.toArray 0)).objs.size = h3.objs.size + 1 := Heap.size_push ..
 have up : ys.Pairwise (· < ·) := by
  have nd : ys.Nodup := by
   obtain ⟨_, _, _, _, _, _, _, _, _, nd, _⟩ := S
   exact (a2.trans hp).nodup_iff.mpr nd
  refine List.Pairwise.imp₂ (fun a b h1 h2 => ?_) a3 nd
  rcases Int.lt_or_eq_of_le h1 with z | z
  ·exact z
  ·exact absurd z h2
 refine wpAny_pure ⟨_, rfl, .ref h3.objs.size, _, I3.laid (t' := tk) (fun b o eb => ?_) (Nat.le_refl _) (show ObjOk X.prog X.w _ _ _ (.lst (ys.map V.int)) from ⟨?_, out.toList, ee, intsAre_vals a1, by simpa using he'⟩), rfl, q _ ys (I3.hok.fresh (Nat.le_refl _)) up fun y => ?_⟩
 ·have hb : b < h3.objs.size := Heap.lt_size eb
  exact (sortedHeap_old (Nat.ne_of_lt hb) (by rw [sz]; exact Nat.lt_succ_of_lt hb)).trans (Heap.get?_push_of_some _ eb)
 ·rw [List.length_map, a2.length_eq, hp.length_eq]
  exact Nat.le_trans (Nat.le_of_lt ks64) (by decide)
 ·rw [(a2.trans hp).mem_iff, m y]
end
end L2
namespace L2
open PySem PySem.Spec PyProof.Rows
theorem lg2 {i : Int} (h : i.natAbs < 10 ^ 30) : i.natAbs.log2 < 1920 := by
 by_cases z : i.natAbs = 0
 ·rw [z]; decide
 ·exact (Nat.log2_lt z).mpr (Nat.lt_trans h (Nat.lt_of_lt_of_le (show 10 ^ 30 < 2 ^ 100 by decide) (Nat.pow_le_pow_right (by decide) (by decide))))
def numT (i : Int) : Str := Str.ofString (toString i)
theorem call_strI {X : Cx} : CallR X (.type "str") (fun vs H Q => ∃ i : Int, vs = [.int i] ∧ i.natAbs < 10 ^ 30 ∧ Q (.str (numT i)) H) := by
 intro pins s σ H vs us Q I r ⟨i, e, h, q⟩
 subst e
 cases r with
 | cons r1 r2 =>
  cases r2
  obtain ⟨t, rfl⟩ := r1
  exact PySem.P.str_of_int (lg2 h) ⟨.str (numT i), H, I.tok _, ⟨_, rfl⟩, q⟩
theorem numT_len {i : Int} (h : i.natAbs < 10 ^ 30) : (numT i).length ≤ 31 := by
 have q := int_text_length_le10 (k := 30) (by decide) h
 have q2 : (Str.ofString (toString i)).length = (toString i).length := PySem.ofString_length _
 show (Str.ofString (toString i)).length ≤ 31
 omega
theorem numT_free (i : Int) {k : Nat} (hk : k ≠ 45 ∧ (k < 48 ∨ 57 < k)) : k ∉ (numT i).cps.toList := int_text_free' k hk i
theorem numT_nat (n : Nat) : (numT (n : Int)).cps.toList = (Nat.toDigits 10 n).map Char.toNat := by
 show (Str.ofString (toString (n : Int))).cps.toList = _
 rw [PySem.Str.ofString_eq_toList]
 have e : (toString (n : Int)).toList = Nat.toDigits 10 n := by
  show (Nat.repr n).toList = _
  exact Nat.toList_repr
 rw [e]
theorem str_ext {x y : Str} (h : x.cps.toList = y.cps.toList) : x = y := by
 cases x; cases y
 exact congrArg Str.mk (Array.toList_inj.mp h)
def rowT (zs : List Int) : Str := Txt.join (Str.ofString " ") (zs.map numT)
theorem rowT_eq (zs : List Int) : rowT zs = Str.join (Str.ofString " ") (zs.map numT) := StrLaws.glued_eq_join _ _
theorem blank : (Str.ofString " ").cps.toList = [32] := by decide
theorem rowT_cons (x y : Int) (r : List Int) : (rowT (x :: y :: r)).cps.toList = (numT x).cps.toList ++ 32 :: (rowT (y :: r)).cps.toList := by
 rw [rowT_eq, rowT_eq]
 show ((numT x).cps ++ (Str.ofString " ").cps ++ (Str.join (Str.ofString " ") ((y :: r).map numT)).cps).toList = _
 rw [Array.toList_append, Array.toList_append, blank, List.append_assoc]
 rfl
theorem rowT_one (x : Int) : (rowT [x]).cps.toList = (numT x).cps.toList := by rw [rowT_eq]; rfl
theorem rowT_fits {zs : List Int} (h : ∀ x ∈ zs, x.natAbs < 10 ^ 30) (l : zs.length ≤ 100) : JoinOk (Str.ofString " ") (zs.map numT) = true := by
 refine joinOk_of_weight ?_ (by decide)
 have : ((zs.map numT).map (·.length)).sum ≤ 31 * zs.length := by
  clear l
  induction zs with
  | nil => exact Nat.le_refl _
  | cons x r ih =>
   have h1 := ih fun z hz => h z (List.mem_cons_of_mem _ hz)
   have h2 := numT_len (h x List.mem_cons_self)
   simp only [List.map_cons, List.sum_cons, List.length_cons]
   omega
 rw [List.length_map]
 omega
section
variable {X : Cx}
end
end L2
namespace L2
open PySem PySem.Spec PyProof.Rows
section
variable {X : Cx}
theorem part_of {v : Value} {lo : Option Int} (h : IsPart v lo) : ∃ l : Option (Int × Tok), v = partValue l ∧ l.map (·.1) = lo := by
 cases h with
 | none => exact ⟨none, rfl, rfl⟩
 | int i t => exact ⟨some (i, t), rfl, rfl⟩
theorem sl_str : SlR X (fun x lo hi H Q => ∃ z : Str, x = .str z ∧ z.length ≤ sizeLine ∧ Q (.str (Txt.slice z lo hi)) H) := by
 intro pins s σ H x v vl vu lo hi sl Q I rx hs pl pu h
 obtain ⟨z, rfl, hz, q⟩ := h
 obtain ⟨t, rfl⟩ := rx
 refine ⟨"str", _, F.slot_str_getitem.lookup, typeIs_str s z t, ?_⟩
 obtain ⟨l, rfl, el⟩ := part_of pl
 obtain ⟨u, rfl, eu⟩ := part_of pu
 refine wpAny_getItem_str_slice (l := l) (u := u) (st := none) hs rfl ?_
 subst el eu
 exact PySem.post_val_or_str ⟨Nat.le_trans (Txt.slice_le z _ _) hz, fun t' k => ⟨.str _, H, I.tok k, ⟨_, rfl⟩, q⟩⟩
theorem vals_strs : ∀ {ws : List Str} {us : List Value}, Vals (ws.map V.str) us → ∃ l : List (Str × Tok), us = strValues l ∧ l.map (·.1) = ws
 | [], _, .nil => ⟨[], rfl, rfl⟩
 | w :: ws, _, .cons r rs => by
  obtain ⟨t, rfl⟩ := r
  obtain ⟨l, rfl, e⟩ := vals_strs rs
  exact ⟨(w, t) :: l, rfl, by rw [List.map_cons, e]⟩
theorem mt_join : MtR X "str.join" (fun x xs H Q => ∃ (z : Str) (D : Addr) (ws : List Str), x = .str z ∧ xs = [.ref D] ∧ SqL X.K H D (ws.map V.str) ∧ JoinOk z ws = true ∧ Q (.str (Txt.join z ws)) H) := by
 intro pins s σ H x xs v us Q I rx rs h
 obtain ⟨z, D, ws, rfl, rfl, hD, hj, q⟩ := h
 obtain ⟨t, rfl⟩ := rx
 obtain ⟨u, rfl, ru⟩ := rs.one
 cases ru
 obtain ⟨its, r, ht, _⟩ := I.list hD
 obtain ⟨l, rfl, e⟩ := vals_strs r
 exact SC.join ht.isList e hj fun t' k => ⟨.str _, H, I.tok k, ⟨_, rfl⟩, q⟩
end
end L2
namespace L2
open PySem PySem.Spec PyProof.Rows
section
variable {X : Cx}
end
end L2
namespace L2
open PySem PySem.Spec PyProof.Rows
section
variable {X : Cx}
def sgn (c : Nat) : Str := ⟨#[c]⟩
theorem op_inS : OpR X (compareOp .In) (fun x y H Q => ∃ (z : Str) (c : Nat), x = .str (sgn c) ∧ y = .str z ∧ Q (.bl (decide (c ∈ z.cps.toList))) H) := by
 intro pins s σ H x y v u Q I rx ry ⟨z, c, e1, e2, q⟩
 subst e1 e2
 obtain ⟨t, rfl⟩ := rx
 obtain ⟨t2, rfl⟩ := ry
 refine P.in_str (x := z) (y := sgn c) ?_
 have e := StrLaws.found_one z c
 refine ⟨.bl (decide (c ∈ z.cps.toList)), H, I, ?_, q⟩
 rw [← e]
 rfl
theorem op_notInS : OpR X (compareOp .NotIn) (fun x y H Q => ∃ (z : Str) (c : Nat), x = .str (sgn c) ∧ y = .str z ∧ Q (.bl (!decide (c ∈ z.cps.toList))) H) := by
 intro pins s σ H x y v u Q I rx ry ⟨z, c, e1, e2, q⟩
 subst e1 e2
 obtain ⟨t, rfl⟩ := rx
 obtain ⟨t2, rfl⟩ := ry
 refine P.notIn_str (x := z) (y := sgn c) ?_
 have e := StrLaws.found_one z c
 refine ⟨.bl (!decide (c ∈ z.cps.toList)), H, I, ?_, q⟩
 rw [← e]
 rfl
theorem starts_one (z : Str) (c : Nat) : Txt.startswith z (sgn c) = decide (z.cps.toList[0]? = some c) := by
 rw [Bool.eq_iff_iff, decide_eq_true_eq, ← StrLaws.subAt_one]
 unfold Txt.startswith
 rw [Bool.and_eq_true, decide_eq_true_eq]
 exact Iff.rfl
theorem mt_starts : MtR X "str.startswith" (fun x xs H Q => ∃ (z : Str) (c : Nat), x = .str z ∧ xs = [.str (sgn c)] ∧ Q (.bl (decide (z.cps.toList[0]? = some c))) H) := by
 intro pins s σ H x xs v us Q I rx rs h
 obtain ⟨z, c, rfl, rfl, q⟩ := h
 obtain ⟨t, rfl⟩ := rx
 obtain ⟨u, rfl, ru⟩ := rs.one
 obtain ⟨t2, rfl⟩ := ru
 rw [← starts_one] at q
 exact SC.startswith ⟨.bl _, H, I, rfl, q⟩
theorem strs_vals : ∀ l : List (Str × Tok), Vals ((l.map (·.1)).map V.str) (strValues l)
 | [] => .nil
 | p :: l => .cons ⟨p.2, rfl⟩ (strs_vals l)
theorem strs_new {pins : List (Addr × Obj)} {σ : St} {H : Hp} {s : Shared} {Q : VK} {ws : List Str} (I : Inv X pins σ H s) (hw : ws.length ≤ sizeLine) (q : ∀ D, H D = none → Q (.ref D) (upd H D (.lst (ws.map V.str)))) (l : List (Str × Tok)) (tk : Nat) (e : l.map (·.1) = ws) :
  EP X pins σ Q (.ref s.heap.objs.size) { s with heap := s.heap.push { cls := .type "list", data := .seq (strValues l).toArray }, toks := tk } :=
 ⟨.ref s.heap.objs.size, _, I.laid (t' := tk) (fun b o e => Heap.get?_push_of_some _ e) (Nat.le_refl _) (show ObjOk X.prog X.w _ _ _ (.lst (ws.map V.str)) from ⟨by rw [List.length_map]; exact hw, strValues l, _, by rw [← e]; exact strs_vals l, Heap.get?_push_size _ rfl⟩), rfl, q _ (I.hok.fresh (Nat.le_refl _))⟩
theorem split_few {z : Str} {c : Nat} (h : z.length + 2 ≤ sizeLine) : (Txt.split z (sgn c)).length ≤ sizeLine ∧ (Builtin.Str.partsBetween z (Builtin.Str.occurrences z (sgn c) 0 z.length (z.length + 1)) (sgn c).length).length ≤ sizeLine := by
 have e1 := StrLaws.occ_length_le_len z (sgn c) 0 z.length (z.length + 1)
 have e2 : (Builtin.Str.partsBetween z (Builtin.Str.occurrences z (sgn c) 0 z.length (z.length + 1)) (sgn c).length).length ≤ sizeLine := by rw [length_partsBetween]; omega
 refine ⟨?_, e2⟩
 unfold Txt.split
 split
 ·exact Nat.le_trans (show 1 ≤ z.length + 2 by omega) h
 ·split
  ·exact Nat.le_trans (show 1 ≤ z.length + 2 by omega) h
  ·exact e2
theorem mt_split : MtM X "str.split" (fun x vs H Q => ∃ (z : Str) (c : Nat), x = .str z ∧ vs = [.str (sgn c)] ∧ z.length + 2 ≤ sizeLine ∧ ∀ D, H D = none → Q (.ref D) (upd H D (.lst ((Txt.split z (sgn c)).map V.str)))) := by
 intro pins s σ H x vs v us Q I rx rv h
 obtain ⟨z, c, rfl, rfl, hz, q⟩ := h
 obtain ⟨t, rfl⟩ := rx
 obtain ⟨u, rfl, ru⟩ := rv.one
 obtain ⟨t2, rfl⟩ := ru
 obtain ⟨f1, f2⟩ := split_few (c := c) hz
 have hy : ((sgn c).length == 0) = false := rfl
 cases h1 : (decide (z.length < (sgn c).length) || decide (Builtin.Str.strKind z < Builtin.Str.strKind (sgn c)))
 ·cases h2 : (Builtin.Str.occurrences z (sgn c) 0 z.length (z.length + 1)).isEmpty
  ·refine call_meets F.slot_str_split (typeIs_str _ _ _) F.entry_str_split (F.args_str_split_2 _ _) (meets_str_split_sep z (sgn c) t t2 h1 hy h2 (by omega) f2) ?_
   have := strs_new I f1 q (numbered s.toks (Builtin.Str.partsBetween z (Builtin.Str.occurrences z (sgn c) 0 z.length (z.length + 1)) (sgn c).length)) (s.toks + (Builtin.Str.partsBetween z (Builtin.Str.occurrences z (sgn c) 0 z.length (z.length + 1)) (sgn c).length).length) ((numbered_texts _ _).trans ((if_neg (ne_true_of_eq_false h1)).trans (if_neg (ne_true_of_eq_false h2))).symm)
   rw [← strsFrom_eq] at this
   exact this
  ·exact call_meets F.slot_str_split (typeIs_str _ _ _) F.entry_str_split (F.args_str_split_2 _ _) (meets_str_split_not_found z (sgn c) t t2 h1 hy h2) (strs_new I f1 q [(z, t)] s.toks ((if_neg (ne_true_of_eq_false h1)).trans (if_pos h2)).symm)
 ·exact call_meets F.slot_str_split (typeIs_str _ _ _) F.entry_str_split (F.args_str_split_2 _ _) (meets_str_split_cannot_occur z (sgn c) t t2 h1) (strs_new I f1 q [(z, t)] s.toks (if_pos h1).symm)
theorem splitM_few {z : Str} {c : Nat} (h : z.length + 2 ≤ sizeLine) : (Txt.splitMax z (sgn c) 1).length ≤ sizeLine ∧ (Builtin.Str.partsBetween z (Builtin.Str.occurrences z (sgn c) 0 z.length (limitOf z 1)) (sgn c).length).length ≤ sizeLine := by
 have e1 := StrLaws.occ_length_le_len z (sgn c) 0 z.length (limitOf z 1)
 have e2 : (Builtin.Str.partsBetween z (Builtin.Str.occurrences z (sgn c) 0 z.length (limitOf z 1)) (sgn c).length).length ≤ sizeLine := by rw [length_partsBetween]; omega
 refine ⟨?_, e2⟩
 unfold Txt.splitMax
 split
 ·exact Nat.le_trans (show 1 ≤ z.length + 2 by omega) h
 ·split
  ·exact Nat.le_trans (show 1 ≤ z.length + 2 by omega) h
  ·exact e2
theorem mt_split1 : MtM X "str.split" (fun x vs H Q => ∃ (z : Str) (c : Nat), x = .str z ∧ vs = [.str (sgn c), .int 1] ∧ z.length + 2 ≤ sizeLine ∧ ∀ D, H D = none → Q (.ref D) (upd H D (.lst ((Txt.splitMax z (sgn c) 1).map V.str)))) := by
 intro pins s σ H x vs v us Q I rx rv h
 obtain ⟨z, c, rfl, rfl, hz, q⟩ := h
 obtain ⟨t, rfl⟩ := rx
 obtain ⟨u, u2, rfl, ru, ru2⟩ := rv.two
 obtain ⟨t2, rfl⟩ := ru
 obtain ⟨t3, rfl⟩ := ru2
 obtain ⟨f1, f2⟩ := splitM_few (c := c) hz
 have hy : ((sgn c).length == 0) = false := rfl
 have hk : (decide ((1 : Int) < -(2 ^ 63 : Int)) || decide ((1 : Int) ≥ 2 ^ 63)) = false := by decide
 cases h1 : (decide (z.length < (sgn c).length) || decide (Builtin.Str.strKind z < Builtin.Str.strKind (sgn c)))
 ·cases h2 : (Builtin.Str.occurrences z (sgn c) 0 z.length (limitOf z 1)).isEmpty
  ·refine call_meets F.slot_str_split (typeIs_str _ _ _) F.entry_str_split (F.args_str_split_3 _ _ _) (meets_str_split_sep_max z (sgn c) 1 t t2 t3 hk h1 hy h2 (by omega) f2) ?_
   have := strs_new I f1 q (numbered s.toks (Builtin.Str.partsBetween z (Builtin.Str.occurrences z (sgn c) 0 z.length (limitOf z 1)) (sgn c).length)) (s.toks + (Builtin.Str.partsBetween z (Builtin.Str.occurrences z (sgn c) 0 z.length (limitOf z 1)) (sgn c).length).length) ((numbered_texts _ _).trans ((if_neg (ne_true_of_eq_false h1)).trans (if_neg (ne_true_of_eq_false h2))).symm)
   rw [← strsFrom_eq] at this
   exact this
  ·exact call_meets F.slot_str_split (typeIs_str _ _ _) F.entry_str_split (F.args_str_split_3 _ _ _) (meets_str_split_max_not_found z (sgn c) 1 t t2 t3 hk h1 hy h2) (strs_new I f1 q [(z, t)] s.toks ((if_neg (ne_true_of_eq_false h1)).trans (if_pos h2)).symm)
 ·exact call_meets F.slot_str_split (typeIs_str _ _ _) F.entry_str_split (F.args_str_split_3 _ _ _) (meets_str_split_max_cannot_occur z (sgn c) 1 t t2 t3 hk h1) (strs_new I f1 q [(z, t)] s.toks (if_pos h1).symm)
theorem call_intS : CallR X (.type "int") (fun vs H Q => ∃ (z : Str) (n : Int), vs = [.str z] ∧ PySem.intText? z = some n ∧ z.length ≤ 640 ∧ Q (.int n) H) := by
 intro pins s σ H vs us Q I r ⟨z, n, e, h1, h2, q⟩
 subst e
 obtain ⟨u, rfl, ru⟩ := r.one
 obtain ⟨t, rfl⟩ := ru
 exact PySem.W.KIN.call_text h1 h2 ⟨.int n, H, I.tok _, ⟨_, rfl⟩, q⟩
end
def ItSg (x : Str) : It := ⟨fun i _ => i < x.cps.size, fun i H y H' => H' = H ∧ ∃ c, x.cps[i]? = some c ∧ y = .str ⟨#[c]⟩, fun i _ => i = x.cps.size⟩
theorem turn_strA {P : Program} {w : World} {K : PySem.W.Frag} {tg : Expr} (x : Str) (t : Tok) (it : Addr) : Turn P w K tg (ItSg x) [it] it (fun i h => h.IsStrIter it "str_ascii_iterator" x t i) where
 mem := List.mem_singleton.mpr rfl
 obj := fun i h st b hb => by
  cases List.mem_singleton.mp hb
  obtain ⟨o, e, c, d⟩ := st
  exact ⟨o, e, fun v z => by rw [d] at z; cases z⟩
 keep := fun i h h' st k => by
  obtain ⟨o, e, r⟩ := st
  exact ⟨o, k it (List.mem_singleton.mpr rfl) o e, r⟩
 item := by
  intro X hP hw hK hc i pins s σ H E I hf st hg
  subst hP hw hK
  obtain ⟨f0, f1, f2, f3, f4, f5⟩ := hf it (List.mem_singleton.mpr rfl)
  have hi : i < x.cps.size := hg
  refine (Walks.strAscii (prog := X.prog) (w := X.w) (A := X.A) (I.ok.hd hc) it x t).item i s _ E hi st fun v h' tk sa st' keep => ?_
  obtain ⟨c, u, hcx, rfl⟩ := sa
  have I1 : Inv X pins σ H { s with heap := h', toks := tk } := I.turned (t' := tk) (fun b o hb e => keep b o (fun z => hb (List.mem_singleton.mp z)) e) f0 f1 f3 f4 f5
  obtain ⟨o, e, c', d⟩ := id st'
  exact ⟨_, rfl, go_of (s := { s with heap := h', toks := tk }) e c' d (by decide) ⟨.str ⟨#[c]⟩, H, I1, ⟨_, rfl⟩, ⟨rfl, c, hcx, rfl⟩, st', fun b hb => (hf b hb).1⟩⟩
 done := by
  intro X hP hw hK hc i pins s σ H E I hf st hg
  subst hP hw hK
  obtain ⟨f0, f1, f2, f3, f4, f5⟩ := hf it (List.mem_singleton.mpr rfl)
  have hi : i = x.cps.size := hg
  subst hi
  refine (Walks.strAscii (prog := X.prog) (w := X.w) (A := X.A) (I.ok.hd hc) it x t).done s _ E st fun h' tk keep => ⟨rfl, ?_⟩
  exact I.turned (t' := tk) (fun b o hb e => keep b o (fun z => hb (List.mem_singleton.mp z)) e) f0 f1 f3 f4 f5
 self := fun A _ _ _ _ st h => wpAny_pyIter_striter_ascii st h
theorem turn_strW {P : Program} {w : World} {K : PySem.W.Frag} {tg : Expr} (x : Str) (t : Tok) (it : Addr) : Turn P w K tg (ItSg x) [it] it (fun i h => h.IsStrIter it "str_iterator" x t i) where
 mem := List.mem_singleton.mpr rfl
 obj := fun i h st b hb => by
  cases List.mem_singleton.mp hb
  obtain ⟨o, e, c, d⟩ := st
  exact ⟨o, e, fun v z => by rw [d] at z; cases z⟩
 keep := fun i h h' st k => by
  obtain ⟨o, e, r⟩ := st
  exact ⟨o, k it (List.mem_singleton.mpr rfl) o e, r⟩
 item := by
  intro X hP hw hK hc i pins s σ H E I hf st hg
  subst hP hw hK
  obtain ⟨f0, f1, f2, f3, f4, f5⟩ := hf it (List.mem_singleton.mpr rfl)
  have hi : i < x.cps.size := hg
  refine (Walks.strWide (prog := X.prog) (w := X.w) (A := X.A) (I.ok.hd hc) it x t).item i s _ E hi st fun v h' tk sa st' keep => ?_
  obtain ⟨c, u, hcx, rfl⟩ := sa
  have I1 : Inv X pins σ H { s with heap := h', toks := tk } := I.turned (t' := tk) (fun b o hb e => keep b o (fun z => hb (List.mem_singleton.mp z)) e) f0 f1 f3 f4 f5
  obtain ⟨o, e, c', d⟩ := id st'
  exact ⟨_, rfl, go_of (s := { s with heap := h', toks := tk }) e c' d (by decide) ⟨.str ⟨#[c]⟩, H, I1, ⟨_, rfl⟩, ⟨rfl, c, hcx, rfl⟩, st', fun b hb => (hf b hb).1⟩⟩
 done := by
  intro X hP hw hK hc i pins s σ H E I hf st hg
  subst hP hw hK
  obtain ⟨f0, f1, f2, f3, f4, f5⟩ := hf it (List.mem_singleton.mpr rfl)
  have hi : i = x.cps.size := hg
  subst hi
  refine (Walks.strWide (prog := X.prog) (w := X.w) (A := X.A) (I.ok.hd hc) it x t).done s _ E st fun h' tk keep => ⟨rfl, ?_⟩
  exact I.turned (t' := tk) (fun b o hb e => keep b o (fun z => hb (List.mem_singleton.mp z)) e) f0 f1 f3 f4 f5
 self := fun A _ _ _ _ st h => wpAny_pyIter_striter_wide st h
section
variable {X : Cx} {tg : Expr}
def iStr (tl : TE) : TI := fun σ H R => tl σ H fun x H1 => ∃ z, x = .str z ∧ R (ItSg z) H1
theorem pi_str {l : Expr} {tl : TE} (hl : PE X l tl) : PI X tg l (iStr tl) := by
 intro pins s σ H R I h
 refine thn (hl pins s σ H _ I h) fun v s1 ⟨x, H1, I1, r1, q1⟩ => ?_
 obtain ⟨z, rfl, q⟩ := q1
 obtain ⟨t, rfl⟩ := r1
 have fp : ∀ b ∈ [s1.heap.objs.size], FpOk X pins H1 b := fun b hb => by
  cases List.mem_singleton.mp hb
  exact I1.fpOk (Nat.le_refl _) (I1.hok.fresh (Nat.le_refl _))
 cases ha : z.cps.all (· < 128)
 ·exact wpAny_pyIter_wide ha ⟨s1.heap.objs.size, [s1.heap.objs.size], _, _, H1, rfl, I1.kept (t' := s1.toks) fun b o e => Heap.get?_push_of_some _ e, turn_strW z t _, ⟨_, Heap.get?_push_size _ rfl, rfl, rfl⟩, fp, q⟩
 ·exact wpAny_pyIter_ascii ha ⟨s1.heap.objs.size, [s1.heap.objs.size], _, _, H1, rfl, I1.kept (t' := s1.toks) fun b o e => Heap.get?_push_of_some _ e, turn_strA z t _, ⟨_, Heap.get?_push_size _ rfl, rfl, rfl⟩, fp, q⟩
end
theorem turns_str {x : Str} {tc : TT} {te : TE} {D : Addr} {Q : Hp → Prop} {σ : St} {H1 : Hp} (c : Nat → Bool) (v : Nat → V) (hD : H1 D = none) (hn : x.cps.size ≤ 1000)
  (ht : ∀ i H', i < x.cps.size → Same H1 H' → Tells tc (some (.str (sgn (x.cps.toList.getD i 0))) :: σ) H' (c i)) (he : ∀ i H', i < x.cps.size → c i = true → Same H1 H' → Gives te (some (.str (sgn (x.cps.toList.getD i 0))) :: σ) H' (v i))
  (hq : ∀ H', Same H1 H' → H' D = some (.lst (((List.range x.cps.size).filter c).map v)) → Q H') : tTurns (ItSg x) (gName 0) tc te D Q (none :: σ) (upd H1 D (.lst [])) := by
 refine turns_gen (fun i => .str (sgn (x.cps.toList.getD i 0))) c v hD hn (fun i H' _ h => h) (fun i H' y H2 _ h z => ⟨z.1, ?_⟩) (fun H' _ => rfl) ht he hq
 obtain ⟨_, d, e1, e2⟩ := z
 rw [e2, List.getD_eq_getElem?_getD, Array.getElem?_toList, e1]
 rfl
end L2
namespace L2
open PySem PySem.Spec PyProof.Rows
theorem numT_digits {n : Int} (h : 0 ≤ n) : NumText.AllDigits (numT n).cps.toList := by
 obtain ⟨m, rfl⟩ := Int.eq_ofNat_of_zero_le h
 rw [numT_nat]
 intro c hc
 obtain ⟨ch, hch, rfl⟩ := List.mem_map.mp hc
 exact digit_range (Nat.isDigit_of_mem_toDigits (by decide) (by decide) hch)
theorem glue_injC {c : Nat} {a b u v : List Nat} (ha : c ∉ a) (hb : c ∉ b) (h : a ++ c :: u = b ++ c :: v) : a = b ∧ u = v := by
 induction a generalizing b with
 | nil =>
  cases b with
  | nil => exact ⟨rfl, (List.cons.inj h).2⟩
  | cons y b => exact absurd (List.cons.inj h).1 fun z => hb (by rw [← z]; exact List.mem_cons_self)
 | cons x a ih =>
  cases b with
  | nil => exact absurd (List.cons.inj h).1 fun z => ha (by rw [z]; exact List.mem_cons_self)
  | cons y b =>
   obtain ⟨h1, h2⟩ := List.cons.inj h
   obtain ⟨h3, h4⟩ := ih (fun z => ha (List.mem_cons_of_mem _ z)) (fun z => hb (List.mem_cons_of_mem _ z)) h2
   exact ⟨by rw [h1, h3], h4⟩
theorem join_two (c : Nat) (x y : Str) (r : List Str) : (Str.join (sgn c) (x :: y :: r)).cps.toList = x.cps.toList ++ c :: (Str.join (sgn c) (y :: r)).cps.toList := by
 show (x.cps ++ (sgn c).cps ++ (Str.join (sgn c) (y :: r)).cps).toList = _
 rw [Array.toList_append, Array.toList_append, List.append_assoc]
 rfl
theorem join_injC {c : Nat} : ∀ {ws vs : List Str}, (∀ x ∈ ws, c ∉ x.cps.toList) → (∀ x ∈ vs, c ∉ x.cps.toList) → ws ≠ [] → vs ≠ [] → Str.join (sgn c) ws = Str.join (sgn c) vs → ws = vs
 | [], _, _, _, h, _, _ => absurd rfl h
 | _, [], _, _, _, h, _ => absurd rfl h
 | [x], [y], _, _, _, _, h => by rw [show x = y from h]
 | [x], y :: y2 :: r, hw, _, _, _, h => by
  have e := congrArg (fun z : Str => z.cps.toList) h
  have e : x.cps.toList = (Str.join (sgn c) (y :: y2 :: r)).cps.toList := e
  rw [join_two] at e
  refine absurd ?_ (hw x List.mem_cons_self)
  rw [e]
  exact List.mem_append_right _ List.mem_cons_self
 | x :: x2 :: r, [y], _, hv, _, _, h => by
  have e := congrArg (fun z : Str => z.cps.toList) h
  have e : (Str.join (sgn c) (x :: x2 :: r)).cps.toList = y.cps.toList := e
  rw [join_two] at e
  refine absurd ?_ (hv y List.mem_cons_self)
  rw [← e]
  exact List.mem_append_right _ List.mem_cons_self
 | x :: x2 :: r, y :: y2 :: q, hw, hv, _, _, h => by
  have e := congrArg (fun z : Str => z.cps.toList) h
  have e : (Str.join (sgn c) (x :: x2 :: r)).cps.toList = (Str.join (sgn c) (y :: y2 :: q)).cps.toList := e
  rw [join_two, join_two] at e
  obtain ⟨e1, e2⟩ := glue_injC (hw x List.mem_cons_self) (hv y List.mem_cons_self) e
  rw [str_ext e1, join_injC (fun z q => hw z (List.mem_cons_of_mem _ q)) (fun z q => hv z (List.mem_cons_of_mem _ q)) (fun z => nomatch z) (fun z => nomatch z) (str_ext e2)]
theorem split_ne (x : Str) (c : Nat) : Txt.split x (sgn c) ≠ [] := by
 unfold Txt.split
 split
 ·exact fun z => nomatch z
 ·split
  ·exact fun z => nomatch z
  ·rw [StrLaws.partsBetween_eq]
   obtain ⟨p, r, e⟩ := StrLaws.partsFrom_ne x (sgn c).length 0 (Builtin.Str.occurrences x (sgn c) 0 x.length (x.length + 1))
   rw [e]
   exact fun z => nomatch z
theorem split_join {c : Nat} {ws : List Str} (h : ∀ x ∈ ws, c ∉ x.cps.toList) (ne : ws ≠ []) : Txt.split (Str.join (sgn c) ws) (sgn c) = ws :=
 join_injC (fun x hx => StrLaws.split_free _ c x hx) h (split_ne _ c) ne (StrLaws.join_split _ _)
theorem blank_sgn : Str.ofString " " = sgn 32 := by decide
theorem colon_sgn : Str.ofString ":" = sgn 58 := by decide
theorem strSub_list (x : Str) (i j : Nat) : (Builtin.Str.strSub x i j).cps.toList = (x.cps.toList.take j).drop i := by
 show (x.cps.extract i j).toList = _
 rw [Array.toList_extract]
 simp [List.extract_eq_take_drop, List.drop_take]
theorem splitM_two {c : Nat} {a b x : Str} (ha : c ∉ a.cps.toList) (hx : x.cps.toList = a.cps.toList ++ c :: b.cps.toList) : Txt.splitMax x (sgn c) 1 = [a, b] := by
 have xl : x.length = a.cps.toList.length + (b.cps.toList.length + 1) := by
  show x.cps.size = _
  rw [← Array.length_toList, hx, List.length_append, List.length_cons]
 have cin : c ∈ x.cps.toList := by rw [hx]; exact List.mem_append_right _ List.mem_cons_self
 have h1 : ¬ ((decide (x.length < (sgn c).length) || decide (Builtin.Str.strKind x < Builtin.Str.strKind (sgn c))) = true) := by
  rw [Bool.or_eq_true, decide_eq_true_eq, decide_eq_true_eq]
  rintro (z | z)
  ·have : (sgn c).length = 1 := rfl
   omega
  ·exact StrLaws.kind_free x c z cin
 have atI : ∀ i, StrLaws.At x (sgn c) x.length i ↔ x.cps.toList[i]? = some c := fun i => StrLaws.subAt_one x c i
 have lim : limitOf x 1 = 1 := rfl
 have ata : x.cps.toList[a.cps.toList.length]? = some c := by rw [hx, List.getElem?_append_right (Nat.le_refl _), Nat.sub_self]; rfl
 have occ : Builtin.Str.occurrences x (sgn c) 0 x.length 1 = [a.cps.toList.length] := by
  rcases StrLaws.occ_head x (sgn c) 1 (Nat.le_refl _) with ⟨_, h⟩ | ⟨i, r, h, hi, hm⟩
  ·exact absurd ((atI _).mpr ata) (h _)
  ·have hl := StrLaws.occ_length_le x (sgn c) 0 x.length 1
   rw [h] at hl ⊢
   have : r = [] := by
    cases r with
    | nil => rfl
    | cons _ _ => simp at hl
   subst this
   have h2 : ¬ a.cps.toList.length < i := fun z => hm _ z ((atI _).mpr ata)
   have h3 : ¬ i < a.cps.toList.length := fun z => by
    have := (atI i).mp hi
    rw [hx, List.getElem?_append_left z] at this
    exact ha (List.mem_of_getElem? this)
   rw [show i = a.cps.toList.length by omega]
 unfold Txt.splitMax
 rw [if_neg h1, lim, occ, if_neg (fun z => nomatch z), StrLaws.partsBetween_eq]
 show [Builtin.Str.strSub x 0 a.cps.toList.length, Builtin.Str.strSub x (a.cps.toList.length + 1) x.length] = [a, b]
 have e1 : Builtin.Str.strSub x 0 a.cps.toList.length = a := str_ext (by rw [strSub_list, hx, List.take_left, List.drop_zero])
 have e2 : Builtin.Str.strSub x (a.cps.toList.length + 1) x.length = b := str_ext (by
  rw [strSub_list, List.take_of_length_le (by rw [Array.length_toList]; exact Nat.le_refl _), hx, ← List.drop_drop, List.drop_left]
  rfl)
 rw [e1, e2]
def tailT (ss : List Int) : Str := Txt.join (Str.ofString "") (ss.map fun s => Str.ofString " " ++ numT s)
theorem tailT_cons : ∀ (s : Int) (r : List Int), (tailT (s :: r)).cps.toList = 32 :: (rowT (s :: r)).cps.toList
 | s, [] => by
  show ((Str.ofString " ").cps ++ (numT s).cps).toList = _
  rw [Array.toList_append, rowT_one, blank]
  rfl
 | s, t :: r => by
  have ih := tailT_cons t r
  have e : tailT (s :: t :: r) = Str.ofString " " ++ numT s ++ Str.ofString "" ++ tailT (t :: r) := by
   show Txt.join _ _ = _
   unfold tailT Txt.join
   rw [StrLaws.glued_eq_join, StrLaws.glued_eq_join]
   rfl
  rw [e]
  show ((Str.ofString " ").cps ++ (numT s).cps ++ (Str.ofString "").cps ++ (tailT (t :: r)).cps).toList = _
  rw [Array.toList_append, Array.toList_append, Array.toList_append, ih, blank, rowT_cons]
  show [32] ++ (numT s).cps.toList ++ [] ++ _ = _
  simp
theorem rowT_free (zs : List Int) : 58 ∉ (rowT zs).cps.toList := by
 induction zs with
 | nil => decide
 | cons x r ih =>
  cases r with
  | nil => rw [rowT_one]; exact numT_free x ⟨by decide, .inr (by decide)⟩
  | cons y r =>
   rw [rowT_cons]
   intro h
   rcases List.mem_append.mp h with z | z
   ·exact numT_free x ⟨by decide, .inr (by decide)⟩ z
   ·rcases List.mem_cons.mp z with z | z
    ·cases z
    ·exact ih z
def planT (ns ss : List Int) : Str := rowT ns ++ Str.ofString ":" ++ tailT ss
theorem planT_list (ns ss : List Int) : (planT ns ss).cps.toList = (rowT ns).cps.toList ++ 58 :: (tailT ss).cps.toList := by
 show ((rowT ns).cps ++ (Str.ofString ":").cps ++ (tailT ss).cps).toList = _
 rw [Array.toList_append, Array.toList_append, colon_sgn, List.append_assoc]
 rfl
theorem sum_list_le {l : List Nat} {B : Nat} (h : ∀ x ∈ l, x ≤ B) : l.sum ≤ l.length * B := by
 induction l with
 | nil => exact Nat.zero_le _
 | cons x r ih =>
  have h1 := ih fun y hy => h y (List.mem_cons_of_mem _ hy)
  have h2 := h x List.mem_cons_self
  rw [List.sum_cons, List.length_cons, Nat.add_mul, Nat.one_mul]
  omega
theorem app_len (x y : Str) : (x ++ y).length = x.length + y.length := Array.size_append
theorem tailT_fits {zs : List Int} (h : ∀ x ∈ zs, x.natAbs < 10 ^ 30) (l : zs.length ≤ 100) : JoinOk (Str.ofString "") (zs.map fun s => Str.ofString " " ++ numT s) = true := by
 refine joinOk_of_weight ?_ (by decide)
 have := sum_list_le (l := (zs.map fun s => Str.ofString " " ++ numT s).map (·.length)) (B := 32) fun x hx => by
  obtain ⟨y, hy, rfl⟩ := List.mem_map.mp hx
  obtain ⟨s, hs, rfl⟩ := List.mem_map.mp hy
  have e : (Str.ofString " " ++ numT s).length = 1 + (numT s).length := app_len _ _
  have := numT_len (h s hs)
  show (Str.ofString " " ++ numT s).length ≤ 32
  omega
 rw [List.length_map, List.length_map] at this
 rw [List.length_map]
 omega
end L2
namespace L2
open PySem PySem.Spec PyProof.Rows
theorem ObjOk.there {P : Program} {w : World} {H : Hp} {h : Heap} {a : Addr} {o : HO} (x : ObjOk P w H h a o) : ∃ ob, h.get? a = some ob := by
 cases o with
 | lst xs => obtain ⟨_, _, _, _, e⟩ := x; exact ⟨_, e⟩
 | tup xs => obtain ⟨_, _, _, ob, e, _⟩ := x; exact ⟨_, e⟩
 | dK kvs => obtain ⟨_, _, _, _, o, _, _, e, _⟩ := x; exact ⟨_, e⟩
 | dT kvs => obtain ⟨_, _, _, _, o, _, _, e, _⟩ := x; exact ⟨_, e⟩
 | set S n => obtain ⟨o, _, _, _, e, _⟩ := x; exact ⟨_, e⟩
 | ins C dx fs => obtain ⟨_, _, _, e, _⟩ := x; exact ⟨_, e⟩
 | own y => exact x
 | xd fs => obtain ⟨_, ⟨_, _, _, e, _⟩, _⟩ := x; exact ⟨_, e⟩
 | rng lo hi => obtain ⟨_, _, _, e⟩ := x; exact ⟨_, e⟩
 | frz ob u => obtain ⟨e, _⟩ := x; exact ⟨_, e⟩
 | tbl ps => exact ⟨_, show h.get? a = some _ from x⟩
 | met f y => exact ⟨_, show h.get? a = some _ from x⟩
 | ext φ => exact x.2.1
def InB (B : Heap) (fs : List Addr) (H' : Hp) (h h' : Heap) : Prop := ∀ b o, h'.get? b = some o → ((∃ o', h.get? b = some o') ∧ b ∉ fs) ∨ (∃ u, H' b = some u) → B.get? b = some o
def CX1 (P : Program) (w : World) : CXT := fun outer H s E e s' => ∃ (ea : Addr) (C a0 : Value) (H' : Hp) (B : Heap),
 e = .ref ea ∧ s'.os = s.os ∧ AllBare s'.gens ∧ Un (frs outer) [] H H' s.heap s'.heap ∧ HOk P w H' s'.heap ∧ Heap.FlyingW B outer ea C a0 s'.heap ∧ InB B (frs outer) H' s.heap s'.heap ∧ H' ea = none ∧ E C none H'
section
variable {X : Cx} {pins : List (Addr × Obj)} {σ : St} {H H' : Hp} {s s' : Shared} {B h'' : Heap}
theorem Inv.flown (I : Inv X pins σ H s) (os : s'.os = s.os) (bare : AllBare s'.gens) (un : Un (frs X.stack) [] H H' s.heap s'.heap) (hok : HOk X.prog X.w H' s'.heap)
  (hB : InB B (frs X.stack) H' s.heap s'.heap) (st : B.StaysIn h'') (up : s'.heap.UpToSlots h'') : Inv X pins σ H' { s' with heap := h'' } := by
 have ff := I.stack
 have slot : ∀ b o, s.heap.get? b = some o → H b = none → b ∈ frs X.stack → ∃ sl, h''.get? b = some { o with slots := sl } := fun b o q n m => by
  obtain ⟨sl, e1⟩ := un.slot b o q n m (by simp)
  obtain ⟨_, o', q', nf⟩ := ff.mem m
  rw [q] at q'
  cases q'
  obtain ⟨sl', e2⟩ := up b _ e1 nf
  exact ⟨sl', e2⟩
 refine I.call' (s' := { s' with heap := h'' }) (ch := []) os ⟨fun b o q n m _ => st b o (hB b o (un.keep b o q n m (by simp)) (.inl ⟨⟨o, q⟩, m⟩)), fun b o q n m _ => slot b o q n m, fun b o q n m => un.free b o q n m, fun b o q _ => ?_, un.tups, un.frzs, un.tbls⟩ (fun a o e => ?_) bare (fun b z => absurd z (by simp))
 ·by_cases m : b ∈ frs X.stack
  ·obtain ⟨sl, e⟩ := slot b o q (I.stkFree b m) m
   exact ⟨_, e⟩
  ·obtain ⟨o', e⟩ := un.there b o q (by simp)
   exact ⟨o', st b o' (hB b o' e (.inl ⟨⟨o, q⟩, m⟩))⟩
 ·refine (hok a o e).stay (fun b u z q => st b u (hB b u q (.inr ?_))) (fun _ z => z) fun _ _ z => z
  rcases z with z | z
  ·subst z; exact ⟨_, e⟩
  ·exact ⟨_, z⟩
theorem Inv.gone {ea : Addr} {C a0 : Value} {E : XK} (I : Inv X pins σ H s) (os : s'.os = s.os) (bare : AllBare s'.gens) (un : Un (frs X.stack) [] H H' s.heap s'.heap) (hok : HOk X.prog X.w H' s'.heap)
  (hB : InB B (frs X.stack) H' s.heap s'.heap) (fl : Heap.FlyingW B X.outer ea C a0 h'') (up : s'.heap.UpToSlots h'') (hn : H' ea = none) (hE : E C none H')
  (hst : X.stack = X.env :: X.outer) (hfr : X.env.frame = some X.env.locals) (hex : X.ex = []) : CX1 X.prog X.w X.outer X.H₀ X.s₀ E (.ref ea) { s' with heap := h'' } := by
 have J := I.flown os bare un hok hB fl.1 up
 have jb := J.base
 have ib := I.base
 rw [hex] at jb ib
 refine ⟨ea, C, a0, H', B, rfl, J.os, J.bare, jb, J.hok, fl, fun b o q z => ?_, hn, hE⟩
 rcases z with ⟨⟨o₀, q₀⟩, m⟩ | ⟨u, z⟩
 ·have m2 : b ∉ frs X.stack := fun z => by
   rw [hst] at z
   unfold frs at z
   rw [List.filterMap_cons, hfr] at z
   rcases List.mem_cons.mp z with z | z
   ·have := I.ok.above
    rw [← z] at this
    exact absurd (Heap.lt_size q₀) (Nat.not_lt.mpr this)
   ·exact m z
  obtain ⟨o1, q1⟩ := ib.there b o₀ q₀ (by simp)
  obtain ⟨o2, q2⟩ := un.there b o1 q1 (by simp)
  have e := hB b o2 q2 (.inl ⟨⟨o1, q1⟩, m2⟩)
  have e2 := fl.1 b o2 e
  have q' : h''.get? b = some o := q
  rw [q'] at e2
  cases e2
  exact e
 ·obtain ⟨o2, q2⟩ := (hok b u z).there
  have e := hB b o2 q2 (.inr ⟨u, z⟩)
  have e2 := fl.1 b o2 e
  have q' : h''.get? b = some o := q
  rw [q'] at e2
  cases e2
  exact e
end
section
variable {P : Program} {w : World} {K : PySem.W.Frag} {mg : Str → Option Value} {base : Heap} {N : List Str} {qual : Str} {scope : Scope} {f : Addr} {cd : Value} {A : Around} {outer : List Env} {s₀ : Shared} {H₀ : Hp} {E : XK}
theorem pass1 : Passes (CX1 P w) (cxOf (CX1 P w) P w K mg base N qual scope f cd A outer s₀ H₀ E) E := by
 intro pins σ H s e s' I h
 obtain ⟨ea, C, a0, H', B, rfl, os, bare, un, hok, fl, hB, hn, hE⟩ := h
 refine wpAny_leaves_onW (outer := outer) I.ok.frames rfl fl fun h'' fl2 up => ?_
 exact I.gone os bare un hok hB fl2 up hn hE rfl rfl rfl
def RaisesIn (X : Cx) (E : XK) : Prop := ∀ (pins : List (Addr × Obj)) (σ : St) (H : Hp) (s : Shared) (h' : Heap) (ea : Addr) (C : Value) (vs : List Value), Inv X pins σ H s → Heap.MadeExcOf s.heap h' ea C vs → E C none H → X.xe (.ref ea) { s with heap := h' }
theorem raises1 : RaisesIn (cxOf (CX1 P w) P w K mg base N qual scope f cd A outer s₀ H₀ E) E := by
 intro pins σ H s h' ea C vs I hx hE
 have hin : ∀ env ∈ (envOfC qual scope s₀.heap.objs.size f cd :: outer), ∀ b, env.frame = some b → b ∈ (envOfC qual scope s₀.heap.objs.size f cd :: outer).filterMap (·.frame) := fun env he b hb => List.mem_filterMap.mpr ⟨env, he, hb⟩
 refine wpAny_leaves_madeW (base := PySem.W.hideAll s.heap ((envOfC qual scope s₀.heap.objs.size f cd :: outer).filterMap (·.frame))) (outer := outer) I.ok.frames rfl (fun b o q => PySem.W.of_hideAll _ q) (PySem.W.funFrames_hide I.stack hin) hx fun h'' t x1 x2 x3 x4 => ?_
 have hn : H ea = none := by
  cases q : H ea with
  | none => rfl
  | some u =>
   obtain ⟨o, e⟩ := (I.hok ea u q).there
   rw [hx.new] at e
   cases e
 refine I.gone (s' := { s with heap := h' }) (H' := H) rfl I.bare (Un.kept hx.keeps) (I.hok.kept hx.keeps) (fun b o q z => ?_) x1 x4 hn hE rfl rfl rfl
 have q' : h'.get? b = some o := q
 have key : ∃ o', s.heap.get? b = some o' ∧ b ∉ (envOfC qual scope s₀.heap.objs.size f cd :: outer).filterMap (·.frame) := by
  rcases z with ⟨⟨o', e⟩, m⟩ | ⟨u, z⟩
  ·exact ⟨o', e, m⟩
  ·obtain ⟨o', e⟩ := (I.hok b u z).there
   exact ⟨o', e, fun m => by have := I.stkFree b m; rw [z] at this; cases this⟩
 obtain ⟨o', e, m⟩ := key
 have e2 := hx.keeps b o' e
 rw [q'] at e2
 cases e2
 exact PySem.W.hideAll_get _ e m
theorem Fun.ok1 {x qual : Str} {st : Stmt} {f : Addr} {fd : FuncData} {N ps : List Str} {k : Nat} {sp : Sp} (F : Fun K x qual st f fd) (S : FnScope N ps (defScope st)) (len : ∀ vs H Q E, sp vs H Q E → vs.length = ps.length)
  (hbody : ∀ (cdv : Value) (A : Around) (outer : List Env) (s : Shared) (H : Hp) (vs : List V) (Q : VK) (E : XK), Room k (A.deeper (envOfC qual (defScope st) s.heap.objs.size f cdv)) → sp vs H Q E →
   ∃ t, PSs (cxOf (CX1 P w) P w K mg base N qual (defScope st) f cdv A outer s H E) (defBody st) t ∧ t { nx := fun _ H' => Q .non H', rt := Q } (start N vs) H) : FnOk P w K mg base (CX1 P w) (k + 1) f fd ps sp := by
 obtain ⟨oc, od, kV, doc, pm, an, cdv, ct, osl, rfl, lk, hcd⟩ := F.ex
 exact fn_of lk hcd S len fun A outer s H vs Q E hr hsp => hbody cdv A outer s H vs Q E hr hsp
end
theorem own_obj {K : PySem.W.Frag} {h : Heap} {C : Addr} {bmB : List Value} {newId : String} (X : K.In h) (q : PySem.W.excIn K C bmB newId = true) :
  ∃ bm N nm q bs hdct sn sub ab col dd k0 k1 k2 k3 k5 mN, h.get? C = some (excClassObj nm q C N bs bm hdct sn sub ab col dd k0 k1 k2 k3 k5 newId) ∧ h.Ns N mN ∧ mN "__init__" = none ∧ OwnTail h bmB bm := by
 unfold PySem.W.excIn at q
 split at q
 ·rename_i dd cd sl ho
  split at q
  ·rename_i C' bm k0 k1 k2 k3 n k5 hm hs
   simp only [Bool.and_eq_true, beq_iff_eq, Bool.not_eq_true'] at q
   obtain ⟨⟨⟨⟨⟨rfl, rfl⟩, hdel⟩, ht⟩, hok⟩, hni⟩ := q
   obtain ⟨nm, bs, mro, ns, qn, hd, sn, sub, ab, col, del⟩ := cd
   dsimp only at hm hdel hok hni
   subst hm hdel
   have hsl : sl = #[k0, k1, k2, k3, some (.builtin n), k5] := by
    obtain ⟨l⟩ := sl
    simp only at hs
    rw [hs]
   subst hsl
   exact ⟨bm, ns, nm, qn, bs, hd, sn, sub, ab, col, dd, k0, k1, k2, k3, k5, _, X _ _ ho, .of_isNs (PySem.W.isNs_of_in X hok), PySem.W.nsMap_none_of_in X hok hni, PySem.W.tail_of_in X ht⟩
  ·cases q
 ·cases q
section
variable {X : Cx} {E : XK} {x : Str} {C : Addr} {B newId initId : String} {bm : List Value} {np cpos pos : Pos} {e : Expr} {es : List Expr} {t : TA}
def tRaise (C : Addr) (E : XK) (t : TA) : TS := fun _ σ H => t σ H fun vs H1 => vs.length ≤ 1000 ∧ E (.ref C) none H1
theorem ps_raise (hr : RaisesIn X E) (hc : X.calm = true) (FB : ExcBaseFacts B newId initId bm) (hq : PySem.W.excIn X.K C bm newId = true) (hg : Gl X x) (hm : X.mg x = some (.ref C)) (ha : PA X (e :: es) t)
  (hd : (x == ("__debug__" : Str)) = false := by decide) (he : starEach (e :: es) X.env = (false, eval e X.env) :: starEach es X.env := by rfl) (hpl : (backTo cpos (starEach es X.env)).any (·.1) = false := by rfl) :
  PS X (.Raise (some (.Call (.Name x np) (e :: es) [] cpos)) none pos) (tRaise C E t) := by
 intro pins s σ H D I h
 obtain ⟨tl, N, nm, q, bs, hdct, sn, sub, ab, col, dd, k0, k1, k2, k3, k5, mN, hC, hN, hni, T⟩ := own_obj I.mod.kin hq
 refine wpAny_Raise_call_subT (C := C) (nm := nm) (q := q) (N := N) (bs := bs) (bm := tl) (hdct := hdct) (sn := sn) (sub := sub) (ab := ab) (col := col) (dd := dd) (k0 := k0) (k1 := k1) (k2 := k2) (k3 := k3) (k5 := k5)
  FB (mN := mN) (T.hasType FB.hasBase) (I.ok.hd hc) (by rw [he]; show (false || (backTo cpos (starEach es X.env)).any (·.1)) = false; rw [hpl]; rfl) hni (ld_glob I hg hm ⟨rfl, ?_⟩ hd)
 have ha' := ha cpos pins s σ H _ I h
 rw [he] at ha' ⊢
 refine Calls.evalArgs_plain (wpAny_mono ha' (fun us s₂ ⟨vs, H1, I1, r, l, q⟩ => ?_) fun _ _ y => y)
 exact ⟨rfl, by rw [← r.length]; exact Nat.le_trans l (by decide), I1.bk _ _ hC, hN.keeps I1.bk, T.keeps I1.bk, fun h' ea hx => hr pins σ H1 s₂ h' ea _ _ I1 hx q⟩
end
def PB (X : Cx) (st : List Stmt) (tb : XK → TS) : Prop := ∀ (pins : List (Addr × Obj)) (s : Shared) (σ : St) (H : Hp) (D : Ends) (E : XK) (F : Value → Shared → Prop), Inv X pins σ H s →
 (∀ H1 s1 e s', Inv X pins σ H1 s1 → CX1 X.prog X.w X.stack H1 s1 E e s' → F e s') → tb E D σ H → wpAny (model X.prog X.w) X.A (execs st X.env) (SP X pins D) F s
section
variable {X : Cx} {k : Nat} {f : Addr} {fd : FuncData} {ps : List Str} {sp : Sp} {dvs : List V} {ds : List Value} {x : Str} {p pos cpos : Pos} {e : Expr} {es : List Expr} {t : TA}
def tbIf (c : TT) (t u : XK → TS) : XK → TS := fun E D σ H => c σ H fun b H1 => if b = true then t E D σ H1 else u E D σ H1
theorem pb_if {c : Expr} {a b : List Stmt} {tc : TT} {ta tb : XK → TS} (hx : ∀ e s, ¬ X.xe e s) (hc : PT X c tc) (ha : PB X a ta) (hb : PB X b tb) : PB X [.If c a b pos] (tbIf tc ta tb) := by
 intro pins s σ H D E F I hF h
 refine wpAny_execs_cons (wpAny_If (wpAny_mono (hc pins s σ H _ I h) (fun d s1 ⟨H1, I1, q1⟩ => ?_) fun _ _ z => (hx _ _ z).elim))
 cases d with
 | true => exact wpAny_mono (ha pins s1 σ H1 D E F I1 hF q1) (fun fl s2 q => by cases fl <;> first | exact wpAny_execs_nil q | exact q) fun _ _ z => z
 | false => exact wpAny_mono (hb pins s1 σ H1 D E F I1 hF q1) (fun fl s2 q => by cases fl <;> first | exact wpAny_execs_nil q | exact q) fun _ _ z => z
end
def ExcAt (ea : Addr) (C : Value) : Heap → Prop := fun h => ∃ o vs, h.get? ea = some o ∧ o.cls = C ∧ o.data = .fields vs
abbrev Cx.mark (X : Cx) (v : Value) : Cx := { X with A := X.A.mark (some v), calm := false, xe := fun _ _ => False }
section
variable {X : Cx} {pins : List (Addr × Obj)} {σ : St} {H : Hp} {s : Shared} {v : Value}
theorem Inv.mark (I : Inv X pins σ H s) (v : Value) : Inv (X.mark v) pins σ H s :=
 ⟨⟨I.ok.mod, I.ok.kind, I.ok.glob, I.ok.blt, I.ok.above, I.ok.inj, I.ok.has, I.ok.cab, fun z => Bool.noConfusion z, I.ok.frames, I.ok.stk, I.ok.exf, I.ok.bs, I.ok.bsz, I.ok.noex, I.ok.exfs, I.ok.funs, I.ok.frf⟩, I.os, I.bare, I.base, I.loc, I.cell, I.free, I.freeC, I.pin, I.hok, I.len⟩
theorem Inv.unmark (ok : X.Ok) (I : Inv (X.mark v) pins σ H s) : Inv X pins σ H s := ⟨ok, I.os, I.bare, I.base, I.loc, I.cell, I.free, I.freeC, I.pin, I.hok, I.len⟩
end
section
variable {X : Cx} {pins : List (Addr × Obj)} {σ : St} {H : Hp} {s : Shared}
theorem goes_ok {M : Model} {A : Around} {E : Value → Shared → Prop} {i : Nat} {x : Str} {pos : Pos} {Q : Unit → Shared → Prop} (I : Inv X pins σ H s) (hN : X.N.Nodup) (hi : X.N[i]? = some x) (hk : X.env.scope.names.lookup x = some .local)
  (h : ∀ s', Inv X pins (σ.set i none) H s' → Q () s') : wpAny M A (do bindName X.env x .none; unbindBehindTheSuite X.env x pos) Q E s := by
 obtain ⟨m, hn, hl⟩ := id I.loc
 have hcls : (X.env.scope.kind == .class || (X.env.scope.kind == .module && X.env.locals != X.env.globals)) = false := by rw [I.ok.kind]; rfl
 have hiσ : i < σ.length := by rw [I.len]; exact (List.getElem?_eq_some_iff.mp hi).1
 have cne := I.cne
 refine wpAny_nameGoes_keeps hk hn hcls (fun h' vv hn' hs => ?_)
 obtain ⟨oL, _, _, hoL, _⟩ := id hn
 have tracked : HOk X.prog X.w H h' := fun b ob e => by
  refine (I.hok b ob e).stay (fun c w' hc q => (hs.2 c ?_).trans q) (fun _ q => q) fun _ _ q => q
  rintro rfl
  rcases hc with rfl | hc
  ·rw [I.free] at e; cases e
  ·rw [I.free] at hc; cases hc
 refine h _ ⟨I.ok, I.os, I.bare, ⟨fun b o e n hb hx => ?_, fun b o e n hb hx => ?_, I.base.free, fun b o e hx => ?_, I.base.tups, I.base.frzs, I.base.tbls⟩, ⟨_, hn', fun j y v' e1 e2 e3 => ?_⟩, fun y c e => ?_, I.free, I.freeC, fun p hp => ?_, tracked, by simpa using I.len⟩
 ·exact (hs.2 b (Nat.ne_of_lt (Nat.lt_of_lt_of_le (Heap.lt_size e) I.ok.above))).trans (I.base.keep b o e n hb hx)
 ·obtain ⟨sl, e1⟩ := I.base.slot b o e n hb hx
  exact ⟨sl, (hs.2 b (Nat.ne_of_lt (Nat.lt_of_lt_of_le (Heap.lt_size e) I.ok.above))).trans e1⟩
 ·obtain ⟨o', e1⟩ := I.base.there b o e hx
  exact ⟨o', (hs.2 b (Nat.ne_of_lt (Nat.lt_of_lt_of_le (Heap.lt_size e) I.ok.above))).trans e1⟩
 ·by_cases hj : j = i
  ·subst hj
   rw [List.getElem?_set_self hiσ] at e2
   cases e2
  ·rw [List.getElem?_set_ne (Ne.symm hj)] at e2
   obtain ⟨u', r', q⟩ := hl j y v' e1 e2 e3
   refine ⟨u', r', ?_⟩
   rcases q with ⟨k, e⟩ | ⟨k, c, e, z⟩
   ·refine .inl ⟨k, ?_⟩
    have : y ≠ x := fun e => hj (nodup_ix hN e1 (e ▸ hi))
    simp [this, e]
   ·exact .inr ⟨k, c, e, z.sameBut hs (cne y c e)⟩
 ·obtain ⟨w', z⟩ := I.cell y c e
  exact ⟨w', z.sameBut hs (cne y c e)⟩
 ·obtain ⟨e, n, ne, nf, d⟩ := I.pin p hp
  exact ⟨(hs.2 p.1 ne).trans e, n, ne, nf, d⟩
theorem Inv.track {a : Addr} {o : HO} (I : Inv X pins σ H s) (hn : H a = none) (new : X.s₀.heap.get? a = none) (hL : X.env.locals ≠ a) (hC : ∀ x c, X.env.cells.lookup x = some c → c ≠ a) (hp : ∀ p ∈ X.pn ++ pins, p.1 ≠ a)
  (hO : ObjOk X.prog X.w (upd H a o) s.heap a o) : Inv X pins σ (upd H a o) s := by
 have ne : ∀ b u, H b = some u → b ≠ a := fun b u q z => by rw [z, hn] at q; cases q
 have nw : ∀ b u, X.s₀.heap.get? b = some u → b ≠ a := fun b u q z => by rw [z, new] at q; cases q
 refine ⟨I.ok, I.os, I.bare, ⟨I.base.keep, I.base.slot, fun b u q n hx => by rw [upd_ne (nw b u q)]; exact I.base.free b u q n hx, I.base.there, fun b xs q => ?_, fun b u xs q => ?_, fun b ps q => ?_⟩, I.loc, I.cell, by rw [upd_ne hL]; exact I.free, fun x c e => by rw [upd_ne (hC x c e)]; exact I.freeC x c e, fun p z => ?_, fun b u e => ?_, I.len⟩
 ·have := I.base.tups b xs q
  rw [upd_ne (ne _ _ this)]; exact this
 ·have := I.base.frzs b u xs q
  rw [upd_ne (ne _ _ this)]; exact this
 ·obtain ⟨m, this⟩ := I.base.tbls b ps q
  exact ⟨m, by rw [upd_ne (ne _ _ this)]; exact this⟩
 ·obtain ⟨e, n, ne', nf, d⟩ := I.pin p z
  exact ⟨e, by rw [upd_ne (hp p z)]; exact n, ne', nf, d⟩
 ·by_cases h : b = a
  ·subst h
   rw [upd_same] at e
   cases e
   exact hO
  ·rw [upd_ne h] at e
   exact (I.hok b u e).stay (fun _ _ _ q => q) (fun c q => by rw [upd_ne (ne _ _ q)]; exact q) fun c xs q => by rw [upd_ne (ne _ _ q)]; exact q
end
section
variable {X : Cx} {S : Addr} {cls n c : Str} {i j : Nat} {np cp np2 apos hpos pos : Pos} {body : List Stmt} {tb : XK → TS}
end
end L2
namespace L2
open PySem PySem.Spec PyProof.Rows PySem.W PySem.Builtin PySem.Builtin.ObjectAttr PySem.Builtin.Getset_descriptor
section
variable {prog : Program} {w : World} {A : Around} {E : Value → Shared → Prop} {h : Heap} {g : Array GenState} {d : Drawn} {t : Nat} {os : OsState} {K : PySem.W.Frag} {a C : Addr} {o : Obj}
theorem exc_class_get {tp : Value} {R : Result → Shared → Prop} (X : K.In h) (hx : h.get? a = some o) (hc : o.cls = .ref C) (hm : mroIn K C (.type "object") = some true)
  (q : R (.ok (.ret (.ref C))) ⟨h, g, d, t, os⟩) : codeAny (model prog w) A (.call (.builtin "getset_descriptor.__get__") ⟨[.builtin "object.__class__", .ref a, tp], []⟩) R ⟨h, g, d, t, os⟩ := by
 have L0 : Looks (model prog w) h (typeOf (.ref a)) (.ref C) := hc ▸ (Looks.ld hx).andThen .now
 have L1 := looks_mroIn (M := model prog w) X hm
 refine codeAny_call_builtin KF.slot_gs.plain KF.entry_gs (KF.slot_gs.check _ _ _ _ _ _ _ _ KF.type_class (KF.args_gs _ _ _) ?_)
 unfold Builtin.«getset_descriptor.__get__» descrGet
 rw [dga_obj]
 refine wpAny_bind (wpAny_pure ?_)
 unfold descrGetter descrCheckInstance descrNameAndClass isInstance
 simp only [KF.owner_class]
 repeat lk
 refine ⟨Code.quiet_builtin _ (by decide +kernel), codeAny_builtin KF.entry_class ?_⟩
 unfold Builtin.«object.__class__» shownTypeOf
 repeat lk
 exact q
structure ExcCls (K : PySem.W.Frag) (C : Addr) : Prop where
 ga : findIn K (.ref C) "__getattribute__" = some (some (.builtin "BaseException.__getattribute__"))
 gh : findIn K (.ref C) "__getattr__" = some none
 ca : findIn K (.ref C) "__class__" = some (some (.builtin "object.__class__"))
 ob : mroIn K C (.type "object") = some true
 be : mroIn K C (.type "BaseException") = some true
 cl : (clsIn K C).isSome = true
 hn : specialIn K (.builtin "object.__class__") "__get__" = some (some (.builtin "getset_descriptor.__get__"))
 htk : takesIn K (.builtin "object.__class__") = some true
theorem exc_find {M : Model} (X : K.In h) (c : ExcCls K C) : Looks M h (find (.ref a) (.ref C) "__class__") (.bind (.builtin "getset_descriptor.__get__") (.builtin "object.__class__")) := by
 refine (looks_findIn X c.ca).andThen ((looks_specialIn X c.hn).andThen ?_)
 exact (show Looks M h (dataDescriptor? (some (.builtin "object.__class__")) (some (.builtin "getset_descriptor.__get__"))) _ from (looks_takesIn X c.htk).andThen .now).andThen (Looks.tag .now)
theorem exc_entry {tk : Tok} {Q : Fin → Shared → Prop} (X : K.In h) (c : ExcCls K C) (hx : h.get? a = some o) (hc : o.cls = .ref C) (q : Q (.done (.ret (.ref C))) ⟨h, g, d, t, os⟩) :
  wpAny (model prog w) A (Builtin.«object.__getattribute__» ⟨[.ref a, .str "__class__" tk], []⟩) Q E ⟨h, g, d, t, os⟩ := by
 have L0 : Looks (model prog w) h (typeOf (.ref a)) (.ref C) := hc ▸ (Looks.ld hx).andThen .now
 have L1 := exc_find (M := model prog w) (a := a) X c
 unfold Builtin.«object.__getattribute__»
 refine wpAny_bind (wpAny_pure (wpAny_bind (wpAny_pure (wpAny_bind (L0.at (wpAny_bind (L1.at ?_)))))))
 refine wpAny_bind (wpAny_holding (wpAny_call (exc_class_get X hx hc c.ob ?_)))
 exact wpAny_pure q
theorem exc_check {M : Model} {nameV : Value} {Q : Unit → Shared → Prop} (X : K.In h) (c : ExcCls K C) (hx : h.get? a = some o) (hc : o.cls = .ref C) (q : Q () ⟨h, g, d, t, os⟩) : wpAny M A (checkBuiltinCall "BaseException.__getattribute__" ⟨[.ref a, nameV], []⟩) Q E ⟨h, g, d, t, os⟩ := by
 have hk : builtinKind "BaseException.__getattribute__" = some .slot := by decide +kernel
 have hsplit : splitId "BaseException.__getattribute__" = some ("BaseException", "__getattribute__") := by decide +kernel
 have ha := F.args_bexc_ga (.ref a) nameV
 have L0 : Looks M h (typeOf (.ref a)) (.ref C) := hc ▸ (Looks.ld hx).andThen .now
 have LI : Looks M h (isInstance (.ref a) (.type "BaseException")) true := L0.andThen (looks_mroIn X c.be)
 simp only [checkBuiltinCall, hk, hsplit]
 refine wpAny_bind (LI.at ?_)
 repeat (first | wp_step)
 exact q
theorem exc_by {tk : Tok} {Q : Value → Shared → Prop} (X : K.In h) (c : ExcCls K C) (hx : h.get? a = some o) (hc : o.cls = .ref C) (q : Q (.ref C) ⟨h, g, d, t, os⟩) :
  wpAny (model prog w) A (getAttrBy (.ref a) (.str "__class__" tk) false) Q E ⟨h, g, d, t, os⟩ := by
 have L0 : Looks (model prog w) h (typeOf (.ref a)) (.ref C) := hc ▸ (Looks.ld hx).andThen .now
 have L1 := looks_findIn (M := model prog w) X c.ga
 have L2 := looks_findIn (M := model prog w) X c.gh
 have hb : bindSpecial (.builtin "BaseException.__getattribute__") (.ref a) = pure (.builtin "BaseException.__getattribute__", [.ref a]) := by
  have hop : withoutEnding? "BaseException.__getattribute__" "#opaque" = none := by decide +kernel
  have hdat : withoutEnding? "BaseException.__getattribute__" "#data" = none := by decide +kernel
  have hk : builtinKind "BaseException.__getattribute__" = some .slot := by decide +kernel
  simp only [bindSpecial, typeOf, builtinType, hop, hdat, hk]; rfl
 have hx2 : (Value.builtin "BaseException.__getattribute__" == Value.builtin "object.__getattribute__") = false := by decide +kernel
 have hx1 : (onTheHeap (Value.ref C) && Value.builtin "BaseException.__getattribute__" == Value.builtin "object.__getattribute__") = false := by rw [hx2]; rfl
 unfold getAttrBy
 refine wpAny_holding (wpAny_bind (L0.at (wpAny_bind (L1.at ?_))))
 dsimp only
 rw [hx1, if_neg Bool.false_ne_true]
 unfold getAttrByItsOwn hookBefore
 rw [show onTheHeap (Value.ref C) = true from rfl, if_pos rfl]
 refine wpAny_bind (L2.at (wpAny_bind (wpAny_attempt (wpAny_holding ?_))))
 unfold callGetattribute
 rw [Bool.false_and, if_neg Bool.false_ne_true]
 unfold boundAndCalled
 rw [hb]
 refine wpAny_bind (wpAny_pure ?_)
 refine wpAny_call (codeAny_call_builtin (by decide +kernel) F.entry_bexc_ga (exc_check X c hx hc (exc_entry X c hx hc ?_)))
 exact wpAny_pure q
theorem kitx_exc (c : ExcCls K C) : KitX K (.ref a) (.ref C) (ExcAt a (.ref C)) where
 ty := fun _ _ _ ⟨_, _, hx, hc, _⟩ => hc ▸ (Looks.ld hx).andThen .now
 it := fun _ _ X _ => by
  have hcD := c.cl
  unfold clsIn at hcD
  split at hcD
  ·rename_i c' d' cd' sl' ho
   intro A' Q' E' s' k q
   unfold isType loadHead
   exact wpAny_bind (wpAny_loadPart (k _ _ (X _ _ ho)) (wpAny_pure q))
  ·cases hcD
 ne := fun h tp dd its n sl X htp => by
  have hcD := c.cl
  refine Bool.eq_false_iff.mpr fun q => ?_
  have e : C = tp := Value.ref.inj (beq_iff_eq.mp q)
  subst e
  unfold clsIn at hcD
  split at hcD
  ·rename_i c' d' cd' sl' ho
   have z := (X _ _ ho).symm.trans htp
   cases z
  ·cases hcD
 ca := fun {_ _ _ _ _ s} X ⟨_, _, hx, hc, _⟩ k => by
  obtain ⟨h, g, d, t, os⟩ := s
  unfold getAttr? getAttrBy?
  refine wpAny_bind (wpAny_mkText (wpAny_bind (wpAny_attempt (exc_by X c hx hc ?_))))
  exact wpAny_pure k
end
end L2
namespace L2
open PySem PySem.Spec PyProof.Rows
def rIsiE (K : PySem.W.Frag) : List V → Hp → VK → Prop := fun vs H Q => ∃ (ea D : Addr) (c : V) (cv : Value) (b : Bool), vs = [.ref ea, c] ∧ H ea = some (.ext (ExcAt ea (.ref D))) ∧ ExcCls K D ∧ (∀ u, RelV c u → u = cv) ∧ PySem.W.kitOne K (.ref D) cv = some b ∧ Q (.bl b) H
theorem call_isiE {X : Cx} : CallR X (.builtin "isinstance") (rIsiE X.K) := by
 intro pins s σ H vs us Q I r ⟨ea, D, c, cv, b, e, h, hc, hu, hk, q⟩
 subst e
 obtain ⟨u, v, rfl, h1, h2⟩ := r.two
 cases h1
 cases hu _ h2
 have ho : ExcAt ea (.ref D) s.heap := (I.hok ea _ h).1
 exact PySem.W.kia_one (kitx_exc hc) I.kIn ho hk (fun z => nomatch z) fun tk => ⟨.bl b, H, I.tok tk, rfl, q⟩
end L2
namespace L2
open PySem PySem.Spec PyProof.Rows
end L2
namespace L2
open PySem PySem.Spec PyProof.Rows
def flatD : Nat → PyData → Bool
 | _, .none => true
 | _, .bool _ => true
 | _, .int _ => true
 | _, .str _ => true
 | n + 1, .list ds => ds.all (flatD n)
 | n + 1, .tuple ds => ds.all (flatD n)
 | _, _ => false
theorem DatAll.get {H : Hp} : ∀ {xs : List V} {ds : List PyData}, DatAll H xs ds → ∀ {j : Nat} {x : V}, xs[j]? = some x → ∃ d, ds[j]? = some d ∧ Dat H x d
 | _, _, .nil, _, _, h => by cases h
 | _, _, .cons a t, 0, _, h => by cases h; exact ⟨_, rfl, a⟩
 | _, _, .cons _ t, j + 1, _, h => t.get (j := j) h
theorem all_tr (n : Nat) : (List.range n).all (fun _ => true) = true := List.all_eq_true.mpr fun _ _ => rfl
theorem eqv_dat {K : PySem.W.Frag} {H : Hp} : ∀ (n : Nat) {x y : V} {d : PyData}, flatD n d = true → Dat H x d → Dat H y d → EqV K H n x y true := by
 intro n
 induction n with
 | zero =>
  intro x y d f a b
  cases a with
  | non => cases b; exact .non
  | bl i => cases b; have q := EqV.bl (K := K) (H := H) (n := 0) i i; rw [beq_self_eq_true] at q; exact q
  | int i => cases b; have q := EqV.int (K := K) (H := H) (n := 0) i i; rw [beq_self_eq_true] at q; exact q
  | str i => cases b; have q := EqV.str (K := K) (H := H) (n := 0) i i; rw [beq_self_eq_true] at q; exact q
  | _ => cases f
 | succ n ih =>
  intro x y d f a b
  cases a with
  | non => cases b; exact .non
  | bl i => cases b; have q := EqV.bl (K := K) (H := H) (n := n + 1) i i; rw [beq_self_eq_true] at q; exact q
  | int i => cases b; have q := EqV.int (K := K) (H := H) (n := n + 1) i i; rw [beq_self_eq_true] at q; exact q
  | str i => cases b; have q := EqV.str (K := K) (H := H) (n := n + 1) i i; rw [beq_self_eq_true] at q; exact q
  | @lst a1 xs ds e1 h1 =>
   cases b with
   | @lst a2 ys _ e2 h2 =>
    by_cases z : a1 = a2
    ·rw [z]; exact .same _
    ·have q := EqV.lst (K := K) (n := n) (e := fun _ => true) z (SqL.of e1) (SqL.of e2) (h1.len.trans h2.len.symm) fun j x y hx hy => by
      obtain ⟨d1, g1, k1⟩ := h1.get hx
      obtain ⟨d2, g2, k2⟩ := h2.get hy
      rw [g1] at g2
      cases g2
      exact ih (List.all_eq_true.mp f d1 (List.mem_of_getElem? g1)) k1 k2
     rw [all_tr] at q
     exact q
  | @tup a1 xs ds e1 h1 =>
   cases b with
   | @tup a2 ys _ e2 h2 =>
    by_cases z : a1 = a2
    ·rw [z]; exact .same _
    ·have q := EqV.tup (K := K) (n := n) (e := fun _ => true) z (SqT.of e1) (SqT.of e2) (h1.len.trans h2.len.symm) fun j x y hx hy => by
      obtain ⟨d1, g1, k1⟩ := h1.get hx
      obtain ⟨d2, g2, k2⟩ := h2.get hy
      rw [g1] at g2
      cases g2
      exact ih (List.all_eq_true.mp f d1 (List.mem_of_getElem? g1)) k1 k2
     rw [all_tr] at q
     exact q
  | _ => cases f
theorem rcv_datL {K : PySem.W.Frag} {H : Hp} {a b : Addr} {xs ys : List V} {ds : List PyData} (f : ds.all (flatD 4) = true) (e1 : H a = some (.lst xs)) (h1 : DatAll H xs ds) (e2 : H b = some (.lst ys)) (h2 : DatAll H ys ds) : RcV K H (.ref a) (.ref b) true := by
 have q := RcV.lst (K := K) (e := fun _ => true) (SqL.of e1) (SqL.of e2) (h1.len.trans h2.len.symm) fun j x y hx hy => by
  obtain ⟨d1, g1, k1⟩ := h1.get hx
  obtain ⟨d2, g2, k2⟩ := h2.get hy
  rw [g1] at g2
  cases g2
  exact eqv_dat 4 (List.all_eq_true.mp f d1 (List.mem_of_getElem? g1)) k1 k2
 rw [all_tr] at q
 exact q
end L2
namespace L2
open PySem PySem.Spec PyProof.Rows
section
variable {X : Cx} {S : Addr} {cls n : Str} {j : Nat} {np hpos pos : Pos} {b0 : Stmt} {body suite : List Stmt} {tb : XK → TS} {th : TS}
def tTryH (K : PySem.W.Frag) (S : Addr) (j : Nat) (tb : XK → TS) (th : TS) : TS := fun D σ H =>
 tb (fun C _ H' => PySem.W.exmOne K C (.ref S) = some true ∧ ∀ ea : Addr, H' ea = none → th { nx := fun σ' H'' => D.nx (σ'.set j none) H'', rt := fun _ _ => False } (σ.set j (some (.ref ea))) (upd H' ea (.ext (ExcAt ea C)))) D σ H
theorem ps_tryH (hb : PB X body tb) (hh : ∀ v, PSs (X.mark v) (b0 :: suite) th) (hst : X.stack = X.env :: X.outer) (hfr : X.env.frame = some X.env.locals) (hex : X.ex = []) (hN : X.N.Nodup) (hg : Gl X cls) (hm : X.mg cls = some (.ref S))
  (hj : X.N[j]? = some n) (hn : X.env.scope.names.lookup n = some .local) (hd : (cls == ("__debug__" : Str)) = false := by decide) :
  PS X (.Try body [.ExceptHandler (some (.Name cls np)) (some n) (b0 :: suite) hpos] [] [] pos) (tTryH X.K S j tb th) := by
 intro pins s σ H D I h
 refine wpAny_Try_except (wpAny_mono (hb pins s σ H D _ (fun e s₁ => wpAny (model X.prog X.w) X.A (noteFrame e X.env) (fun _ s₂ => wpAny (model X.prog X.w) X.A (setFlight e none) (fun _ s₃ => wpAny (model X.prog X.w) X.A (handleBy e X.env [.ExceptHandler (some (.Name cls np)) (some n) (b0 :: suite) hpos]) (SP X pins D) X.xe s₃) X.xe s₂) X.xe s₁) I (fun H1 s1 e s' I1 hx => ?_) h) (fun fl s1 q => ?_) fun _ _ z => z)
 ·obtain ⟨ea, C, a0, H', B, rfl, os, bare, un, hok, fl, hB, hn', hE, hk⟩ := hx
  rw [hst] at fl
  refine wpAny_looks_onW (outer := X.outer) (by rw [I1.ok.frames, hst]) hfr fl fun h₄ held₄ up₄ => ?_
  refine wpAny_landsW held₄ fun h₅ fl₅ up₅ => ?_
  have J := I1.flown os bare un hok hB fl₅.1 (up₄.trans up₅)
  have LT : PySem.W.Looks (model X.prog X.w) h₅ (typeOf (.ref ea)) C := by
   obtain ⟨ob, hob, hobc⟩ := fl₅.there
   exact hobc ▸ (PySem.W.Looks.ld hob).andThen .now
  refine wpAny_handleBy_cons (codeAny_handlers_test (ld_glob (J.mark (.ref ea)) hg hm ?_ hd)) (by intro q; cases q)
  refine PySem.W.Looks.here (PySem.W.exm_one (K := X.K) J.kIn LT hE) ?_
  refine codeAny_handlers_suite_as (lands_againW fl₅ fun h₆ fl₆ up₆ => ?_)
  have J6 := I1.flown os bare un hok hB fl₆.1 ((up₄.trans up₅).trans up₆)
  obtain ⟨oe, ws, hoe, hoec, hoed, _⟩ := fl₆.first
  have nofr : ea ∉ frs X.stack := fun m => by
   rw [hst] at m
   obtain ⟨_, o, q, nf⟩ := fl₆.2.2.1.mem m
   rw [hoe] at q
   cases q
   exact nf _ hoed
  have inB : ∀ b o, s1.heap.get? b = some o → b ∉ frs X.stack → b ≠ ea := fun b o q m z => by
   obtain ⟨o', q'⟩ := un.there b o q (by simp)
   have e := hB b o' q' (.inl ⟨⟨o, q⟩, m⟩)
   rw [z, fl₆.2.1] at e
   cases e
  have hLs : X.env.locals ∈ frs X.stack := by
   rw [hst]
   unfold frs
   rw [List.filterMap_cons, hfr]
   exact List.mem_cons_self
  have T : Inv X pins σ (upd H' ea (.ext (ExcAt ea C))) { s' with heap := h₆ } := by
   refine J6.track hn' ?_ (fun z => nofr (z ▸ hLs)) (fun x c e z => ?_) (fun p hp => ?_) ⟨⟨oe, ws, hoe, hoec, hoed⟩, ⟨oe, hoe⟩, fun a b ⟨o, us, q1, q2⟩ k => ⟨o, us, k o q1, q2⟩⟩
   ·cases q : X.s₀.heap.get? ea with
    | none => rfl
    | some o =>
     have ib := I1.base
     rw [hex] at ib
     obtain ⟨o1, q1⟩ := ib.there ea o q (by simp)
     exact absurd rfl (inB ea o1 q1 nofr)
   ·obtain ⟨v, o, q, d⟩ := J6.cell x c e
    have q' : h₆.get? c = some o := q
    rw [z, hoe] at q'
    cases q'
    rw [hoed] at d
    cases d
   ·obtain ⟨e, n, ne, nf, d⟩ := I1.pin p hp
    refine inB p.1 p.2 e fun m => ?_
    rw [hst] at m
    unfold frs at m
    rw [List.filterMap_cons, hfr] at m
    rcases List.mem_cons.mp m with z | z
    ·exact ne z
    ·exact nf z
  refine store_ok T hN hj (.inl hn) (show RelV (.ref ea) (.ref ea) from rfl) (fun s7 I7 => ?_) (.inr hn)
  refine wpAny_mono (hh (.ref ea) pins s7 _ _ _ (I7.mark (.ref ea)) (hk ea hn')) (fun fl s8 q => ?_) (fun _ _ z => z.elim)
  cases fl with
  | next =>
   obtain ⟨σ', H'', I8, q8⟩ := q
   exact goes_ok (Inv.unmark I1.ok I8) hN hj hn fun s9 I9 => ⟨_, _, I9, q8⟩
  | ret v => obtain ⟨_, _, _, _, _, z⟩ := q; exact z.elim
  | brk => obtain ⟨_, _, _, z⟩ := q; exact z.elim
  | cont => obtain ⟨_, _, _, z⟩ := q; exact z.elim
 ·cases fl with
  | next => exact wpAny_execs_nil q
  | ret v => exact q
  | brk => exact q
  | cont => exact q
end
section
variable {X : Cx} {k : Nat} {f : Addr} {fd : FuncData} {ps : List Str} {sp : Sp} {dvs : List V} {ds : List Value} {x : Str} {p pos cpos : Pos} {e tg : Expr} {es : List Expr} {t : TA} {g : TG}
def tbAsg (g : TG) (sp : Sp) (dvs : List V) (t : TA) : XK → TS := fun E D σ H => t σ H fun vs H1 => sp (vs ++ dvs) H1 (fun v H2 => g v σ H2 D.nx) E
theorem pb_asg (hx : ∀ e s, ¬ X.xe e s) (Fn : FnOk X.prog X.w X.K X.mg X.base (CX1 X.prog X.w) k f fd ps sp) (hr : Room k X.A) (hgl : Gl X x) (hm : X.mg x = some (.ref f)) (hk : PySem.W.keepIn X.K (.ref f) = true) (hb : Binds X.K fd ps ds) (hd : Vals dvs ds)
  (ha : PA X (e :: es) t) (hg : PG X tg g) (hdb : (x == ("__debug__" : Str)) = false := by decide) (he : starEach (e :: es) X.env = (false, eval e X.env) :: starEach es X.env := by rfl) (hpl : (backTo cpos (starEach es X.env)).any (·.1) = false := by rfl)
  (hs : swapsWithSole [tg] (.Call (.Name x p) (e :: es) [] cpos) pos.line X.env = pure false := by rfl) (hw : swappedStores [tg] (.Call (.Name x p) (e :: es) [] cpos) X.env = pure none := by rfl) (h1 : (assignEach [tg] X.env).map (·.2) = [assign tg X.env] := by rfl) :
  PB X [.Assign [tg] (.Call (.Name x p) (e :: es) [] cpos) pos] (tbAsg g sp dvs t) := by
 intro pins s σ H D E F I hF h
 have hq : wpAny (model X.prog X.w) X.A (eval (.Call (.Name x p) (e :: es) [] cpos) X.env) (EP X pins σ fun v H2 => g v σ H2 D.nx) F s := by
  refine wpAny_Call_Name_kw (ld_glob I hgl hm ?_ hdb)
  refine PySem.W.callWith_K (h₀ := X.base) I.ok.mod.kin hk (wpAny_mono (ha cpos pins s σ H _ I h) (fun us s1 ⟨vs, H1, I1, r, q⟩ => ⟨I1.kIn, ?_⟩) fun _ _ z => (hx _ _ z).elim) he hpl
  have r2 : Vals (vs ++ dvs) (us ++ ds) := r.append hd
  have hl : (us ++ ds).length = ps.length := by rw [← r2.length]; exact Fn.len _ _ _ _ q
  refine wpAny_call (codeAny_mono (Fn.run X.A X.stack s1 H1 ⟨us, []⟩ (us ++ ds) (vs ++ dvs) _ E hr I1.env0 (hb s1 us I1.kIn hl) r2 q) fun r s' hq => ?_)
  cases r with
  | error e => exact hF H1 s1 e s' I1 hq
  | ok fl =>
   cases fl with
   | ret u => exact I1.after hq
   | next => exact False.elim hq
   | brk => exact False.elim hq
   | cont => exact False.elim hq
 refine wpAny_execs_cons ?_
 refine wpAny_Assign_stores (thn hq fun v s1 ⟨z, H1, I1, r1, q1⟩ => ?_) hs hw
 rw [h1]
 exact wpAny_mono (hg pins s1 σ H1 z v _ I1 r1 q1) (fun _ s2 ⟨σ', H', I2, q2⟩ => wpAny_execs_nil ⟨σ', H', I2, q2⟩) fun _ _ z => (hx _ _ z).elim
end
section
variable {X : Cx}
def rIsiT (K : PySem.W.Frag) : List V → Hp → VK → Prop := fun vs H Q => ∃ (ea D tp : Addr) (cs : List V) (cvs : List Value) (b : Bool), vs = [.ref ea, .ref tp] ∧ H ea = some (.ext (ExcAt ea (.ref D))) ∧ ExcCls K D ∧ H tp = some (.tup cs) ∧ (∀ us, Vals cs us → us = cvs) ∧ PySem.W.kitAny K (.ref D) cvs = some b ∧ Q (.bl b) H
theorem call_isiT : CallR X (.builtin "isinstance") (rIsiT X.K) := by
 intro pins s σ H vs us Q I r ⟨ea, D, tp, cs, cvs, b, e, h, hc, ht, hu, hk, q⟩
 subst e
 obtain ⟨u, v, rfl, h1, h2⟩ := r.two
 cases h1
 cases h2
 have ho : ExcAt ea (.ref D) s.heap := (I.hok ea _ h).1
 obtain ⟨_, its, rv, o, o1, o2, m, o3⟩ := I.hok tp _ ht
 cases hu _ rv
 obtain ⟨c, dd, da, sl⟩ := o
 cases o2
 cases o3
 exact PySem.W.kia_tup (kitx_exc hc) I.kIn ho o1 hk (fun z => nomatch z) fun tk => ⟨.bl b, H, I.tok tk, rfl, q⟩
theorem mt_strip : MtR X "str.strip" (fun x xs H Q => ∃ (z y : Str), x = .str z ∧ xs = [.str y] ∧ z.length ≤ sizeLine ∧ Q (.str (Txt.stripChars z y)) H) := by
 intro pins s σ H x xs v us Q I rx rs h
 obtain ⟨z, y, rfl, rfl, hz, q⟩ := h
 obtain ⟨t, rfl⟩ := rx
 obtain ⟨u, rfl, ru⟩ := rs.one
 obtain ⟨t2, rfl⟩ := ru
 exact call_gives F.slot_str_strip (typeIs_str _ _ _) F.entry_str_strip (F.args_str_strip_2 _ _) (gives_str_strip_chars z y t t2) (post_val_or_made (fun _ => fits_stripped _ _ _ hz) fun t' k => ⟨.str _, H, I.tok k, ⟨_, rfl⟩, q⟩)
theorem op_mulS : OpR X (binaryOp .Mult) (fun x y H Q => ∃ (z : Str) (n : Int), x = .str z ∧ y = .int n ∧ MulOk z n ∧ Q (.str (Txt.mul z n)) H) := by
 intro pins s σ H x y v u Q I rx ry ⟨z, n, e1, e2, hm, q⟩
 subst e1 e2
 obtain ⟨t, rfl⟩ := rx
 obtain ⟨t2, rfl⟩ := ry
 exact SB.mul hm fun t' k => ⟨.str _, H, I.tok k, ⟨_, rfl⟩, q⟩
theorem lg2W {i : Int} (h : i.natAbs < 10 ^ 570) : i.natAbs.log2 < 1920 := by
 by_cases z : i.natAbs = 0
 ·rw [z]; decide
 ·exact (Nat.log2_lt z).mpr (Nat.lt_trans h (by decide +kernel))
theorem call_strW : CallR X (.type "str") (fun vs H Q => ∃ i : Int, vs = [.int i] ∧ i.natAbs < 10 ^ 570 ∧ Q (.str (numT i)) H) := by
 intro pins s σ H vs us Q I r ⟨i, e, h, q⟩
 subst e
 cases r with
 | cons r1 r2 =>
  cases r2
  obtain ⟨t, rfl⟩ := r1
  exact PySem.P.str_of_int (lg2W h) ⟨.str (numT i), H, I.tok _, ⟨_, rfl⟩, q⟩
theorem call_isiEK (K : PySem.W.Frag) (h : X.K = K := by rfl) : CallR X (.builtin "isinstance") (rIsiE K) := by
 subst h
 exact call_isiE
theorem call_isiTK (K : PySem.W.Frag) (h : X.K = K := by rfl) : CallR X (.builtin "isinstance") (rIsiT K) := by
 subst h
 exact call_isiT
end
end L2
namespace L2
open PySem PySem.Spec PyProof.Rows
abbrev figs : List Nat := (Str.ofString "0123456789").cps.toList
theorem figs_iff (c : Nat) : c ∈ figs ↔ 48 ≤ c ∧ c ≤ 57 := by
 have e : figs = [48, 49, 50, 51, 52, 53, 54, 55, 56, 57] := by decide
 rw [e]
 simp only [List.mem_cons, List.not_mem_nil, or_false]
 omega
def digB (z : Str) : Bool := z.cps.toList.all fun c => decide (c ∈ figs)
theorem digB_all {z : Str} (h : digB z = true) : NumText.AllDigits z.cps.toList := fun c hc => (figs_iff c).mp (of_decide_eq_true (List.all_eq_true.mp h c hc))
def wrB (z : Str) : Bool := (!decide (z = Str.ofString "") && z.cps.toList.all fun c => decide (c ∈ figs)) && (decide (z = Str.ofString "0") || !decide (z.cps.toList[0]? = some 48))
def valW (z : Str) : Int := ((NumText.digitsVal z.cps.toList : Nat) : Int)
theorem str_nil {z : Str} (h : z ≠ Str.ofString "") : z.cps.toList ≠ [] := fun e => h (str_ext (by rw [e]; rfl))
theorem wr_parts {z : Str} (h : wrB z = true) : z ≠ Str.ofString "" ∧ digB z = true ∧ (z = Str.ofString "0" ∨ z.cps.toList[0]? ≠ some 48) := by
 unfold wrB at h
 rw [Bool.and_eq_true, Bool.and_eq_true, Bool.or_eq_true, Bool.not_eq_true', Bool.not_eq_true', decide_eq_false_iff_not, decide_eq_false_iff_not, decide_eq_true_eq] at h
 exact ⟨h.1.1, h.1.2, h.2⟩
theorem wr_of {z : Str} (h1 : z ≠ Str.ofString "") (h2 : digB z = true) (h3 : z = Str.ofString "0" ∨ z.cps.toList[0]? ≠ some 48) : wrB z = true := by
 unfold wrB
 rw [Bool.and_eq_true, Bool.and_eq_true, Bool.or_eq_true, Bool.not_eq_true', Bool.not_eq_true', decide_eq_false_iff_not, decide_eq_false_iff_not, decide_eq_true_eq]
 exact ⟨⟨h1, h2⟩, h3⟩
theorem ofNat_dig {c : Nat} (h : 48 ≤ c ∧ c ≤ 57) : (Char.ofNat c).toNat = c := by
 have : ∀ c, c < 58 → 48 ≤ c → (Char.ofNat c).toNat = c := by decide
 exact this c (by omega) h.1
theorem wr_val {z : Str} (h : wrB z = true) : numT (valW z) = z := by
 obtain ⟨h1, h2, h3⟩ := wr_parts h
 refine str_ext ?_
 unfold valW
 rw [numT_nat]
 have hd := digB_all h2
 have hn := str_nil h1
 obtain ⟨c, r, e⟩ := List.exists_cons_of_ne_nil hn
 rw [PySem.NumText.toDigits_digitsVal r.length z.cps.toList (by rw [e]; rfl) hd ?_]
 ·rw [List.map_map]
  refine (List.map_congr_left fun c hc => ?_).trans (List.map_id _)
  exact ofNat_dig (hd c hc)
 ·rcases h3 with h3 | h3
  ·left
   rw [h3] at e
   have e : (48 : Nat) :: [] = c :: r := e
   rw [← (List.cons.inj e).2]
   rfl
  ·right
   refine ⟨c, r, e, ?_⟩
   have := hd c (by rw [e]; exact List.mem_cons_self)
   have ne : c ≠ 48 := fun q => h3 (by rw [e, q]; rfl)
   omega
theorem wr_reads {z : Str} (h : wrB z = true) (l : z.length ≤ 640) : PySem.intText? z = some (valW z) := by
 obtain ⟨h1, h2, h3⟩ := wr_parts h
 exact PySem.intText_digits (digB_all h2) (str_nil h1) (Nat.le_trans l (by decide))
theorem digs_lt : ∀ (cs : List Nat) (a : Nat), NumText.AllDigits cs → cs.foldl (fun acc c => acc * 10 + (c - 48)) a < (a + 1) * 10 ^ cs.length
 | [], a, _ => by
  show a < (a + 1) * 1
  omega
 | c :: r, a, h => by
  have h1 := h c List.mem_cons_self
  have ih := digs_lt r (a * 10 + (c - 48)) fun x hx => h x (List.mem_cons_of_mem _ hx)
  refine Nat.lt_of_lt_of_le ih ?_
  rw [List.length_cons, Nat.pow_succ, ← Nat.mul_assoc, Nat.mul_right_comm]
  exact Nat.mul_le_mul_right _ (by omega)
theorem val_lt {z : Str} (h : digB z = true) {k : Nat} (l : z.length ≤ k) : (valW z).natAbs < 10 ^ k := by
 have q := digs_lt z.cps.toList 0 (digB_all h)
 have e : z.cps.toList.length = z.length := Array.length_toList
 rw [e] at q
 show NumText.digitsVal z.cps.toList < 10 ^ k
 refine Nat.lt_of_lt_of_le ?_ (Nat.pow_le_pow_right (by decide) l)
 have q2 : NumText.digitsVal z.cps.toList < (0 + 1) * 10 ^ z.length := q
 rw [Nat.zero_add, Nat.one_mul] at q2
 exact q2
theorem val_pos (z : Str) : 0 ≤ valW z := Int.natCast_nonneg _
theorem tw_stop {p : Nat → Bool} {c : Nat} (h : p c = false) : ∀ l : List Nat, (l ++ [c]).takeWhile p = l.takeWhile p
 | [] => by simp [List.takeWhile, h]
 | x :: r => by
  rw [List.cons_append, List.takeWhile_cons, List.takeWhile_cons, tw_stop h r]
theorem tw_len {p : Nat → Bool} : ∀ l : List Nat, (l.takeWhile p).length = l.length ↔ l.all p = true
 | [] => by simp
 | x :: r => by
  rw [List.takeWhile_cons, List.all_cons]
  cases hx : p x with
  | true =>
   rw [if_pos rfl, List.length_cons, List.length_cons, Bool.true_and]
   have h := tw_len (p := p) r
   exact ⟨fun q => h.mp (by omega), fun q => by have := h.mpr q; omega⟩
  | false => simp
theorem tw_le {p : Nat → Bool} : ∀ l : List Nat, (l.takeWhile p).length ≤ l.length
 | [] => Nat.le_refl _
 | x :: r => by
  rw [List.takeWhile_cons]
  have := tw_le (p := p) r
  split
  ·simp only [List.length_cons]; omega
  ·exact Nat.zero_le _
theorem strip_x (w : Str) : Txt.stripChars (Str.ofString "x" ++ w) (Str.ofString "0123456789") = Str.ofString "x" ↔ digB w = true := by
 have hx : (Str.ofString "x" ++ w).cps.toList = 120 :: w.cps.toList := by
  show ((Str.ofString "x").cps ++ w.cps).toList = _
  rw [Array.toList_append]
  rfl
 have hl : (Str.ofString "x" ++ w).length = w.cps.toList.length + 1 := by
  show (Str.ofString "x" ++ w).cps.size = _
  rw [← Array.length_toList, hx, List.length_cons]
 obtain ⟨p, ep⟩ : ∃ p : Nat → Bool, p = (Str.ofString "0123456789").cps.contains := ⟨_, rfl⟩
 have pf : ∀ c, p c = decide (c ∈ figs) := fun c => by
  rw [ep, Bool.eq_iff_iff, decide_eq_true_eq]
  rw [Array.contains_iff_mem]
  exact Array.mem_toList_iff.symm
 have p120 : p 120 = false := by rw [pf]; decide
 have lo : stripLo p true (Str.ofString "x" ++ w) = 0 := by
  unfold stripLo
  rw [if_pos rfl, hx, List.takeWhile_cons, p120]
  rfl
 have hi : stripHi p true (Str.ofString "x" ++ w) 0 = w.cps.toList.length + 1 - (w.cps.toList.reverse.takeWhile p).length := by
  unfold stripHi
  rw [if_pos rfl, hl, hx, List.drop_zero, List.reverse_cons, tw_stop p120]
 have le := tw_le (p := p) w.cps.toList.reverse
 rw [List.length_reverse] at le
 have full := tw_len (p := p) w.cps.toList.reverse
 rw [List.length_reverse, List.all_reverse] at full
 have all_ : w.cps.toList.all p = digB w := by
  unfold digB
  congr 1
  funext c
  exact pf c
 rw [all_] at full
 have res : (Txt.stripChars (Str.ofString "x" ++ w) (Str.ofString "0123456789")).cps.toList = (120 :: w.cps.toList).take (w.cps.toList.length + 1 - (w.cps.toList.reverse.takeWhile p).length) := by
  show (Txt.stripBy (Str.ofString "0123456789").cps.contains true true (Str.ofString "x" ++ w)).cps.toList = _
  rw [← ep]
  unfold Txt.stripBy
  split
  ·rename_i hs
   unfold stripSame at hs
   rw [lo, hi, hl, Bool.and_eq_true] at hs
   have e := beq_iff_eq.mp hs.2
   rw [hx, e]
   exact (List.take_of_length_le (by rw [List.length_cons]; exact Nat.le_refl _)).symm
  ·unfold stripped
   rw [lo, hi, strSub_list, List.drop_zero, hx]
 constructor
 ·intro h
  rw [h] at res
  have e := congrArg List.length res
  have e1 : ((Str.ofString "x").cps.toList).length = 1 := rfl
  rw [e1, List.length_take, List.length_cons] at e
  exact full.mp (by omega)
 ·intro h
  refine str_ext ?_
  rw [res, full.mpr h, show w.cps.toList.length + 1 - w.cps.toList.length = 1 by omega]
  rfl
theorem first_of {c : Nat} : ∀ {l : List Nat}, c ∈ l → ∃ a b, l = a ++ c :: b ∧ c ∉ a
 | x :: r, h => by
  by_cases e : x = c
  ·exact ⟨[], r, by rw [e]; rfl, fun z => nomatch z⟩
  ·have h2 : c ∈ r := by
    rcases List.mem_cons.mp h with z | z
    ·exact absurd z.symm e
    ·exact z
   obtain ⟨a, b, e1, e2⟩ := first_of h2
   refine ⟨x :: a, b, by rw [e1]; rfl, fun z => ?_⟩
   rcases List.mem_cons.mp z with z | z
   ·exact e z.symm
   ·exact e2 z
def ofL (l : List Nat) : Str := ⟨l.toArray⟩
def swB (z : Str) : Option (List Str) := if z = Str.ofString "" then some [] else if z.cps.toList[0]? = some 32 then some (Txt.split (Txt.slice z (some 1) none) (sgn 32)) else none
def riseB (few : Int) (ns : List Int) : Bool := riseD few (.list (ns.map PyData.int))
def rd2 (a b : Str) : Option (List Int × List Int) :=
 if (Txt.split a (sgn 32)).all wrB = true then
  match swB b with
  | none => none
  | some vs => if vs.all wrB = true then (if (riseB 1 ((Txt.split a (sgn 32)).map valW) && riseB 0 (vs.map valW)) = true then some ((Txt.split a (sgn 32)).map valW, vs.map valW) else none) else none
 else none
def RdT (z : Str) (r : Option (List Int × List Int)) : Prop := (58 ∉ z.cps.toList ∧ r = none) ∨ ∃ a b : Str, 58 ∉ a.cps.toList ∧ z.cps.toList = a.cps.toList ++ 58 :: b.cps.toList ∧ r = rd2 a b
theorem rd_some (z : Str) : ∃ r, RdT z r := by
 by_cases h : 58 ∈ z.cps.toList
 ·obtain ⟨a, b, e, n⟩ := first_of h
  exact ⟨_, .inr ⟨ofL a, ofL b, n, e, rfl⟩⟩
 ·exact ⟨none, .inl ⟨h, rfl⟩⟩
theorem slice_one {z : Str} {r : List Nat} (h : z.cps.toList = 32 :: r) : (Txt.slice z (some 1) none).cps.toList = r := by
 have hl : z.cps.toList.length = r.length + 1 := by rw [h, List.length_cons]
 have e : Txt.slice z (some 1) none = (⟨((z.cps.toList.drop (1 : Int).toNat).take ((z.cps.toList.length : Int) - 1).toNat).toArray⟩ : Str) := StrLaws.sliceText_from ⟨by decide, by rw [hl]; omega⟩
 rw [e]
 show List.take _ _ = _
 rw [h]
 exact List.take_of_length_le (by show r.length ≤ _; rw [List.length_cons]; omega)
theorem val_row {ws : List Str} (h : ws.all wrB = true) : (ws.map valW).map numT = ws := by
 rw [List.map_map]
 refine (List.map_congr_left fun w hw => ?_).trans (List.map_id _)
 exact wr_val (List.all_eq_true.mp h w hw)
theorem row_back {a : Str} (h : (Txt.split a (sgn 32)).all wrB = true) : rowT ((Txt.split a (sgn 32)).map valW) = a := by
 rw [rowT_eq, val_row h, blank_sgn]
 exact StrLaws.join_split _ _
theorem list0 {l : List Nat} {c : Nat} (h : l[0]? = some c) : ∃ r, l = c :: r := by
 cases l with
 | nil => cases h
 | cons x r => exact ⟨r, by cases h; rfl⟩
theorem tail_back {b : Str} {vs : List Str} (h : swB b = some vs) (hv : vs.all wrB = true) : tailT (vs.map valW) = b := by
 unfold swB at h
 split at h
 ·rename_i e
  cases h
  exact e.symm
 ·split at h
  ·rename_i n0 h0
   cases h
   obtain ⟨r, er⟩ := list0 h0
   have es := slice_one er
   obtain ⟨w, ws, ew⟩ := List.exists_cons_of_ne_nil (split_ne (Txt.slice b (some 1) none) 32)
   have rb := row_back hv
   rw [ew, List.map_cons] at rb ⊢
   refine str_ext ?_
   rw [tailT_cons, rb, es, er]
  ·cases h
theorem rd_back {z : Str} {ns ss : List Int} (h : RdT z (some (ns, ss))) : planT ns ss = z ∧ (riseB 1 ns && riseB 0 ss) = true := by
 rcases h with ⟨_, h⟩ | ⟨a, b, na, ez, h⟩
 ·cases h
 ·unfold rd2 at h
  split at h
  ·rename_i wa
   split at h
   ·cases h
   ·rename_i vs hvs
    split at h
    ·rename_i wv
     split at h
     ·rename_i hr
      cases h
      refine ⟨str_ext ?_, hr⟩
      rw [planT_list, row_back wa, tail_back hvs wv, ez]
     ·cases h
    ·cases h
  ·cases h
def upB : List Int → Bool
 | [] => true
 | [_] => true
 | a :: b :: r => decide (a < b) && upB (b :: r)
theorem up_iff : ∀ l : List Int, upB l = true ↔ l.Pairwise (· < ·)
 | [] => by simp [upB]
 | [a] => by simp [upB]
 | a :: b :: r => by
  rw [upB, Bool.and_eq_true, decide_eq_true_eq, up_iff (b :: r), List.pairwise_cons (a := a)]
  constructor
  ·rintro ⟨h1, h2⟩
   refine ⟨fun x hx => ?_, h2⟩
   rcases List.mem_cons.mp hx with e | e
   ·rw [e]; exact h1
   ·exact Int.lt_trans h1 ((List.pairwise_cons.mp h2).1 x e)
  ·rintro ⟨h1, h2⟩
   exact ⟨h1 b List.mem_cons_self, h2⟩
def lnB (few : Nat) (ws : List Str) : Bool := (decide (few ≤ ws.length) && decide (ws.length ≤ 10)) && (ws.all wrB && upB (ws.map valW))
theorem riseGo_iff : ∀ (ns : List Int) (b : Int), riseGo b (ns.map PyData.int) = true ↔ (b :: ns).Pairwise (· < ·)
 | [], b => by simp [riseGo]
 | n :: r, b => by
  rw [List.map_cons, riseGo, Bool.and_eq_true, decide_eq_true_eq, riseGo_iff r n, List.pairwise_cons (a := b)]
  constructor
  ·rintro ⟨h1, h2⟩
   refine ⟨fun x hx => ?_, h2⟩
   rcases List.mem_cons.mp hx with e | e
   ·rw [e]; exact h1
   ·exact Int.lt_trans h1 ((List.pairwise_cons.mp h2).1 x e)
  ·rintro ⟨h1, h2⟩
   exact ⟨h1 n List.mem_cons_self, h2⟩
theorem rise_ws (few : Nat) (ws : List Str) : riseB few (ws.map valW) = ((decide (few ≤ ws.length) && decide (ws.length ≤ 10)) && upB (ws.map valW)) := by
 have e : riseB few (ws.map valW) = (decide ((few : Int) ≤ (((ws.map valW).map PyData.int).length : Int)) && (decide (((ws.map valW).map PyData.int).length ≤ 10) && riseGo (-1) ((ws.map valW).map PyData.int))) := rfl
 rw [e, List.length_map, List.length_map, ← Bool.and_assoc]
 congr 1
 ·congr 1
  exact decide_eq_decide.mpr Int.ofNat_le
 ·rw [Bool.eq_iff_iff, riseGo_iff, up_iff, List.pairwise_cons]
  constructor
  ·exact fun h => h.2
  ·refine fun h => ⟨fun x hx => ?_, h⟩
   obtain ⟨w, _, rfl⟩ := List.mem_map.mp hx
   have := val_pos w
   omega
theorem ln_iff (few : Nat) (ws : List Str) : lnB few ws = (ws.all wrB && riseB few (ws.map valW)) := by
 unfold lnB
 rw [rise_ws]
 cases ws.all wrB <;> cases (decide (few ≤ ws.length) && decide (ws.length ≤ 10)) <;> rfl
def wr2 (a b : Str) : Bool := lnB 1 (Txt.split a (sgn 32)) && (decide (b = Str.ofString "") || (decide ((Txt.split b (sgn 32))[0]? = some (Str.ofString "")) && lnB 1 ((Txt.split b (sgn 32)).drop 1)))
theorem split_blank {b : Str} {r : List Nat} (h : b.cps.toList = 32 :: r) : Txt.split b (sgn 32) = Str.ofString "" :: Txt.split (ofL r) (sgn 32) := by
 have e : b = Str.join (sgn 32) (Str.ofString "" :: Txt.split (ofL r) (sgn 32)) := by
  obtain ⟨w, ws, ew⟩ := List.exists_cons_of_ne_nil (split_ne (ofL r) 32)
  refine str_ext ?_
  rw [ew, join_two, ← ew, StrLaws.join_split, h]
  rfl
 have k := split_join (c := 32) (ws := Str.ofString "" :: Txt.split (ofL r) (sgn 32)) (fun x hx => ?_) (List.cons_ne_nil _ _)
 ·rw [← e] at k
  exact k
 ·rcases List.mem_cons.mp hx with z | z
  ·rw [z]
   exact fun z => nomatch z
  ·exact StrLaws.split_free _ 32 x z
theorem wr2_rd2 {a b : Str} (hb : 58 ∉ b.cps.toList ∨ (rd2 a b).isSome = true) : wr2 a b = (rd2 a b).isSome := by
 clear hb
 unfold wr2 rd2
 rw [ln_iff]
 by_cases wa : (Txt.split a (sgn 32)).all wrB = true
 ·rw [if_pos wa, wa, Bool.true_and]
  by_cases b0 : b = Str.ofString ""
  ·have e : swB b = some [] := by unfold swB; rw [if_pos b0]
   rw [e, decide_eq_true b0, Bool.true_or, Bool.and_true]
   show _ = (if [].all wrB = true then _ else none : Option (List Int × List Int)).isSome
   rw [if_pos (show ([] : List Str).all wrB = true from rfl)]
   have e2 : riseB 0 (([] : List Str).map valW) = true := rfl
   rw [e2, Bool.and_true]
   show riseB ((1 : Nat) : Int) _ = _
   cases riseB 1 ((Txt.split a (sgn 32)).map valW) <;> rfl
  ·rw [decide_eq_false b0, Bool.false_or]
   by_cases h0 : b.cps.toList[0]? = some 32
   ·obtain ⟨r, er⟩ := list0 h0
    have es : Txt.slice b (some 1) none = ofL r := str_ext (slice_one er)
    have e : swB b = some (Txt.split (ofL r) (sgn 32)) := by unfold swB; rw [if_neg b0, if_pos h0, es]
    rw [e, split_blank er]
    show (_ && (decide (some (Str.ofString "") = some (Str.ofString "")) && lnB 1 (Txt.split (ofL r) (sgn 32)))) = (if (Txt.split (ofL r) (sgn 32)).all wrB = true then _ else none : Option (List Int × List Int)).isSome
    rw [decide_eq_true rfl, Bool.true_and, ln_iff]
    by_cases wv : (Txt.split (ofL r) (sgn 32)).all wrB = true
    ·rw [if_pos wv, wv, Bool.true_and]
     have e3 : riseB ((1 : Nat) : Int) ((Txt.split (ofL r) (sgn 32)).map valW) = riseB 0 ((Txt.split (ofL r) (sgn 32)).map valW) := by
      have q1 := rise_ws 1 (Txt.split (ofL r) (sgn 32))
      have q0 := rise_ws 0 (Txt.split (ofL r) (sgn 32))
      rw [q1, show (0 : Int) = ((0 : Nat) : Int) from rfl, q0]
      have n0 := split_ne (ofL r) 32
      have l1 : 1 ≤ (Txt.split (ofL r) (sgn 32)).length := by
       rcases Nat.eq_zero_or_pos (Txt.split (ofL r) (sgn 32)).length with z | z
       ·exact absurd (List.eq_nil_of_length_eq_zero z) n0
       ·exact z
      rw [decide_eq_true l1, decide_eq_true (Nat.zero_le _)]
     rw [e3]
     show (riseB ((1 : Nat) : Int) _ && _) = _
     cases (riseB 1 ((Txt.split a (sgn 32)).map valW) && riseB 0 ((Txt.split (ofL r) (sgn 32)).map valW)) <;> rfl
    ·rw [if_neg wv, Bool.eq_false_iff.mpr wv, Bool.false_and, Bool.and_false]
     rfl
   ·have e : swB b = none := by unfold swB; rw [if_neg b0, if_neg h0]
    rw [e]
    have e2 : decide ((Txt.split b (sgn 32))[0]? = some (Str.ofString "")) = false := by
     refine decide_eq_false fun z => h0 ?_
     obtain ⟨w, ws, ew⟩ := List.exists_cons_of_ne_nil (split_ne b 32)
     rw [ew] at z
     have ew0 : w = Str.ofString "" := Option.some.inj z
     have eb := StrLaws.join_split b (sgn 32)
     rw [ew, ew0] at eb
     cases ws with
     | nil => exact absurd eb.symm b0
     | cons v vs =>
      rw [← eb, join_two]
      rfl
    rw [e2, Bool.false_and, Bool.and_false]
    rfl
 ·rw [if_neg wa, Bool.eq_false_iff.mpr wa, Bool.false_and, Bool.false_and]
  rfl
def wrT (z : Str) : Bool := decide ((Txt.split z (sgn 58)).length = 2) && wr2 ((Txt.split z (sgn 58)).getD 0 Str.empty) ((Txt.split z (sgn 58)).getD 1 Str.empty)
theorem rd2_free {a b : Str} (h : (rd2 a b).isSome = true) : 58 ∉ b.cps.toList := by
 unfold rd2 at h
 split at h
 ·split at h
  ·cases h
  ·rename_i vs hvs
   split at h
   ·rename_i wv
    rw [← tail_back hvs wv]
    cases ev : vs.map valW with
    | nil => exact fun z => nomatch z
    | cons v r =>
     rw [tailT_cons]
     intro z
     rcases List.mem_cons.mp z with z | z
     ·cases z
     ·exact rowT_free _ z
   ·cases h
 ·cases h
theorem split_two {a b z : Str} (ha : 58 ∉ a.cps.toList) (hb : 58 ∉ b.cps.toList) (ez : z.cps.toList = a.cps.toList ++ 58 :: b.cps.toList) : Txt.split z (sgn 58) = [a, b] := by
 have e : z = Str.join (sgn 58) [a, b] := str_ext (by rw [join_two, ez]; rfl)
 rw [e]
 refine split_join (fun x hx => ?_) (List.cons_ne_nil _ _)
 simp only [List.mem_cons, List.not_mem_nil, or_false] at hx
 rcases hx with h | h <;> rw [h]
 ·exact ha
 ·exact hb
theorem rd_wr {z : Str} {r : Option (List Int × List Int)} (h : RdT z r) : wrT z = r.isSome := by
 rcases h with ⟨nc, rfl⟩ | ⟨a, b, na, ez, rfl⟩
 ·have e : Txt.split z (sgn 58) = [z] := by
   have q := split_join (c := 58) (ws := [z]) (fun x hx => by rw [List.mem_singleton.mp hx]; exact nc) (List.cons_ne_nil _ _)
   exact q
  unfold wrT
  rw [e]
  rfl
 ·by_cases nb : 58 ∉ b.cps.toList
  ·unfold wrT
   rw [split_two na nb ez]
   show (decide (2 = 2) && wr2 a b) = _
   rw [decide_eq_true rfl, Bool.true_and]
   exact wr2_rd2 (.inl nb)
  ·have e1 : (rd2 a b).isSome = false := Bool.eq_false_iff.mpr fun q => nb (rd2_free q)
   rw [e1]
   unfold wrT
   have e2 : decide ((Txt.split z (sgn 58)).length = 2) = false := by
    refine decide_eq_false fun q => nb ?_
    match hs : Txt.split z (sgn 58), q with
    | [x, y], _ =>
     have ej := StrLaws.join_split z (sgn 58)
     rw [hs] at ej
     have ex : z.cps.toList = x.cps.toList ++ 58 :: y.cps.toList := by rw [← ej, join_two]; rfl
     have fx : 58 ∉ x.cps.toList := StrLaws.split_free z 58 x (by show x ∈ Txt.split z (sgn 58); rw [hs]; exact List.mem_cons_self)
     have fy : 58 ∉ y.cps.toList := StrLaws.split_free z 58 y (by show y ∈ Txt.split z (sgn 58); rw [hs]; exact List.mem_cons_of_mem _ List.mem_cons_self)
     rw [ez] at ex
     obtain ⟨_, e4⟩ := glue_injC na fx ex
     rw [e4]
     exact fy
   rw [e2, Bool.false_and]
theorem numT_lenB {i : Int} {k : Nat} (hk : 0 < k) (h : i.natAbs < 10 ^ k) : (numT i).length ≤ k + 1 := by
 have q := int_text_length_le10 hk h
 have q2 : (Str.ofString (toString i)).length = (toString i).length := PySem.ofString_length _
 show (Str.ofString (toString i)).length ≤ k + 1
 omega
theorem rowT_lenB {B : Nat} : ∀ {zs : List Int}, (∀ x ∈ zs, (numT x).length ≤ B) → (rowT zs).length ≤ (B + 1) * zs.length
 | [], _ => Nat.le_refl _
 | [x], h => by
  have e : (rowT [x]).length = (numT x).length := by show (rowT [x]).cps.size = (numT x).cps.size; rw [← Array.length_toList, rowT_one, Array.length_toList]
  have := h x List.mem_cons_self
  rw [e]
  show _ ≤ (B + 1) * 1
  omega
 | x :: y :: r, h => by
  have ih := rowT_lenB (zs := y :: r) fun z hz => h z (List.mem_cons_of_mem _ hz)
  have h1 := h x List.mem_cons_self
  have e : (rowT (x :: y :: r)).length = (numT x).length + ((rowT (y :: r)).length + 1) := by
   show (rowT (x :: y :: r)).cps.size = (numT x).cps.size + ((rowT (y :: r)).cps.size + 1)
   rw [← Array.length_toList, rowT_cons, List.length_append, List.length_cons, Array.length_toList, Array.length_toList]
  rw [e]
  have e2 : (B + 1) * (x :: y :: r).length = (B + 1) * (y :: r).length + (B + 1) := by rw [List.length_cons (a := x), Nat.mul_succ]
  omega
theorem tailT_lenB {B : Nat} {ss : List Int} (h : ∀ x ∈ ss, (numT x).length ≤ B) : (tailT ss).length ≤ (B + 1) * ss.length + 1 := by
 cases ss with
 | nil => exact Nat.zero_le _
 | cons s r =>
  have e : (tailT (s :: r)).length = (rowT (s :: r)).length + 1 := by
   show (tailT (s :: r)).cps.size = (rowT (s :: r)).cps.size + 1
   rw [← Array.length_toList, tailT_cons, List.length_cons, Array.length_toList]
  rw [e]
  exact Nat.succ_le_succ (rowT_lenB h)
theorem rowT_fitsB {zs : List Int} (h : ∀ x ∈ zs, (numT x).length ≤ 571) (l : zs.length ≤ 100) : JoinOk (Str.ofString " ") (zs.map numT) = true := by
 refine joinOk_of_weight ?_ (by decide)
 have := sum_list_le (l := (zs.map numT).map (·.length)) (B := 571) fun x hx => by
  obtain ⟨y, hy, rfl⟩ := List.mem_map.mp hx
  obtain ⟨s, hs, rfl⟩ := List.mem_map.mp hy
  exact h s hs
 rw [List.length_map, List.length_map] at this
 rw [List.length_map]
 omega
theorem tailT_fitsB {zs : List Int} (h : ∀ x ∈ zs, (numT x).length ≤ 571) (l : zs.length ≤ 100) : JoinOk (Str.ofString "") (zs.map fun s => Str.ofString " " ++ numT s) = true := by
 refine joinOk_of_weight ?_ (by decide)
 have := sum_list_le (l := (zs.map fun s => Str.ofString " " ++ numT s).map (·.length)) (B := 572) fun x hx => by
  obtain ⟨y, hy, rfl⟩ := List.mem_map.mp hx
  obtain ⟨s, hs, rfl⟩ := List.mem_map.mp hy
  have e : (Str.ofString " " ++ numT s).length = 1 + (numT s).length := app_len _ _
  have := h s hs
  show (Str.ofString " " ++ numT s).length ≤ 572
  omega
 rw [List.length_map, List.length_map] at this
 rw [List.length_map]
 omega
theorem join_le {c : Nat} : ∀ {ws : List Str} {w : Str}, w ∈ ws → w.cps.toList.length ≤ (Str.join (sgn c) ws).cps.toList.length
 | [x], w, h => by rw [List.mem_singleton.mp h]; exact Nat.le_refl _
 | x :: y :: r, w, h => by
  rw [join_two, List.length_append, List.length_cons]
  rcases List.mem_cons.mp h with e | e
  ·rw [e]; omega
  ·have := join_le (c := c) e; omega
theorem split_le {a : Str} {c : Nat} {w : Str} (h : w ∈ Txt.split a (sgn c)) : w.length ≤ a.length := by
 have q := join_le (c := c) h
 rw [StrLaws.join_split] at q
 rw [Array.length_toList, Array.length_toList] at q
 exact q
theorem split_len (a : Str) (c : Nat) : (Txt.split a (sgn c)).length ≤ a.length + 1 := by
 have key : ∀ ws : List Str, ws.length ≤ (Str.join (sgn c) ws).cps.toList.length + 1 := fun ws => by
  induction ws with
  | nil => exact Nat.zero_le _
  | cons x r ih =>
   cases r with
   | nil => show 1 ≤ _; omega
   | cons y r =>
    rw [join_two, List.length_append, List.length_cons (as := (Str.join (sgn c) (y :: r)).cps.toList), List.length_cons (a := x)]
    omega
 have q := key (Txt.split a (sgn c))
 rw [StrLaws.join_split, Array.length_toList] at q
 exact q
def Wid (xs : List Int) : Prop := ∀ x ∈ xs, x.natAbs < 10 ^ 570
theorem Wid.len {xs : List Int} (h : Wid xs) : ∀ x ∈ xs, (numT x).length ≤ 571 := fun x hx => numT_lenB (by decide) (h x hx)
theorem Wid.map {ws : List Str} {k : Nat} (h : ws.all wrB = true) (l : ∀ w ∈ ws, w.length ≤ k) (hk : k ≤ 570) : Wid (ws.map valW) := fun x hx => by
 obtain ⟨w, hw, rfl⟩ := List.mem_map.mp hx
 exact val_lt (wr_parts (List.all_eq_true.mp h w hw)).2.1 (Nat.le_trans (l w hw) hk)
theorem slice_from_le (z : Str) : (Txt.slice z (some 1) none).length ≤ z.length := Txt.slice_le z _ _
theorem sw_le {b : Str} {vs : List Str} (h : swB b = some vs) : (∀ w ∈ vs, w.length ≤ b.length) ∧ vs.length ≤ b.length + 1 := by
 unfold swB at h
 split at h
 ·cases h
  exact ⟨(fun _ h => nomatch h), Nat.zero_le _⟩
 ·split at h
  ·cases h
   have := slice_from_le b
   refine ⟨fun w hw => Nat.le_trans (split_le hw) this, ?_⟩
   have := split_len (Txt.slice b (some 1) none) 32
   omega
  ·cases h
theorem half_le {z a b : Str} (ez : z.cps.toList = a.cps.toList ++ 58 :: b.cps.toList) : a.length ≤ z.length ∧ b.length ≤ z.length := by
 have e : z.length = a.length + (b.length + 1) := by
  show z.cps.size = a.cps.size + (b.cps.size + 1)
  rw [← Array.length_toList, ez, List.length_append, List.length_cons, Array.length_toList, Array.length_toList]
 omega
theorem rd_wid {z : Str} {ns ss : List Int} (h : RdT z (some (ns, ss))) (l : z.length ≤ 570) : Wid ns ∧ Wid ss := by
 rcases h with ⟨_, h⟩ | ⟨a, b, na, ez, h⟩
 ·cases h
 ·obtain ⟨la, lb⟩ := half_le ez
  unfold rd2 at h
  split at h
  ·rename_i wa
   split at h
   ·cases h
   ·rename_i vs hvs
    split at h
    ·rename_i wv
     split at h
     ·cases h
      exact ⟨Wid.map wa (fun w hw => split_le hw) (by omega), Wid.map wv (sw_le hvs).1 (by omega)⟩
     ·cases h
    ·cases h
  ·cases h
def RdD : PyData → Option (List Int × List Int) → Prop
 | .str z, r => RdT z r
 | _, r => r = none
def isS : PyData → Bool
 | .str _ => true
 | _ => false
theorem kit_s (K : PySem.W.Frag) (d : PyData) : PySem.W.kitOne K (.type (tyD d)) (.type "str") = some (isS d) := by cases d <;> rfl
def ShD (d : PyData) : Prop := ∀ z, d = .str z → z.length ≤ 570
end L2
namespace N46
open PySem PySem.Spec PyProof.Rows L2
abbrev Kee (K : PySem.W.Frag) (f : Addr) : Prop := PySem.W.keepIn K (.ref f) = true
theorem two_le : 2 ≤ sizeLine := by decide
variable {P : Program} {w : World} {K : PySem.W.Frag} {mg : Str → Option Value} {base : Heap}
def top (i : Nat) : Stmt := PySem.Challenge.pw_nearsums_k46_texts_that_write_no_plan.main.body.getD i (.Pass ⟨0, 0, 0, 0⟩)
structure Bt (mg : Str → Option Value) : Prop where
 len : mg "len" = none
 max : mg "max" = none
 min : mg "min" = none
 range : mg "range" = none
 list : mg "list" = none
 int : mg "int" = none
structure Dk (H : Hp) (d p : Addr) (qs : List Addr) : Prop where
 dk : ∃ c : Int, H d = some (.lst [.ref p, .int c])
 pl : H p = some (.lst (qs.map V.ref))
 ne : 0 < qs.length
 le : qs.length ≤ 63
 q : ∀ q ∈ qs, ∃ a b c : Int, H q = some (.lst [.int a, .int b, .int c])
structure Bt2 (mg : Str → Option Value) : Prop extends Bt mg where
 all : mg "all" = none
 isinstance : mg "isinstance" = none
 bool : mg "bool" = none
 str : mg "str" = none
 tuple : mg "tuple" = none
 sorted : mg "sorted" = none
theorem none_of_same {H H' : Hp} {p : Addr} (g : Same H H') (h : H' p = none) : H p = none := by
 cases e : H p with
 | none => rfl
 | some o => rw [g _ _ e] at h; cases h
structure Rise (xs : List Int) : Prop where
 up : xs.Pairwise (· < ·)
 bd : ∀ x ∈ xs, 0 ≤ x
structure PlanOk (ns ss : List Int) : Prop where
 n : Rise ns
 s : Rise ss
 n1 : 1 ≤ ns.length
 n2 : ns.length ≤ 10
 s2 : ss.length ≤ 10
def SumsOk (H : Hp) (sd : Addr) (n : Nat) : Prop := ∃ (kvs : List (Key × V)) (ks : List Int), H sd = some (.dK kvs) ∧ kvs.map (·.1) = ks.map Sum.inl ∧ ks.Nodup ∧ (∀ x ∈ ks, 0 ≤ x ∧ x < 10 ^ 26) ∧ ks.length ≤ n
theorem SumsOk.stay {H H' : Hp} {sd : Addr} {n : Nat} (h : SumsOk H sd n) (e : ∀ {o}, H sd = some o → H' sd = some o) : SumsOk H' sd n := by
 obtain ⟨kvs, ks, h1, h2⟩ := h
 exact ⟨kvs, ks, e h1, h2⟩
theorem SumsOk.upto {H : Hp} {sd : Addr} {n m : Nat} (h : SumsOk H sd n) (e : n ≤ m) : SumsOk H sd m := by
 obtain ⟨kvs, ks, h1, h2, h3, h4, h5⟩ := h
 exact ⟨kvs, ks, h1, h2, h3, h4, Nat.le_trans h5 e⟩
theorem SumsOk.more {H : Hp} {sd : Addr} {n : Nat} (h : SumsOk H sd n) : SumsOk H sd (n + 1) := h.upto (Nat.le_succ _)
theorem SumsOk.put {H : Hp} {sd : Addr} {n : Nat} {x : Int} (h : SumsOk H sd n) (x0 : 0 ≤ x) (x1 : x < 10 ^ 26) : ∃ kvs, H sd = some (.dK kvs) ∧ kvs.length ≤ n ∧ SumsOk (upd H sd (.dK (putK kvs (Sum.inl x) (.bl true)))) sd (n + 1) := by
 obtain ⟨kvs, ks, h1, h2, h3, h4, h5⟩ := h
 have hl : kvs.length = ks.length := by have := congrArg List.length h2; simpa using this
 refine ⟨kvs, h1, by omega, _, _, upd_same, putK_keys h2, ?_, ?_, ?_⟩
 ·split
  ·exact h3
  ·rename_i hx
   refine List.nodup_append.mpr ⟨h3, List.nodup_cons.mpr ⟨(fun h => nomatch h), List.nodup_nil⟩, fun a ha b hb e => ?_⟩
   have : b = x := List.mem_singleton.mp hb
   exact hx (this ▸ e ▸ ha)
 ·intro y hy
  split at hy
  ·exact h4 y hy
  ·rcases List.mem_append.mp hy with z | z
   ·exact h4 y z
   ·rw [List.mem_singleton.mp z]; exact ⟨x0, x1⟩
 ·split
  ·omega
  ·rw [List.length_append, List.length_singleton]; omega
theorem strict {xs : List Int} (h : xs.Pairwise (· ≤ ·)) (n : xs.Nodup) : xs.Pairwise (· < ·) := by
 induction xs with
 | nil => exact .nil
 | cons x r ih =>
  rw [List.pairwise_cons] at h ⊢
  rw [List.nodup_cons] at n
  refine ⟨fun y hy => ?_, ih h.2 n.2⟩
  have h1 := h.1 y hy
  have h2 : x ≠ y := fun e => n.1 (e ▸ hy)
  omega
structure Bt3 (mg : Str → Option Value) : Prop extends Bt2 mg where
 enumerate : mg "enumerate" = none
structure BtR (mg : Str → Option Value) : Prop extends Bt2 mg where
 repr : mg "repr" = none
abbrev sWhole : Stmt := top 16
abbrev sRise : Stmt := top 17
abbrev sIsP : Stmt := top 18
structure IsPl (H : Hp) (t a b : Addr) (ns ss : List Int) : Prop where
 t : H t = some (.tup [.ref a, .ref b])
 a : H a = some (.lst (ns.map V.int))
 b : H b = some (.lst (ss.map V.int))
 ok : PlanOk ns ss
theorem IsPl.same {H H' : Hp} {t a b : Addr} {ns ss : List Int} (h : IsPl H t a b ns ss) (g : Same H H') : IsPl H' t a b ns ss := ⟨g _ _ h.t, g _ _ h.a, g _ _ h.b, h.ok⟩
def spWholeD : Sp := fun vs H Q _ => ∃ v d, vs = [v] ∧ Dat H v d ∧ Q (.bl (isW d)) H
def spRiseD : Sp := fun vs H Q _ => ∃ v d few, vs = [v, .int few] ∧ Dat H v d ∧ Q (.bl (riseD few d)) H
def spIsPD : Sp := fun vs H Q _ => ∃ v d, vs = [v] ∧ Dat H v d ∧ Q (.bl (planD d)) H
theorem rise_step {ds : List PyData} {i : Nat} {d : PyData} {b : Int} (e : ds[i]? = some d) : riseGo b (ds.drop i) = riseGo b (d :: ds.drop (i + 1)) := by
 obtain ⟨hi, hv⟩ := List.getElem?_eq_some_iff.mp e
 rw [List.drop_eq_getElem_cons hi, hv]
section
variable {f wh ri : Addr} {fd whd rid : FuncData} {t10 : Tok}
theorem scWhole : FnScope ["thing"] ["thing"] (defScope sWhole) := ⟨rfl, rfl, rfl, by decide +kernel, rfl, by decide +kernel, by decide +kernel⟩
theorem ok_wholeD (F : Fun K "is_whole" "is_whole" sWhole f fd) (B : Bt2 mg) : FnOk P w K mg base CX0 1 f fd ["thing"] spWholeD := by
 refine F.ok scWhole (fun vs H Q E h => ?_) (fun cdv A outer s H vs Q E hr h => ?_)
 ·obtain ⟨v, d, rfl, _⟩ := h
  rfl
 obtain ⟨v, d, rfl, hd, q⟩ := h
 refine ⟨_, (@pss_one _ _ _ (ps_ret (pe_and (pe_callB (call_isi "int") rfl B.isinstance boot_isinstance (pa_cons (pv 0) (pa_cons (pe_bltn (v := .ty "int") rfl B.int PyProof.Rows.boot_int rfl) pa_nil))) (pe_one (pe_not (pe_callB (call_isi "bool") rfl B.isinstance boot_isinstance (pa_cons (pv 0) (pa_cons (pe_bltn (v := .ty "bool") rfl B.bool PyProof.Rows.boot_bool rfl) pa_nil)))))))), ?_⟩
 refine ⟨_, rfl, _, _, isI d, rfl, hd.ty, kit_i _ d, _, rfl, ite2 (fun c => ?_) (fun c => ?_)⟩
 ·refine ⟨_, rfl, _, _, isB d, rfl, hd.ty, kit_b _ d, _, rfl, ?_⟩
  have e : (!isB d) = isW d := by cases d <;> first | rfl | cases c
  rw [← e] at q
  exact q
 ·have e : isW d = false := by cases d <;> first | rfl | exact absurd rfl c
  rw [e] at q
  exact q
theorem scRise : FnScope ["thing", "fewest", "below", "number"] ["thing", "fewest"] (defScope sRise) := ⟨rfl, rfl, rfl, by decide +kernel, rfl, by decide +kernel, by decide +kernel⟩
theorem ok_riseD (F : Fun K "is_rising_list" "is_rising_list" sRise f fd) (B : Bt2 mg) (m10 : mg "MOST" = some (.int 10 t10))
  (GW : FnOk P w K mg base CX0 1 wh whd ["thing"] spWholeD) (bW : Binds K whd ["thing"] []) (kW : Kee K wh) (mW : mg "is_whole" = some (.ref wh)) : FnOk P w K mg base CX0 2 f fd ["thing", "fewest"] spRiseD := by
 refine F.ok scRise (fun vs H Q E h => ?_) (fun cdv A outer s H vs Q E hr h => ?_)
 ·obtain ⟨v, d, few, rfl, _⟩ := h
  rfl
 obtain ⟨v, d, few, rfl, hd, q⟩ := h
 refine ⟨_, (@pss_cons _ _ _ _ _ (ps_if (PW.pt (pw_or (pt_not (pt_val (pe_callB (call_isi "list") rfl B.isinstance boot_isinstance (pa_cons (pv 0) (pa_cons (pe_bltn (v := .ty "list") rfl B.list PyProof.Rows.boot_list rfl) pa_nil))))) (pw_or1 (pt_not (pt_chain op_le op_le (pv 1) (pe_callB call_len_seq rfl B.len PySem.boot_len (pa_cons (pv 0) pa_nil)) (pe_glob (v := .int 10) rfl m10 ⟨_, rfl⟩)))))) (@pss_one _ _ _ (ps_ret pe_bl)) pss_nil) (@pss_cons _ _ _ _ _ (ps_set (i := 2) scRise.nd rfl (Or.inl rfl) (pe_un un_neg pe_int)) (@pss_cons _ _ _ _ _ (ps_for PassesOwn.never rfl (pi_list (pv 0)) (pg_name (i := 3) scRise.nd rfl (Or.inl rfl)) (@pss_cons _ _ _ _ _ (ps_if (PW.pt (pw_or (pt_not (pt_val (pe_call GW hr rfl mW kW bW .nil pass0 (pa_cons (pv 3) pa_nil)))) (pw_or1 (pt_cmpR op_le (pv 3) (pv 2) (nomark _))))) (@pss_one _ _ _ (ps_ret pe_bl)) pss_nil) (@pss_one _ _ _ (ps_set (i := 2) scRise.nd rfl (Or.inl rfl) (pv 3))))) (@pss_one _ _ _ (ps_ret pe_bl))))), ?_⟩
 refine ⟨_, rfl, _, _, isL d, rfl, hd.ty, kit_l _ d, _, rfl, ite2 (fun c => ?_) (fun c => ?_)⟩
 ·have e : riseD few d = false := by cases d <;> first | rfl | cases c
  rw [e] at q
  exact q
 cases hd with
 | lst ha hx =>
  rename_i a xs ds
  have hl := hx.len
  have eq : riseD few (.list ds) = (decide (few ≤ (ds.length : Int)) && (decide (ds.length ≤ 10) && riseGo (-1) ds)) := rfl
  rw [eq] at q
  refine ⟨_, rfl, _, rfl, a, _, rfl, .inl (SqL.of ha), _, _, rfl, rfl, _, rfl, ite2 (fun c1 => ?_) (fun c1 => ?_)⟩
  ·refine ⟨_, _, rfl, rfl, _, rfl, ite2 (fun c2 => ?_) (fun c2 => ?_)⟩
   ·have e : decide (ds.length ≤ 10) = false := by
     have c3 : (!decide (((xs.length : Nat) : Int) ≤ 10)) = true := c2
     rw [Bool.not_eq_true', decide_eq_false_iff_not] at c3
     exact decide_eq_false (by omega)
    rw [e, Bool.false_and, Bool.and_false] at q
    exact q
   ·have e1 : decide (few ≤ (ds.length : Int)) = true := by rw [← hl]; exact c1
    have e2 : decide (ds.length ≤ 10) = true := by
     have c3 : ¬ (!decide (((xs.length : Nat) : Int) ≤ 10)) = true := c2
     rw [Bool.not_eq_true', decide_eq_false_iff_not] at c3
     exact decide_eq_true (by omega)
    rw [e1, e2, Bool.true_and, Bool.true_and] at q
    refine ⟨_, rfl, _, rfl, a, rfl, ⟨_, SqL.of ha⟩, ?_⟩
    refine for_list (xs := xs) (fun i σ H' => ∃ (bl : Int) (y : Option V), σ = [some (.ref a), some (.int few), some (.int bl), y] ∧ H' = H ∧ riseGo bl (ds.drop i) = riseGo (-1) ds)
     ⟨-1, none, rfl, rfl, rfl⟩ (fun i σ H' _ ⟨_, _, _, e, _⟩ => by rw [e]; exact SqL.of ha) ?_ ?_
    ·rintro i x σ H' hxi ⟨bl, y, rfl, rfl, hb⟩
     obtain ⟨d', ed, hd'⟩ := hx.at hxi
     rw [rise_step ed] at hb
     refine ⟨_, rfl, x, d', rfl, hd', _, rfl, ite2 (fun c3 => ?_) (fun c3 => ?_)⟩
     ·have e : riseGo bl (d' :: ds.drop (i + 1)) = false := by cases d' <;> first | rfl | cases c3
      rw [← hb, e] at q
      exact q
     ·cases d' with
      | int n =>
       cases hd'
       refine ⟨_, rfl, _, rfl, _, _, rfl, rfl, _, rfl, ite2 (fun c4 => ?_) (fun c4 => ?_)⟩
       ·have e : riseGo bl (.int n :: ds.drop (i + 1)) = false := by
         have c5 : n ≤ bl := of_decide_eq_true c4
         show (decide (bl < n) && riseGo n (ds.drop (i + 1))) = false
         rw [decide_eq_false (by omega), Bool.false_and]
        rw [← hb, e] at q
        exact q
       ·refine ⟨_, rfl, n, _, rfl, rfl, ?_⟩
        rw [← hb]
        have c5 : ¬ n ≤ bl := fun z => c4 (decide_eq_true z)
        show riseGo n (ds.drop (i + 1)) = (decide (bl < n) && riseGo n (ds.drop (i + 1)))
        rw [decide_eq_true (by omega), Bool.true_and]
      | _ => exact absurd rfl c3
    ·rintro σ H' ⟨bl, y, rfl, rfl, hb⟩
     rw [← hb, hl, List.drop_length] at q
     exact q
  ·have e : decide (few ≤ (ds.length : Int)) = false := by
    rw [← hl]
    exact Bool.eq_false_iff.mpr c1
   rw [e, Bool.false_and] at q
   exact ⟨_, rfl, q⟩
 | _ => exact absurd rfl c
theorem scIsP : FnScope ["thing"] ["thing"] (defScope sIsP) := ⟨rfl, rfl, rfl, by decide +kernel, rfl, by decide +kernel, by decide +kernel⟩
theorem two_of {H : Hp} {xs : List V} {ds : List PyData} (h : DatAll H xs ds) (e : xs.length = 2) : ∃ x y dx dy, xs = [x, y] ∧ ds = [dx, dy] ∧ Dat H x dx ∧ Dat H y dy := by
 cases h with
 | nil => cases e
 | cons h1 h2 =>
  cases h2 with
  | nil => cases e
  | cons h3 h4 =>
   cases h4 with
   | nil => exact ⟨_, _, _, _, rfl, rfl, h1, h3⟩
   | cons _ _ => simp at e
theorem plan_no {ds : List PyData} (e : ds.length ≠ 2) : planD (.tuple ds) = false := by
 match ds with
 | [] => rfl
 | [_] => rfl
 | [_, _] => exact absurd rfl e
 | _ :: _ :: _ :: _ => rfl
theorem ok_isPD (F : Fun K "is_plan" "is_plan" sIsP f fd) (B : Bt2 mg) (GI : FnOk P w K mg base CX0 2 ri rid ["thing", "fewest"] spRiseD) (bI : Binds K rid ["thing", "fewest"] []) (kI : Kee K ri) (mI : mg "is_rising_list" = some (.ref ri)) : FnOk P w K mg base CX0 3 f fd ["thing"] spIsPD := by
 refine F.ok scIsP (fun vs H Q E h => ?_) (fun cdv A outer s H vs Q E hr h => ?_)
 ·obtain ⟨v, d, rfl, _⟩ := h
  rfl
 obtain ⟨v, d, rfl, hd, q⟩ := h
 refine ⟨_, (@pss_cons _ _ _ _ _ (ps_if (PW.pt (pw_or (pt_not (pt_val (pe_callB (call_isi "tuple") rfl B.isinstance boot_isinstance (pa_cons (pv 0) (pa_cons (pe_bltn (v := .ty "tuple") rfl B.tuple PyProof.Rows.boot_tuple rfl) pa_nil))))) (pw_or1 (pt_cmpR op_ne (pe_callB call_len_seq rfl B.len PySem.boot_len (pa_cons (pv 0) pa_nil)) pe_int (nomark _))))) (@pss_one _ _ _ (ps_ret pe_bl)) pss_nil) (@pss_one _ _ _ (ps_ret (pe_and (pe_call GI hr rfl mI kI bI .nil pass0 (pa_cons (pe_ix ix_tup (pv 0) pe_int (fun _ _ => rfl)) (pa_cons pe_int pa_nil))) (pe_one (pe_call GI hr rfl mI kI bI .nil pass0 (pa_cons (pe_ix ix_tup (pv 0) pe_int (fun _ _ => rfl)) (pa_cons pe_int pa_nil)))))))), ?_⟩
 refine ⟨_, rfl, _, _, isT d, rfl, hd.ty, kit_t _ d, _, rfl, ite2 (fun c => ?_) (fun c => ?_)⟩
 ·have e : planD d = false := by cases d <;> first | rfl | cases c
  rw [e] at q
  exact q
 cases hd with
 | tup ha hx =>
  rename_i a xs ds
  have hl := hx.len
  refine ⟨_, rfl, a, _, rfl, .inr (SqT.of ha), rfl, _, rfl, ite2 (fun c1 => ?_) (fun c1 => ?_)⟩
  ·have e : planD (.tuple ds) = false := plan_no fun z => by
    have c2 : (!decide (V.int ((xs.length : Nat) : Int) = V.int 2)) = true := c1
    rw [hl, z] at c2
    exact absurd c2 (by decide)
   rw [e] at q
   exact q
  ·have c2 : ¬ (!decide (V.int ((xs.length : Nat) : Int) = V.int 2)) = true := c1
   rw [Bool.not_eq_true', decide_eq_false_iff_not, Decidable.not_not] at c2
   have c3 := V.int.inj c2
   obtain ⟨x, y, dx, dy, rfl, rfl, h1, h2⟩ := two_of hx (by omega)
   have e : planD (.tuple [dx, dy]) = (riseD 1 dx && riseD 0 dy) := rfl
   rw [e] at q
   refine ⟨_, rfl, a, _, 0, _, rfl, rfl, SqT.of ha, rfl, x, dx, 1, rfl, h1, _, rfl, ite2 (fun c4 => ?_) (fun c4 => ?_)⟩
   ·rw [c4, Bool.true_and] at q
    exact ⟨_, rfl, a, _, 1, _, rfl, rfl, SqT.of ha, rfl, y, dy, 0, rfl, h2, q⟩
   ·rw [Bool.eq_false_iff.mpr c4, Bool.false_and] at q
    exact q
 | _ => exact absurd rfl c
end
abbrev sCkP : Stmt := top 19
abbrev sWr : Stmt := top 22
abbrev sWb : Stmt := top 23
abbrev sShow : Stmt := top 24
abbrev sNin : Stmt := top 25
abbrev sSw : Stmt := top 26
abbrev sRead : Stmt := top 27
abbrev bmV : List Value := [.type "ValueError", .type "Exception", .type "BaseException", .type "object"]
def intsOf : PyData → List Int
 | .list ds => ds.filterMap fun d => match d with | .int n => some n | _ => none
 | _ => []
def numsD : PyData → List Int
 | .tuple [x, _] => intsOf x
 | _ => []
theorem rise_back {H : Hp} : ∀ {xs : List V} {ds : List PyData} {b : Int}, DatAll H xs ds → riseGo b ds = true → ∃ ns : List Int, xs = ns.map V.int ∧ ds = ns.map PyData.int ∧ ns.Pairwise (· < ·) ∧ ∀ x ∈ ns, b < x
 | _, _, _, .nil, _ => ⟨[], rfl, rfl, List.Pairwise.nil, fun x hx => nomatch hx⟩
 | _, _, b, .cons (d := d) (ds := ds) h t, e => by
  cases h with
  | int n =>
   change (decide (b < n) && riseGo n ds) = true at e
   rw [Bool.and_eq_true, decide_eq_true_eq] at e
   obtain ⟨ns, rfl, rfl, up, lo⟩ := rise_back t e.2
   refine ⟨n :: ns, rfl, rfl, List.pairwise_cons.mpr ⟨lo, up⟩, fun x hx => ?_⟩
   rcases List.mem_cons.mp hx with z | z
   ·rw [z]; exact e.1
   ·have := lo x z; omega
  | _ => cases e
theorem riseD_back {H : Hp} {v : V} {d : PyData} {few : Int} (hd : Dat H v d) (e : riseD few d = true) : ∃ (a : Addr) (ns : List Int), v = .ref a ∧ H a = some (.lst (ns.map V.int)) ∧ d = .list (ns.map PyData.int) ∧ Rise ns ∧ few ≤ (ns.length : Int) ∧ ns.length ≤ 10 := by
 cases hd with
 | lst ha hx =>
  rename_i a xs ds
  change (decide (few ≤ (ds.length : Int)) && (decide (ds.length ≤ 10) && riseGo (-1) ds)) = true at e
  rw [Bool.and_eq_true, Bool.and_eq_true, decide_eq_true_eq, decide_eq_true_eq] at e
  obtain ⟨ns, rfl, rfl, up, lo⟩ := rise_back hx e.2.2
  rw [List.length_map] at e
  exact ⟨a, ns, rfl, ha, rfl, ⟨up, fun x hx => by have := lo x hx; omega⟩, e.1, e.2.1⟩
 | _ => cases e
theorem intsOf_ints (ns : List Int) : intsOf (.list (ns.map PyData.int)) = ns := by
 induction ns with
 | nil => rfl
 | cons n r ih => exact congrArg (n :: ·) ih
theorem plan_back {H : Hp} {v : V} {d : PyData} (hd : Dat H v d) (e : planD d = true) : ∃ (t a b : Addr) (ns ss : List Int), v = .ref t ∧ IsPl H t a b ns ss ∧ numsD d = ns := by
 cases hd with
 | tup ht hx =>
  rename_i t xs ds
  match ds, hx, e with
  | [x, y], .cons h1 (.cons h2 .nil), e =>
   change (riseD 1 x && riseD 0 y) = true at e
   rw [Bool.and_eq_true] at e
   obtain ⟨a, ns, rfl, ha, rfl, rn, n1, n2⟩ := riseD_back h1 e.1
   obtain ⟨b, ss, rfl, hb, rfl, rs, s1, s2⟩ := riseD_back h2 e.2
   exact ⟨t, a, b, ns, ss, rfl, ⟨ht, ha, hb, ⟨rn, rs, by omega, n2, s2⟩⟩, intsOf_ints ns⟩
  | [], _, e => cases e
  | [_], _, e => cases e
  | _ :: _ :: _ :: _, _, e => cases e
 | _ => cases e
def spCkX (XP : Addr) : Sp := fun vs H Q E => ∃ v d, vs = [v] ∧ Dat H v d ∧ (planD d = true → Q .non H) ∧ (planD d = false → E (.ref XP) none H)
def spWr : Sp := fun vs H Q _ => ∃ z : Str, vs = [.str z] ∧ z.cps.size ≤ 1000 ∧ ∀ H', Same H H' → Q (.bl (wrB z)) H'
def spWbW : Sp := fun vs H Q _ => ∃ (p : Addr) (zs : List Int), vs = [.ref p] ∧ H p = some (.lst (zs.map V.int)) ∧ Wid zs ∧ zs.length ≤ 100 ∧ ∀ H', Same H H' → Q (.str (rowT zs)) H'
def Sml (xs : List Int) : Prop := ∀ x ∈ xs, 0 ≤ x ∧ x < 10 ^ 26
theorem Sml.abs {xs : List Int} (h : Sml xs) : ∀ x ∈ xs, x.natAbs < 10 ^ 30 := fun x hx => by
 have := h x hx
 omega
theorem Sml.len {xs : List Int} (h : Sml xs) : ∀ x ∈ xs, (numT x).length ≤ 27 := fun x hx => by
 have := h x hx
 exact numT_lenB (k := 26) (by decide) (by omega)
theorem plan_len {ns ss : List Int} (ok : PlanOk ns ss) (hn : Sml ns) (hs : Sml ss) : (rowT ns).length ≤ 320 ∧ (tailT ss).length ≤ 321 ∧ (planT ns ss).length ≤ 562 := by
 have h1 := rowT_lenB hn.len
 have h2 := tailT_lenB hs.len
 have h3 := ok.n2
 have h4 := ok.s2
 have e : (planT ns ss).length = (rowT ns).length + 1 + (tailT ss).length := by
  unfold planT
  rw [app_len, app_len]
  rfl
 refine ⟨by omega, by omega, by omega⟩
def plDt (ns ss : List Int) : PyData := .tuple [.list (ns.map PyData.int), .list (ss.map PyData.int)]
theorem IsPl.dt {H : Hp} {t a b : Addr} {ns ss : List Int} (h : IsPl H t a b ns ss) : Dat H (.ref t) (plDt ns ss) := .tup h.t (.cons (.lst h.a (DatAll.ints ns)) (.cons (.lst h.b (DatAll.ints ss)) .nil))
theorem planD_rise (ns ss : List Int) : planD (plDt ns ss) = (riseB 1 ns && riseB 0 ss) := rfl
theorem plDt_inj {ns ss ms ts : List Int} (h : plDt ns ss = plDt ms ts) : ns = ms ∧ ss = ts := by
 have q := PyData.tuple.inj h
 have q1 := PyData.list.inj (List.cons.inj q).1
 have q2 := PyData.list.inj (List.cons.inj (List.cons.inj q).2).1
 have inj : ∀ (l m : List Int), l.map PyData.int = m.map PyData.int → l = m := fun l m e => (List.map_inj_right (fun a b z => PyData.int.inj z)).mp e
 exact ⟨inj _ _ q1, inj _ _ q2⟩
theorem plan_dt {H : Hp} {v : V} {d : PyData} (hd : Dat H v d) (e : planD d = true) : ∃ (t a b : Addr) (ns ss : List Int), v = .ref t ∧ IsPl H t a b ns ss ∧ d = plDt ns ss := by
 cases hd with
 | tup ht hx =>
  rename_i t xs ds
  match ds, hx, e with
  | [x, y], .cons h1 (.cons h2 .nil), e =>
   change (riseD 1 x && riseD 0 y) = true at e
   rw [Bool.and_eq_true] at e
   obtain ⟨a, ns, rfl, ha, rfl, rn, n1, n2⟩ := riseD_back h1 e.1
   obtain ⟨b, ss, rfl, hb, rfl, rs, s1, s2⟩ := riseD_back h2 e.2
   exact ⟨t, a, b, ns, ss, rfl, ⟨ht, ha, hb, ⟨rn, rs, by omega, n2, s2⟩⟩, rfl⟩
  | [], _, e => cases e
  | [_], _, e => cases e
  | _ :: _ :: _ :: _, _, e => cases e
 | _ => cases e
def spShowX (XP : Addr) : Sp := fun vs H Q E => ∃ v d, vs = [v] ∧ Dat H v d ∧ (planD d = false → E (.ref XP) none H) ∧ (∀ ns ss, d = plDt ns ss → planD d = true → Wid ns ∧ Wid ss ∧ ∀ H', Same H H' → Q (.str (planT ns ss)) H')
def spNinX (XT : Addr) : Sp := fun vs H Q E => ∃ (p : Addr) (ws : List Str), vs = [.ref p] ∧ H p = some (.lst (ws.map V.str)) ∧ (∀ w ∈ ws, w.length ≤ 570) ∧ ws.length ≤ 600 ∧
 (ws.all wrB = false → ∀ H', Same H H' → E (.ref XT) none H') ∧ (ws.all wrB = true → ∀ (l : Addr) (H' : Hp), Same H H' → H l = none → H' l = some (.lst ((ws.map valW).map V.int)) → Q (.ref l) H')
def spSwX (XT : Addr) : Sp := fun vs H Q E => ∃ z : Str, vs = [.str z] ∧ z.length ≤ 570 ∧ (swB z = none → E (.ref XT) none H) ∧ ∀ ws, swB z = some ws → ∀ (l : Addr) (H' : Hp), Same H H' → H l = none → H' l = some (.lst (ws.map V.str)) → Q (.ref l) H'
def spReadX (XT : Addr) : Sp := fun vs H Q E => ∃ v d r, vs = [v] ∧ Dat H v d ∧ ShD d ∧ RdD d r ∧ (r = none → ∀ H', Same H H' → E (.ref XT) none H') ∧
 ∀ ns ss, r = some (ns, ss) → ∀ (t a b : Addr) (H' : Hp), Same H H' → H t = none → H a = none → H b = none → a ≠ b → IsPl H' t a b ns ss → Q (.ref t) H'
section
variable {f g1 g2 g3 XP XT : Addr} {fd gd1 gd2 gd3 : FuncData} {tF : Tok}
theorem scCkP : FnScope ["plan"] ["plan"] (defScope sCkP) := ⟨rfl, rfl, rfl, by decide +kernel, rfl, by decide +kernel, by decide +kernel⟩
theorem ok_ckX {ip : Addr} {ipd : FuncData} (F : Fun K "check_plan" "check_plan" sCkP f fd) (eXP : PySem.W.excIn K XP bmV "ValueError.__new__" = true) (mXP : mg "NoPlan" = some (.ref XP))
  (GP : FnOk P w K mg base CX0 3 ip ipd ["thing"] spIsPD) (bP : Binds K ipd ["thing"] []) (kP : Kee K ip) (mP : mg "is_plan" = some (.ref ip)) : FnOk P w K mg base (CX1 P w) 4 f fd ["plan"] (spCkX XP) := by
 refine F.ok1 scCkP (fun vs H Q E h => ?_) (fun cdv A outer s H vs Q E hr h => ?_)
 ·obtain ⟨v, d, rfl, _⟩ := h
  rfl
 obtain ⟨v, d, rfl, hd, q, qe⟩ := h
 refine ⟨_, (@pss_one _ _ _ (ps_if (pt_not (pt_val (pe_call GP hr rfl mP kP bP .nil pass0 (pa_cons (pv 0) pa_nil)))) (@pss_one _ _ _ (ps_raise raises1 rfl PySem.F.excBase_ValueError eXP rfl mXP (pa_cons pe_str pa_nil))) pss_nil)), ?_⟩
 refine ⟨_, rfl, v, d, rfl, hd, _, rfl, ?_⟩
 cases c : planD d with
 | true => exact iteF (q c)
 | false => exact iteT ⟨by decide, qe c⟩
theorem scWr : FnScope ["word"] ["word"] (defScope sWr) := ⟨rfl, rfl, rfl, by decide +kernel, rfl, by decide +kernel, by decide +kernel⟩
theorem ok_wr (F : Fun K "is_written_number" "is_written_number" sWr f fd) (B : Bt2 mg) (mF : mg "FIGURES" = some (.str (Str.ofString "0123456789") tF)) : FnOk P w K mg base CX0 1 f fd ["word"] spWr := by
 refine F.ok scWr (fun vs H Q E h => ?_) (fun cdv A outer s H vs Q E hr h => ?_)
 ·obtain ⟨z, rfl, _⟩ := h
  rfl
 obtain ⟨z, rfl, hz, q⟩ := h
 refine ⟨_, (@pss_cons _ _ _ _ _ (ps_if (PW.pt (pw_or (pt_cmpR op_eq (pv 0) pe_str (nomark _)) (pw_or1 (pt_not (pt_val (pe_callB (call_allB rfl) rfl B.all boot_all (pa_cons (pe_comp ["sign"] rfl (blk_ok (defScope sWr) ["word"] rfl rfl (by decide +kernel)) (pi_str (pv 0)) (fun pins C fp s3 H3 => ⟨(pg_name (i := 0) (show (blkN ["sign"] ["word"]).Nodup by decide +kernel) rfl (Or.inl rfl)), pif_nil, (pe_cmpR op_inS (pv 0) (pe_glob (v := .str (Str.ofString "0123456789")) rfl mF ⟨_, rfl⟩) rfl)⟩)) pa_nil))))))) (@pss_one _ _ _ (ps_ret pe_bl)) pss_nil) (@pss_one _ _ _ (ps_ret (pe_or (pe_cmpR op_eq (pv 0) pe_str (nomark _)) (pe_one (pe_not (pe_bm PySem.F.plainAttrs_str PySem.F.slot_str_startswith PySem.F.type_str_startswith mt_starts (pv 0) (pa_cons pe_str pa_nil)))))))), ?_⟩
 unfold wrB at q
 refine ⟨_, rfl, rfl, _, rfl, ite2 (fun c => ?_) (fun c => ?_)⟩
 ·have c' : decide (z = Str.ofString "") = true := by
   have := of_decide_eq_true c
   exact decide_eq_true (V.str.inj this)
  rw [c'] at q
  exact q _ Same.rfl'
 have c' : decide (z = Str.ofString "") = false := decide_eq_false fun y => c (decide_eq_true (by rw [y]))
 rw [c'] at q
 refine ⟨_, rfl, z, rfl, fun D hD => ?_⟩
 refine turns_str (σ := [some (.str z)]) (fun _ => true) (fun i => .bl (decide (z.cps.toList.getD i 0 ∈ figs))) hD hz (fun i H' hi g => tells_true) (fun i H' hi _ g P hP => ?_) fun H2 g2 e2 => ?_
 ·exact ⟨_, rfl, _, _, rfl, rfl, hP _ Same.rfl'⟩
 refine ⟨D, (List.range z.cps.size).map fun i => decide (z.cps.toList.getD i 0 ∈ figs), rfl, SqL.of (by rw [e2, fltT, List.map_map]; rfl), _, rfl, ?_⟩
 have ea : ((List.range z.cps.size).map fun i => decide (z.cps.toList.getD i 0 ∈ figs)).all id = z.cps.toList.all fun c => decide (c ∈ figs) := by
  have h := congrArg (List.map fun c => decide (c ∈ figs)) (rgD z.cps.toList 0)
  rw [List.map_map, Array.length_toList] at h
  rw [show ((List.range z.cps.size).map fun i => decide (z.cps.toList.getD i 0 ∈ figs)) = z.cps.toList.map fun c => decide (c ∈ figs) from h, List.all_map]
  rfl
 rw [ea]
 refine ite2 (fun c2 => ?_) (fun c2 => ?_)
 ·have e : (z.cps.toList.all fun c => decide (c ∈ figs)) = false := by simpa using c2
  rw [e] at q
  exact q _ g2
 have e : (z.cps.toList.all fun c => decide (c ∈ figs)) = true := by simpa using c2
 rw [e] at q
 refine ⟨_, rfl, rfl, _, rfl, ite2 (fun c3 => ?_) (fun c3 => ?_)⟩
 ·have c4 : decide (z = Str.ofString "0") = true := decide_eq_true (V.str.inj (of_decide_eq_true c3))
  rw [c4] at q
  exact q _ g2
 have c4 : decide (z = Str.ofString "0") = false := decide_eq_false fun y => c3 (decide_eq_true (by rw [y]))
 rw [c4] at q
 exact ⟨_, rfl, rfl, z, 48, rfl, rfl, _, rfl, q _ g2⟩
theorem scWb : FnScope ["numbers"] ["numbers"] (defScope sWb) := ⟨rfl, rfl, rfl, by decide +kernel, rfl, by decide +kernel, by decide +kernel⟩
theorem ok_wbW (F : Fun K "with_blanks" "with_blanks" sWb f fd) (B : Bt2 mg) : FnOk P w K mg base CX0 1 f fd ["numbers"] spWbW := by
 refine F.ok scWb (fun vs H Q E h => ?_) (fun cdv A outer s H vs Q E hr h => ?_)
 ·obtain ⟨p, zs, rfl, _⟩ := h
  rfl
 obtain ⟨p, zs, rfl, hp, zb, zl, q⟩ := h
 have zml : (zs.map V.int).length = zs.length := List.length_map _
 refine ⟨_, (@pss_one _ _ _ (ps_ret (pe_bm PySem.F.plainAttrs_str PySem.F.slot_str_join PySem.F.type_str_join mt_join pe_str (pa_cons (pe_comp ["number"] rfl (blk_ok (defScope sWb) ["numbers"] rfl rfl (by decide +kernel)) (pi_list (pv 0)) (fun pins C fp s3 H3 => ⟨(pg_name (i := 0) (show (blkN ["number"] ["numbers"]).Nodup by decide +kernel) rfl (Or.inl rfl)), pif_nil, (pe_callTy call_strW rfl B.str boot_str (pa_cons (pv 0) pa_nil))⟩)) pa_nil)))), ?_⟩
 refine ⟨rfl, _, rfl, p, rfl, ⟨_, SqL.of hp⟩, fun D hD => ?_⟩
 refine turns_list (σ := [some (.ref p)]) (xs := zs.map V.int) (fun _ => true) (fun i => .str (numT (zs.getD i 0))) (SqL.of hp) hD (by omega) (fun i H' hi g => tells_true) (fun i H' hi _ g P hP => ?_) fun HE gE eE => ?_
 ·rw [zml] at hi
  rw [getD_map_int _ hi]
  refine ⟨_, rfl, zs.getD i 0, rfl, zb _ ?_, hP _ Same.rfl'⟩
  rw [List.getD_eq_getElem?_getD, List.getElem?_eq_getElem hi]
  exact List.getElem_mem hi
 have et : (((List.range (zs.map V.int).length).filter fun _ => true).map fun i => V.str (numT (zs.getD i 0))) = (zs.map numT).map V.str := by
  rw [fltT, zml, List.map_map]
  have h := congrArg (List.map fun x => V.str (numT x)) (rgD zs 0)
  rw [List.map_map] at h
  exact h
 rw [et] at eE
 exact ⟨_, D, zs.map numT, rfl, rfl, SqL.of eE, rowT_fitsB zb.len zl, q _ gE⟩
theorem scShow : FnScope ["plan"] ["plan"] (defScope sShow) := ⟨rfl, rfl, rfl, by decide +kernel, rfl, by decide +kernel, by decide +kernel⟩
theorem ok_showX (F : Fun K "show_plan" "show_plan" sShow f fd) (B : Bt2 mg)
  (GC : FnOk P w K mg base (CX1 P w) 4 g1 gd1 ["plan"] (spCkX XP)) (bC : Binds K gd1 ["plan"] []) (kC : Kee K g1) (mC : mg "check_plan" = some (.ref g1))
  (GW : FnOk P w K mg base CX0 4 g2 gd2 ["numbers"] spWbW) (bW : Binds K gd2 ["numbers"] []) (kW : Kee K g2) (mW : mg "with_blanks" = some (.ref g2)) : FnOk P w K mg base (CX1 P w) 5 f fd ["plan"] (spShowX XP) := by
 refine F.ok1 scShow (fun vs H Q E h => ?_) (fun cdv A outer s H vs Q E hr h => ?_)
 ·obtain ⟨v, d, rfl, _⟩ := h
  rfl
 obtain ⟨v, d, rfl, hd, qe, q⟩ := h
 refine ⟨_, (@pss_cons _ _ _ _ _ (ps_expr (pe_call GC hr rfl mC kC bC .nil pass1 (pa_cons (pv 0) pa_nil))) (PSs.nox (@pss_one _ _ _ (ps_ret (pe_op op_add_str (pe_op op_add_str (pe_call GW hr rfl mW kW bW .nil pass0 (pa_cons (pe_ix ix_tup (pv 0) pe_int (fun _ _ => rfl)) pa_nil)) pe_str) (pe_bm PySem.F.plainAttrs_str PySem.F.slot_str_join PySem.F.type_str_join mt_join pe_str (pa_cons (pe_comp ["number"] rfl (blk_ok (defScope sShow) ["plan"] rfl rfl (by decide +kernel)) (pi_list (pe_ix ix_tup (pv 0) pe_int (fun _ _ => rfl))) (fun pins C fp s3 H3 => ⟨(pg_name (i := 0) (show (blkN ["number"] ["plan"]).Nodup by decide +kernel) rfl (Or.inl rfl)), pif_nil, (pe_op op_add_str pe_str (pe_callTy call_strW rfl B.str boot_str (pa_cons (pv 0) pa_nil)))⟩)) pa_nil))))))), ?_⟩
 refine ⟨_, rfl, v, d, rfl, hd, fun c => ?_, qe⟩
 obtain ⟨t, a, b, ns, ss, rfl, pl, ed⟩ := plan_dt hd c
 obtain ⟨hn, hs, q⟩ := q ns ss ed c
 have l1 := rowT_lenB hn.len
 have l2 := tailT_lenB hs.len
 have n2 := pl.ok.n2
 have s2 := pl.ok.s2
 have sml : (ss.map V.int).length = ss.length := List.length_map _
 refine ⟨_, rfl, t, _, 0, _, rfl, rfl, SqT.of pl.t, rfl, a, ns, rfl, pl.a, hn, by omega, fun H1 g1 => ?_⟩
 refine ⟨_, _, rfl, rfl, by show (rowT ns).length + 1 ≤ sizeLine; rw [sizeLine_eq]; omega, ?_⟩
 have pl1 := pl.same g1
 refine ⟨rfl, _, rfl, t, _, 1, _, rfl, rfl, SqT.of pl1.t, rfl, b, rfl, ⟨_, SqL.of pl1.b⟩, fun D hD => ?_⟩
 refine turns_list (σ := [some (.ref t)]) (xs := ss.map V.int) (fun _ => true) (fun i => .str (Str.ofString " " ++ numT (ss.getD i 0))) (SqL.of pl1.b) hD (by omega) (fun i H' hi g => tells_true) (fun i H' hi _ g P hP => ?_) fun HE gE eE => ?_
 ·rw [sml] at hi
  rw [getD_map_int _ hi]
  have hm : ss.getD i 0 ∈ ss := by
   rw [List.getD_eq_getElem?_getD, List.getElem?_eq_getElem hi]
   exact List.getElem_mem hi
  refine ⟨_, rfl, ss.getD i 0, rfl, hs _ hm, _, _, rfl, rfl, ?_, hP _ Same.rfl'⟩
  have := hs.len _ hm
  show 1 + (numT (ss.getD i 0)).length ≤ sizeLine
  rw [sizeLine_eq]
  omega
 have et : (((List.range (ss.map V.int).length).filter fun _ => true).map fun i => V.str (Str.ofString " " ++ numT (ss.getD i 0))) = (ss.map fun s => Str.ofString " " ++ numT s).map V.str := by
  rw [fltT, sml, List.map_map]
  have h := congrArg (List.map fun x => V.str (Str.ofString " " ++ numT x)) (rgD ss 0)
  rw [List.map_map] at h
  exact h
 rw [et] at eE
 refine ⟨_, D, ss.map fun s => Str.ofString " " ++ numT s, rfl, rfl, SqL.of eE, tailT_fitsB hs.len (by omega), ?_⟩
 refine ⟨_, _, rfl, rfl, ?_, q _ (g1.trans gE)⟩
 have e : (rowT ns ++ Str.ofString ":").length = (rowT ns).length + 1 := app_len _ _
 show (rowT ns ++ Str.ofString ":").length + (tailT ss).length ≤ sizeLine
 rw [e, sizeLine_eq]
 omega
theorem scNin : FnScope ["words"] ["words"] (defScope sNin) := ⟨rfl, rfl, rfl, by decide +kernel, rfl, by decide +kernel, by decide +kernel⟩
theorem ok_ninX (F : Fun K "numbers_in" "numbers_in" sNin f fd) (B : Bt2 mg) (eXT : PySem.W.excIn K XT bmV "ValueError.__new__" = true) (mXT : mg "NoText" = some (.ref XT))
  (GW : FnOk P w K mg base CX0 1 g1 gd1 ["word"] spWr) (bW : Binds K gd1 ["word"] []) (kW : Kee K g1) (mW : mg "is_written_number" = some (.ref g1)) : FnOk P w K mg base (CX1 P w) 2 f fd ["words"] (spNinX XT) := by
 refine F.ok1 scNin (fun vs H Q E h => ?_) (fun cdv A outer s H vs Q E hr h => ?_)
 ·obtain ⟨p, zs, rfl, _⟩ := h
  rfl
 obtain ⟨p, ws, rfl, hp, hw, wl, qe, q⟩ := h
 have zml : (ws.map V.str).length = ws.length := List.length_map _
 have gd : ∀ {i : Nat}, i < ws.length → (ws.map V.str).getD i .non = .str (ws.getD i Str.empty) ∧ ws.getD i Str.empty ∈ ws := fun {i} hi => by
  constructor
  ·rw [List.getD_eq_getElem?_getD, List.getElem?_map, List.getElem?_eq_getElem hi, List.getD_eq_getElem?_getD, List.getElem?_eq_getElem hi]
   rfl
  ·rw [List.getD_eq_getElem?_getD, List.getElem?_eq_getElem hi]
   exact List.getElem_mem hi
 refine ⟨_, (@pss_cons _ _ _ _ _ (ps_if (pt_not (pt_val (pe_callB (call_allB rfl) rfl B.all boot_all (pa_cons (PE.nox (pe_comp ["word"] rfl (blk_ok (defScope sNin) ["words"] rfl rfl (by decide +kernel)) (pi_list (pv 0)) (fun pins C fp s3 H3 => ⟨(pg_name (i := 0) (show (blkN ["word"] ["words"]).Nodup by decide +kernel) rfl (Or.inl rfl)), pif_nil, (pe_call GW hr rfl mW kW bW .nil pass0 (pa_cons (pv 0) pa_nil))⟩))) pa_nil)))) (@pss_one _ _ _ (ps_raise raises1 rfl PySem.F.excBase_ValueError eXT rfl mXT (pa_cons pe_str pa_nil))) pss_nil) (PSs.nox (@pss_one _ _ _ (ps_ret (pe_comp ["word"] rfl (blk_ok (defScope sNin) ["words"] rfl rfl (by decide +kernel)) (pi_list (pv 0)) (fun pins C fp s3 H3 => ⟨(pg_name (i := 0) (show (blkN ["word"] ["words"]).Nodup by decide +kernel) rfl (Or.inl rfl)), pif_nil, (pe_callTy call_intS rfl B.int PyProof.Rows.boot_int (pa_cons (pv 0) pa_nil))⟩)))))), ?_⟩
 refine ⟨_, rfl, p, rfl, ⟨_, SqL.of hp⟩, fun D hD => ?_⟩
 refine turns_list (σ := [some (.ref p)]) (xs := ws.map V.str) (fun _ => true) (fun i => .bl (wrB (ws.getD i Str.empty))) (SqL.of hp) hD (by omega) (fun i H' hi g => tells_true) (fun i H' hi _ g P hP => ?_) fun H1 g1 e1 => ?_
 ·rw [zml] at hi
  obtain ⟨e, hm⟩ := gd hi
  rw [e]
  exact ⟨_, rfl, ws.getD i Str.empty, rfl, Nat.le_trans (hw _ hm) (by decide), fun H2 g2 => hP _ g2⟩
 have et : ((List.range ws.length).map fun i => wrB (ws.getD i Str.empty)).all id = ws.all wrB := by
  have h := congrArg (List.map wrB) (rgD ws Str.empty)
  rw [List.map_map] at h
  rw [show ((List.range ws.length).map fun i => wrB (ws.getD i Str.empty)) = ws.map wrB from h, List.all_map]
  rfl
 refine ⟨D, (List.range ws.length).map fun i => wrB (ws.getD i Str.empty), rfl, SqL.of (by rw [e1, fltT, zml, List.map_map]; rfl), _, rfl, ?_⟩
 rw [et]
 cases c : ws.all wrB with
 | false => exact iteT ⟨by decide, qe c _ g1⟩
 | true =>
  refine iteF ?_
  have hp1 := g1 _ _ hp
  refine ⟨_, rfl, p, rfl, ⟨_, SqL.of hp1⟩, fun D2 hD2 => ?_⟩
  refine turns_list (σ := [some (.ref p)]) (xs := ws.map V.str) (fun _ => true) (fun i => .int (valW (ws.getD i Str.empty))) (SqL.of hp1) hD2 (by omega) (fun i H' hi g => tells_true) (fun i H' hi _ g P hP => ?_) fun H3 g3 e3 => ?_
  ·rw [zml] at hi
   obtain ⟨e, hm⟩ := gd hi
   rw [e]
   have lw := hw _ hm
   exact ⟨_, rfl, _, valW (ws.getD i Str.empty), rfl, wr_reads (List.all_eq_true.mp c _ hm) (by omega), by omega, hP _ Same.rfl'⟩
  refine q c D2 H3 (g1.trans g3) (none_of_same g1 hD2) ?_
  rw [e3, fltT, zml]
  have h := congrArg (List.map fun w => V.int (valW w)) (rgD ws Str.empty)
  rw [List.map_map] at h
  rw [List.map_map]
  exact congrArg (fun l => some (HO.lst l)) h
theorem scSw : FnScope ["text"] ["text"] (defScope sSw) := ⟨rfl, rfl, rfl, by decide +kernel, rfl, by decide +kernel, by decide +kernel⟩
theorem ok_swX (F : Fun K "sum_words" "sum_words" sSw f fd) (eXT : PySem.W.excIn K XT bmV "ValueError.__new__" = true) (mXT : mg "NoText" = some (.ref XT)) : FnOk P w K mg base (CX1 P w) 1 f fd ["text"] (spSwX XT) := by
 refine F.ok1 scSw (fun vs H Q E h => ?_) (fun cdv A outer s H vs Q E hr h => ?_)
 ·obtain ⟨ss, rfl, _⟩ := h
  rfl
 obtain ⟨z, rfl, zl, qe, q⟩ := h
 refine ⟨_, (@pss_cons _ _ _ _ _ (ps_if (pt_cmpR op_eq (pv 0) pe_str (nomark _)) (@pss_one _ _ _ (ps_ret (pe_lst pa_nil))) pss_nil) (@pss_cons _ _ _ _ _ (ps_if (pt_not (pt_val (pe_bm PySem.F.plainAttrs_str PySem.F.slot_str_startswith PySem.F.type_str_startswith mt_starts (pv 0) (pa_cons pe_str pa_nil)))) (@pss_one _ _ _ (ps_raise raises1 rfl PySem.F.excBase_ValueError eXT rfl mXT (pa_cons pe_str pa_nil))) pss_nil) (@pss_one _ _ _ (ps_ret (pe_bm PySem.F.plainAttrs_str PySem.F.slot_str_split PySem.F.type_str_split mt_split (pe_slice sl_str (pv 0) (po_some pe_int) po_none) (pa_cons pe_str pa_nil)))))), ?_⟩
 unfold swB at qe q
 refine ⟨_, rfl, rfl, _, rfl, ite2 (fun c => ?_) (fun c => ?_)⟩
 ·have e : z = Str.ofString "" := V.str.inj (of_decide_eq_true c)
  rw [if_pos e] at q
  exact ⟨(by show 0 ≤ sizeLine; decide), fun l hl => q [] rfl l _ (Same.new hl _) hl upd_same⟩
 have ne : z ≠ Str.ofString "" := fun e => c (decide_eq_true (by rw [e]))
 rw [if_neg ne] at q qe
 refine ⟨_, rfl, rfl, z, 32, rfl, rfl, _, rfl, ?_⟩
 by_cases h0 : z.cps.toList[0]? = some 32
 ·rw [decide_eq_true h0]
  rw [if_pos h0] at q
  refine iteF ?_
  have le := slice_from_le z
  refine ⟨_, rfl, 1, rfl, z, rfl, by rw [sizeLine_eq]; omega, ?_⟩
  exact ⟨rfl, _, 32, rfl, rfl, by rw [sizeLine_eq]; omega, fun l hl => q _ rfl l _ (Same.new hl _) hl upd_same⟩
 ·rw [decide_eq_false h0]
  rw [if_neg h0] at qe
  exact iteT ⟨by decide, qe rfl⟩
theorem scRead : FnScope ["text", "halves", "plan"] ["text"] (defScope sRead) := ⟨rfl, rfl, rfl, by decide +kernel, rfl, by decide +kernel, by decide +kernel⟩
theorem ok_readX (F : Fun K "read_plan" "read_plan" sRead f fd) (B : Bt2 mg) (eXT : PySem.W.excIn K XT bmV "ValueError.__new__" = true) (mXT : mg "NoText" = some (.ref XT))
  (GN : FnOk P w K mg base (CX1 P w) 4 g1 gd1 ["words"] (spNinX XT)) (bN : Binds K gd1 ["words"] []) (kN : Kee K g1) (mN : mg "numbers_in" = some (.ref g1))
  (GS : FnOk P w K mg base (CX1 P w) 4 g2 gd2 ["text"] (spSwX XT)) (bS : Binds K gd2 ["text"] []) (kS : Kee K g2) (mS : mg "sum_words" = some (.ref g2))
  (GP : FnOk P w K mg base CX0 4 g3 gd3 ["thing"] spIsPD) (bP : Binds K gd3 ["thing"] []) (kP : Kee K g3) (mP : mg "is_plan" = some (.ref g3)) : FnOk P w K mg base (CX1 P w) 5 f fd ["text"] (spReadX XT) := by
 refine F.ok1 scRead (fun vs H Q E h => ?_) (fun cdv A outer s H vs Q E hr h => ?_)
 ·obtain ⟨v, d, r, rfl, _⟩ := h
  rfl
 obtain ⟨v, d, r, rfl, hd, sh, rd, qe, q⟩ := h
 refine ⟨_, (@pss_cons _ _ _ _ _ (ps_if (PW.pt (pw_or (pt_not (pt_val (pe_callB (call_isi "str") rfl B.isinstance boot_isinstance (pa_cons (pv 0) (pa_cons (pe_bltn (v := .ty "str") rfl B.str boot_str rfl) pa_nil))))) (pw_or1 (pt_cmpR op_notInS pe_str (pv 0) rfl)))) (@pss_one _ _ _ (ps_raise raises1 rfl PySem.F.excBase_ValueError eXT rfl mXT (pa_cons pe_str pa_nil))) pss_nil) (@pss_cons _ _ _ _ _ (ps_set (i := 1) scRead.nd rfl (Or.inl rfl) (pe_bm PySem.F.plainAttrs_str PySem.F.slot_str_split PySem.F.type_str_split mt_split1 (pv 0) (pa_cons pe_str (pa_cons pe_int pa_nil)))) (@pss_cons _ _ _ _ _ (ps_set (i := 2) scRead.nd rfl (Or.inl rfl) (pe_tup (pa_cons (pe_call GN hr rfl mN kN bN .nil pass1 (pa_cons (pe_bm PySem.F.plainAttrs_str PySem.F.slot_str_split PySem.F.type_str_split mt_split (pe_ix ix_list (pv 1) pe_int (fun _ _ => rfl)) (pa_cons pe_str pa_nil)) pa_nil)) (pa_cons (pe_call GN hr rfl mN kN bN .nil pass1 (pa_cons (pe_call GS hr rfl mS kS bS .nil pass1 (pa_cons (pe_ix ix_list (pv 1) pe_int (fun _ _ => rfl)) pa_nil)) pa_nil)) pa_nil)))) (@pss_cons _ _ _ _ _ (ps_if (pt_not (pt_val (pe_call GP hr rfl mP kP bP .nil pass0 (pa_cons (pv 2) pa_nil)))) (@pss_one _ _ _ (ps_raise raises1 rfl PySem.F.excBase_ValueError eXT rfl mXT (pa_cons pe_str pa_nil))) pss_nil) (@pss_one _ _ _ (ps_ret (pv 2))))))), ?_⟩
 refine ⟨_, rfl, _, _, isS d, rfl, hd.ty, kit_s _ d, _, rfl, ite2 (fun c => ?_) (fun c => ?_)⟩
 ·have e : r = none := by
   cases d <;> first | exact rd | cases c
  exact iteT ⟨by decide, qe e _ Same.rfl'⟩
 cases hd with
 | str z =>
  have zl := sh z rfl
  have rd : RdT z r := rd
  refine ⟨_, rfl, z, 58, rfl, rfl, _, rfl, ?_⟩
  rcases rd with ⟨nc, e⟩ | ⟨a, b, na, ez, e⟩
  ·rw [decide_eq_false nc]
   exact iteT ⟨by decide, qe e _ Same.rfl'⟩
  have cin : 58 ∈ z.cps.toList := by rw [ez]; exact List.mem_append_right _ List.mem_cons_self
  rw [decide_eq_true cin]
  refine iteF ?_
  obtain ⟨la, lb⟩ := half_le ez
  refine ⟨_, rfl, rfl, z, 58, rfl, rfl, by rw [sizeLine_eq]; omega, fun hv hhv => ?_⟩
  rw [splitM_two na ez]
  have g1 := Same.new hhv (.lst ([a, b].map V.str))
  have e1 : upd H hv (.lst ([a, b].map V.str)) hv = some (.lst [.str a, .str b]) := upd_same
  generalize upd H hv (.lst ([a, b].map V.str)) = H1 at g1 e1 ⊢
  refine ⟨_, rfl, hv, _, 0, _, rfl, rfl, SqL.of e1, rfl, rfl, a, 32, rfl, rfl, by rw [sizeLine_eq]; omega, fun w1 hw1 => ?_⟩
  have g2 := Same.new hw1 (.lst ((Txt.split a (sgn 32)).map V.str))
  have e2 : upd H1 w1 (.lst ((Txt.split a (sgn 32)).map V.str)) w1 = some (.lst ((Txt.split a (sgn 32)).map V.str)) := upd_same
  generalize upd H1 w1 (.lst ((Txt.split a (sgn 32)).map V.str)) = H2 at g2 e2 ⊢
  have sl := L2.split_len a 32
  have g12 := g1.trans g2
  unfold rd2 at e
  refine ⟨w1, _, rfl, e2, fun w hw => Nat.le_trans (split_le hw) (by omega), by omega, fun wn H' g' => ?_, fun wa A1 H3 g3 nA eA => ?_⟩
  ·rw [if_neg (fun y => by rw [wn] at y; cases y)] at e
   exact qe e _ (g12.trans g')
  rw [if_pos wa] at e
  have g13 := g12.trans g3
  refine ⟨_, rfl, hv, _, 1, _, rfl, rfl, SqL.of (g3 _ _ (g2 _ _ e1)), rfl, b, rfl, by omega, fun sn => ?_, fun vs hvs w2 H4 g4 nw2 ew2 => ?_⟩
  ·rw [sn] at e
   exact qe e _ g13
  rw [hvs] at e
  obtain ⟨vl, vc⟩ := sw_le hvs
  have g14 := g13.trans g4
  refine ⟨w2, vs, rfl, ew2, fun w hw => Nat.le_trans (vl w hw) (by omega), by omega, fun vn H' g' => ?_, fun wv B1 H5 g5 nB eB => ?_⟩
  ·have e : r = (if vs.all wrB = true then _ else none : Option (List Int × List Int)) := e
   rw [if_neg (fun y => by rw [vn] at y; cases y)] at e
   exact qe e _ (g14.trans g')
  have e : r = (if vs.all wrB = true then _ else none : Option (List Int × List Int)) := e
  rw [if_pos wv] at e
  have g15 := g14.trans g5
  refine ⟨two_le, fun t ht => ?_⟩
  have g6 := Same.new ht (.tup [.ref A1, .ref B1])
  have eA5 : upd H5 t (.tup [.ref A1, .ref B1]) A1 = some (.lst (((Txt.split a (sgn 32)).map valW).map V.int)) := g6 _ _ (g5 _ _ (g4 _ _ eA))
  have eB5 : upd H5 t (.tup [.ref A1, .ref B1]) B1 = some (.lst ((vs.map valW).map V.int)) := g6 _ _ eB
  have eT5 : upd H5 t (.tup [.ref A1, .ref B1]) t = some (.tup [.ref A1, .ref B1]) := upd_same
  have g16 := g15.trans g6
  have nA0 : H A1 = none := none_of_same g12 nA
  have nB0 : H B1 = none := none_of_same g14 nB
  have nT0 : H t = none := none_of_same g15 ht
  have AB : A1 ≠ B1 := ne_of_none (g4 _ _ eA) nB
  generalize upd H5 t (.tup [.ref A1, .ref B1]) = H6 at eA5 eB5 eT5 g16 ⊢
  have dt : Dat H6 (.ref t) (plDt ((Txt.split a (sgn 32)).map valW) (vs.map valW)) := .tup eT5 (.cons (.lst eA5 (DatAll.ints _)) (.cons (.lst eB5 (DatAll.ints _)) .nil))
  refine ⟨_, rfl, _, _, rfl, dt, _, rfl, ?_⟩
  cases c6 : planD (plDt ((Txt.split a (sgn 32)).map valW) (vs.map valW)) with
  | false =>
   rw [planD_rise] at c6
   rw [if_neg (fun y => by rw [c6] at y; cases y)] at e
   exact iteT ⟨by decide, qe e _ g16⟩
  | true =>
   obtain ⟨t', a', b', ns', ss', ev, pl, ed⟩ := plan_dt dt c6
   cases ev
   obtain ⟨e7, e8⟩ := plDt_inj ed
   rw [planD_rise] at c6
   rw [if_pos c6] at e
   have et := pl.t
   rw [eT5] at et
   cases et
   refine iteF ?_
   subst e7 e8
   exact ⟨_, rfl, q _ _ e t A1 B1 H6 g16 nT0 nA0 nB0 AB pl⟩
 | _ => exact absurd rfl c
end
abbrev sCell : Stmt := top 29
abbrev sMix : Stmt := top 30
abbrev sMp : Stmt := top 31
abbrev sWn : Stmt := top 32
def spCell (K : PySem.W.Frag) : Sp := fun vs H Q _ => ∃ (a : Addr) (ns : List Int) (k : Int), vs = [.ref a, .int k] ∧ SqL K H a (ns.map V.int) ∧ 0 ≤ k ∧ k < 100 ∧ ∀ r : Int, Q (.int r) H
theorem seq_postT {t u : TS} {D : Ends} {σ : L2.St} {H : Hp} (R : L2.St → Hp → Prop) (ht : ∀ N : L2.St → Hp → Prop, (∀ σ' H', R σ' H' → N σ' H') → t { D with nx := N } σ H) (hu : ∀ σ' H', R σ' H' → u D σ' H') : tSeq t u D σ H := ht _ hu
def spMix : Sp := fun vs H Q _ => ∃ cell k : Int, vs = [.int cell, .int k] ∧ 0 ≤ k ∧ k < 100 ∧ ∀ (r : Int) (H' : Hp), Same H H' → 0 ≤ r → r < 10 ^ 13 → Q (.int r) H'
def spMp : Sp := fun vs H Q _ => ∃ cell : Int, vs = [.int cell, .int 10] ∧ 0 ≤ cell ∧
 ∀ (t a b : Addr) (ns ss : List Int) (H' : Hp), Same H H' → H t = none → H a = none → H b = none → a ≠ b → IsPl H' t a b ns ss → Sml ns → Sml ss → Q (.ref t) H'
def spWn : Sp := fun vs H Q _ => ∃ (t a b : Addr) (ns ss : List Int), vs = [.ref t] ∧ IsPl H t a b ns ss ∧ Sml ns ∧ Sml ss ∧ ∀ H', Same H H' → Q (.str (planT ns ss)) H'
section
variable {f g1 : Addr} {fd gd1 : FuncData}
theorem scCell : FnScope ["script", "k"] ["script", "k"] (defScope sCell) := ⟨rfl, rfl, rfl, by decide +kernel, rfl, by decide +kernel, by decide +kernel⟩
theorem ok_cell (F : Fun K "_law_cell" "_law_cell" sCell f fd) (B : Bt3 mg) : FnOk P w K mg base CX0 1 f fd ["script", "k"] (spCell K) := by
 refine F.ok scCell (fun vs H Q E h => ?_) (fun cdv A outer s H vs Q E hr h => ?_)
 ·obtain ⟨a, ns, k, rfl, _⟩ := h
  rfl
 obtain ⟨a, ns, k, rfl, hS, k0, k1, q⟩ := h
 refine ⟨_, (@pss_cons _ _ _ _ _ (ps_if (pt_cmpR op_lt (pv 1) (pe_callB call_len_seq rfl B.len PySem.boot_len (pa_cons (pv 0) pa_nil)) (nomark _)) (@pss_one _ _ _ (ps_ret (pe_ix ix_list (pv 0) (pv 1) (fun _ _ => rfl)))) pss_nil) (@pss_one _ _ _ (ps_ret (pe_op op_add (pe_op op_add (pe_op op_mul (pe_op op_mul pe_int (pv 1)) (pv 1)) (pe_op op_mul pe_int (pv 1))) pe_int)))), ?_⟩
 have nml : (ns.map V.int).length = ns.length := List.length_map _
 refine ⟨_, rfl, _, rfl, a, _, rfl, .inl hS, _, _, rfl, rfl, _, rfl, ite2 (fun c => ?_) (fun c => ?_)⟩
 ·have h1 : k < ((ns.map V.int).length : Nat) := of_decide_eq_true c
  rw [nml] at h1
  obtain ⟨v, hv, _⟩ := pick_int ns k0 h1
  exact ⟨_, rfl, _, rfl, a, _, _, _, rfl, rfl, hS, hv, q _⟩
 ·exact ⟨_, rfl, _, _, rfl, rfl, .inl ⟨by decide, by decide⟩, _, rfl, _, _, rfl, rfl, .inr ⟨by omega, by omega⟩, _, rfl, _, _, rfl, rfl, .inl ⟨by decide, by decide⟩, _, _, rfl, rfl, _, _, rfl, rfl, q _⟩
theorem mix_bd {p c m : Int} (p0 : 0 ≤ p) (p1 : p < m) (m1 : m < 2147483648) : 0 ≤ (p * 16811 + c % 5) / 8 ∧ (p * 16811 + c % 5) / 8 < 10 ^ 13 := by omega
theorem scMix : FnScope ["cell", "k", "number", "some"] ["cell", "k"] (defScope sMix) := ⟨rfl, rfl, rfl, by decide +kernel, rfl, by decide +kernel, by decide +kernel⟩
theorem ok_mix (F : Fun K "_law_mixed" "_law_mixed" sMix f fd) : FnOk P w K mg base CX0 1 f fd ["cell", "k"] spMix := by
 refine F.ok scMix (fun vs H Q E h => ?_) (fun cdv A outer s H vs Q E hr h => ?_)
 ·obtain ⟨cell, k, rfl, _⟩ := h
  rfl
 obtain ⟨cell, k, rfl, k0, k1, q⟩ := h
 refine ⟨_, (@pss_cons _ _ _ _ _ (ps_set (i := 2) scMix.nd rfl (Or.inl rfl) (pe_op op_mod (pe_op op_add (pe_op op_add (pe_op op_add (pe_op op_mul (pv 0) pe_int) (pe_op op_mul (pe_op op_mul pe_int (pv 1)) (pv 1))) (pe_op op_mul pe_int (pv 1))) pe_int) pe_int)) (@pss_cons _ _ _ _ _ (ps_set (i := 3) scMix.nd rfl (Or.inl rfl) (pe_lst (pa_cons pe_int (pa_cons pe_int (pa_cons pe_int (pa_cons pe_int (pa_cons pe_int (pa_cons pe_int (pa_cons pe_int pa_nil))))))))) (@pss_cons _ _ _ _ _ (ps_set (i := 2) scMix.nd rfl (Or.inl rfl) (pe_op op_mod (pe_op op_mul (pv 2) (pv 2)) (pe_ix ix_list (pv 3) (pe_op op_mod (pv 1) pe_int) (fun _ _ => rfl)))) (@pss_one _ _ _ (ps_ret (pe_op op_fdiv (pe_op op_add (pe_op op_mul (pv 2) pe_int) (pe_op op_mod (pv 0) pe_int)) pe_int)))))), ?_⟩
 refine ⟨_, rfl, _, _, rfl, rfl, .inr ⟨by decide, by decide⟩, _, rfl, _, _, rfl, rfl, .inl ⟨by decide, by decide⟩, _, rfl, _, _, rfl, rfl, .inr ⟨by omega, by omega⟩, _, _, rfl, rfl, _, rfl, _, _, rfl, rfl, .inl ⟨by decide, by decide⟩, _, _, rfl, rfl, _, _, rfl, rfl, _, _, rfl, rfl, (by show (0 : Int) < 2147483647; decide), ?_⟩
 have n0 : 0 ≤ (cell * 48271 + 7919 * k * k + 104729 * k + 11) % 2147483647 := Int.emod_nonneg _ (by decide)
 have n1 : (cell * 48271 + 7919 * k * k + 104729 * k + 11) % 2147483647 < 2147483647 := Int.emod_lt_of_pos _ (by decide)
 refine ⟨(by show 7 ≤ sizeLine; decide), fun l hl => ?_⟩
 have g1 := Same.new hl (.lst ([2147483629, 2147483587, 2147483579, 2147483563, 2147483549, 2147483543, 2147483497].map V.int))
 have e1 : upd H l (.lst ([2147483629, 2147483587, 2147483579, 2147483563, 2147483549, 2147483543, 2147483497].map V.int)) l = some (.lst ([2147483629, 2147483587, 2147483579, 2147483563, 2147483549, 2147483543, 2147483497].map V.int)) := upd_same
 obtain ⟨m, hm, mm⟩ := pick_int [2147483629, 2147483587, 2147483579, 2147483563, 2147483549, 2147483543, 2147483497] (r := k % 7) (by omega) (by show k % 7 < 7; omega)
 have mb : 0 < m ∧ m < 2147483648 := by
  simp only [List.mem_cons, List.not_mem_nil, or_false] at mm
  omega
 refine ⟨_, rfl, _, rfl, _, _, rfl, rfl, .inl ⟨by omega, by omega⟩, _, rfl, _, rfl, _, _, rfl, rfl, (by show (0 : Int) < 7; decide), l, _, _, _, rfl, rfl, SqL.of e1, hm, _, _, rfl, rfl, mb.1, ?_⟩
 have p0 : 0 ≤ ((cell * 48271 + 7919 * k * k + 104729 * k + 11) % 2147483647) * ((cell * 48271 + 7919 * k * k + 104729 * k + 11) % 2147483647) % m := Int.emod_nonneg _ (by omega)
 have p1 : ((cell * 48271 + 7919 * k * k + 104729 * k + 11) % 2147483647) * ((cell * 48271 + 7919 * k * k + 104729 * k + 11) % 2147483647) % m < m := Int.emod_lt_of_pos _ mb.1
 have bd := mix_bd (c := cell) p0 p1 mb.2
 exact ⟨_, rfl, _, _, rfl, rfl, .inr ⟨by decide, by decide⟩, _, rfl, _, _, rfl, rfl, (by show (0 : Int) < 5; decide), _, _, rfl, rfl, _, _, rfl, rfl, ⟨by decide, by decide⟩, q _ _ g1 bd.1 bd.2⟩
theorem scWn : FnScope ["plan", "numbers"] ["plan"] (defScope sWn) := ⟨rfl, rfl, rfl, by decide +kernel, rfl, by decide +kernel, by decide +kernel⟩
theorem ok_wn (F : Fun K "_law_written" "_law_written" sWn f fd) (B : Bt2 mg) : FnOk P w K mg base CX0 1 f fd ["plan"] spWn := by
 refine F.ok scWn (fun vs H Q E h => ?_) (fun cdv A outer s H vs Q E hr h => ?_)
 ·obtain ⟨t, a, b, ns, ss, rfl, _⟩ := h
  rfl
 obtain ⟨t, a, b, ns, ss, rfl, pl, hn, hs, q⟩ := h
 obtain ⟨l1, l2, l3⟩ := plan_len pl.ok hn hs
 have n2 := pl.ok.n2
 have s2 := pl.ok.s2
 have nml : (ns.map V.int).length = ns.length := List.length_map _
 have sml : (ss.map V.int).length = ss.length := List.length_map _
 refine ⟨_, (@pss_cons _ _ _ _ _ (ps_set (i := 1) scWn.nd rfl (Or.inl rfl) (pe_bm PySem.F.plainAttrs_str PySem.F.slot_str_join PySem.F.type_str_join mt_join pe_str (pa_cons (pe_comp ["one"] rfl (blk_ok (defScope sWn) ["plan", "numbers"] rfl rfl (by decide +kernel)) (pi_list (pe_ix ix_tup (pv 0) pe_int (fun _ _ => rfl))) (fun pins C fp s3 H3 => ⟨(pg_name (i := 0) (show (blkN ["one"] ["plan", "numbers"]).Nodup by decide +kernel) rfl (Or.inl rfl)), pif_nil, (pe_callTy call_strI rfl B.str boot_str (pa_cons (pv 0) pa_nil))⟩)) pa_nil))) (@pss_one _ _ _ (ps_ret (pe_op op_add_str (pe_op op_add_str (pv 1) pe_str) (pe_bm PySem.F.plainAttrs_str PySem.F.slot_str_join PySem.F.type_str_join mt_join pe_str (pa_cons (pe_comp ["one"] rfl (blk_ok (defScope sWn) ["plan", "numbers"] rfl rfl (by decide +kernel)) (pi_list (pe_ix ix_tup (pv 0) pe_int (fun _ _ => rfl))) (fun pins C fp s3 H3 => ⟨(pg_name (i := 0) (show (blkN ["one"] ["plan", "numbers"]).Nodup by decide +kernel) rfl (Or.inl rfl)), pif_nil, (pe_op op_add_str pe_str (pe_callTy call_strI rfl B.str boot_str (pa_cons (pv 0) pa_nil)))⟩)) pa_nil)))))), ?_⟩
 refine ⟨rfl, _, rfl, t, _, 0, _, rfl, rfl, SqT.of pl.t, rfl, a, rfl, ⟨_, SqL.of pl.a⟩, fun D0 hD0 => ?_⟩
 refine turns_list (σ := [some (.ref t), none]) (xs := ns.map V.int) (fun _ => true) (fun i => .str (numT (ns.getD i 0))) (SqL.of pl.a) hD0 (by omega) (fun i H' hi g => tells_true) (fun i H' hi _ g P hP => ?_) fun H1 g1 eE0 => ?_
 ·rw [nml] at hi
  rw [getD_map_int _ hi]
  refine ⟨_, rfl, ns.getD i 0, rfl, hn.abs _ ?_, hP _ Same.rfl'⟩
  rw [List.getD_eq_getElem?_getD, List.getElem?_eq_getElem hi]
  exact List.getElem_mem hi
 have et0 : (((List.range (ns.map V.int).length).filter fun _ => true).map fun i => V.str (numT (ns.getD i 0))) = (ns.map numT).map V.str := by
  rw [fltT, nml, List.map_map]
  have h := congrArg (List.map fun x => V.str (numT x)) (rgD ns 0)
  rw [List.map_map] at h
  exact h
 rw [et0] at eE0
 refine ⟨_, D0, ns.map numT, rfl, rfl, SqL.of eE0, rowT_fits hn.abs (by omega), ?_⟩
 refine ⟨_, rfl, _, _, rfl, rfl, by show (rowT ns).length + 1 ≤ sizeLine; rw [sizeLine_eq]; omega, ?_⟩
 have pl1 := pl.same g1
 refine ⟨rfl, _, rfl, t, _, 1, _, rfl, rfl, SqT.of pl1.t, rfl, b, rfl, ⟨_, SqL.of pl1.b⟩, fun D hD => ?_⟩
 refine turns_list (σ := [some (.ref t), some (.str (rowT ns))]) (xs := ss.map V.int) (fun _ => true) (fun i => .str (Str.ofString " " ++ numT (ss.getD i 0))) (SqL.of pl1.b) hD (by omega) (fun i H' hi g => tells_true) (fun i H' hi _ g P hP => ?_) fun HE gE eE => ?_
 ·rw [sml] at hi
  rw [getD_map_int _ hi]
  have hm : ss.getD i 0 ∈ ss := by
   rw [List.getD_eq_getElem?_getD, List.getElem?_eq_getElem hi]
   exact List.getElem_mem hi
  refine ⟨_, rfl, ss.getD i 0, rfl, hs.abs _ hm, _, _, rfl, rfl, ?_, hP _ Same.rfl'⟩
  have := numT_len (hs.abs _ hm)
  show 1 + (numT (ss.getD i 0)).length ≤ sizeLine
  rw [sizeLine_eq]
  omega
 have et : (((List.range (ss.map V.int).length).filter fun _ => true).map fun i => V.str (Str.ofString " " ++ numT (ss.getD i 0))) = (ss.map fun s => Str.ofString " " ++ numT s).map V.str := by
  rw [fltT, sml, List.map_map]
  have h := congrArg (List.map fun x => V.str (Str.ofString " " ++ numT x)) (rgD ss 0)
  rw [List.map_map] at h
  exact h
 rw [et] at eE
 refine ⟨_, D, ss.map fun s => Str.ofString " " ++ numT s, rfl, rfl, SqL.of eE, tailT_fits hs.abs (by omega), ?_⟩
 refine ⟨_, _, rfl, rfl, ?_, q _ (g1.trans gE)⟩
 have e : (rowT ns ++ Str.ofString ":").length = (rowT ns).length + 1 := app_len _ _
 show (rowT ns ++ Str.ofString ":").length + (tailT ss).length ≤ sizeLine
 rw [e, sizeLine_eq]
 omega
theorem scMp : FnScope ["cell", "most", "many", "kind", "numbers", "one", "k", "sums", "a", "b"] ["cell", "most"] (defScope sMp) := ⟨rfl, rfl, rfl, by decide +kernel, rfl, by decide +kernel, by decide +kernel⟩
set_option maxHeartbeats 0 in
theorem ok_mp (F : Fun K "_law_plan" "_law_plan" sMp f fd) (B : Bt2 mg) (zset : mg "set" = none)
  (GX : FnOk P w K mg base CX0 1 g1 gd1 ["cell", "k"] spMix) (bX : Binds K gd1 ["cell", "k"] []) (kX : Kee K g1) (mX : mg "_law_mixed" = some (.ref g1)) : FnOk P w K mg base CX0 2 f fd ["cell", "most"] spMp := by
 refine F.ok scMp (fun vs H Q E h => ?_) (fun cdv A outer s H vs Q E hr h => ?_)
 ·obtain ⟨cell, rfl, _⟩ := h
  rfl
 obtain ⟨cell, rfl, c0, q⟩ := h
 have hu := hu_of hr
 refine ⟨_, (@pss_cons _ _ _ _ _ (ps_set (i := 2) scMp.nd rfl (Or.inl rfl) (pe_op op_add pe_int (pe_op op_mod (pv 0) (pv 1)))) (@pss_cons _ _ _ _ _ (ps_set (i := 3) scMp.nd rfl (Or.inl rfl) (pe_op op_mod (pe_op op_fdiv (pv 0) (pv 1)) pe_int)) (@pss_cons _ _ _ _ _ (ps_comp ["k"] rfl (blk_ok (defScope sMp) ["cell", "most", "many", "kind", "numbers", "one", "k", "sums", "a", "b"] rfl rfl (by decide +kernel)) (pi_range1 rfl B.range (pa_cons (pv 2) pa_nil)) (fun pins C fp s3 H3 => ⟨(pg_name (i := 0) (show (blkN ["k"] ["cell", "most", "many", "kind", "numbers", "one", "k", "sums", "a", "b"]).Nodup by decide +kernel) rfl (Or.inl rfl)), pif_nil, (pe_op op_add pe_int (pv 0))⟩) (j := 4) scMp.nd rfl (Or.inl rfl) rfl) (@pss_cons _ _ _ _ _ (ps_if (pt_cmpR op_gt (pv 3) pe_int (nomark _)) (@pss_cons _ _ _ _ _ (ps_set (i := 5) scMp.nd rfl (Or.inl rfl) (pe_ix ix_list (pe_lst (pa_cons pe_int (pa_cons pe_int (pa_cons pe_int (pa_cons (pe_op op_mul pe_int (pe_op op_pow pe_int pe_int)) pa_nil))))) (pv 3) (fun _ _ => rfl))) (@pss_cons _ _ _ _ _ (ps_set (i := 4) scMp.nd rfl (Or.inl rfl) (pe_lst pa_nil)) (@pss_one _ _ _ (ps_for PassesOwn.never rfl (pi_range1 rfl B.range (pa_cons (pv 2) pa_nil)) (pg_name (i := 6) scMp.nd rfl (Or.inl rfl)) (@pss_cons _ _ _ _ _ (ps_set (i := 5) scMp.nd rfl (Or.inl rfl) (pe_op op_add (pe_op op_add (pv 5) (pe_op op_mod (pe_call GX hr rfl mX kX bX .nil pass0 (pa_cons (pv 0) (pa_cons (pv 6) pa_nil))) (pe_ix ix_list (pe_lst (pa_cons pe_int (pa_cons pe_int (pa_cons pe_int (pa_cons pe_int pa_nil))))) (pv 3) (fun _ _ => rfl)))) pe_int)) (@pss_one _ _ _ (ps_expr (pe_bm PySem.F.plainAttrs_list PySem.F.slot_list_append PySem.F.type_list_append mt_append (pv 4) (pa_cons (pe_op op_sub (pv 5) (pe_callTy call_int1 rfl B.int PyProof.Rows.boot_int (pa_cons (pe_and (pe_cmpR op_eq (pv 3) pe_int (nomark _)) (pe_one (pe_cmpR op_eq (pv 6) pe_int (nomark _)))) pa_nil))) pa_nil))))))))) pss_nil) (@pss_cons _ _ _ _ _ (ps_set (i := 4) scMp.nd rfl (Or.inl rfl) (pe_sortSet rfl rfl B.sorted rfl zset (pv 4))) (@pss_cons _ _ _ _ _ (ps_set (i := 7) scMp.nd rfl (Or.inl rfl) pe_dnewK) (@pss_cons _ _ _ _ _ (ps_for PassesOwn.never rfl (pi_range1 rfl B.range (pa_cons (pe_op op_add (pe_op op_mod (pe_call GX hr rfl mX kX bX .nil pass0 (pa_cons (pv 0) (pa_cons pe_int pa_nil))) pe_int) (pe_op op_mul pe_int (pe_callTy call_int1 rfl B.int PyProof.Rows.boot_int (pa_cons (pe_cmpR op_eq (pv 3) pe_int (nomark _)) pa_nil)))) pa_nil)) (pg_name (i := 6) scMp.nd rfl (Or.inl rfl)) (@pss_cons _ _ _ _ _ (ps_set (i := 8) scMp.nd rfl (Or.inl rfl) (pe_ix ix_list (pv 4) (pe_op op_mod (pe_call GX hr rfl mX kX bX .nil pass0 (pa_cons (pv 0) (pa_cons (pe_op op_add pe_int (pv 6)) pa_nil))) (pe_callB call_len_seq rfl B.len PySem.boot_len (pa_cons (pv 4) pa_nil))) (fun _ _ => rfl))) (@pss_cons _ _ _ _ _ (ps_set (i := 9) scMp.nd rfl (Or.inl rfl) (pe_ix ix_list (pv 4) (pe_op op_mod (pe_call GX hr rfl mX kX bX .nil pass0 (pa_cons (pv 0) (pa_cons (pe_op op_add pe_int (pv 6)) pa_nil))) (pe_callB call_len_seq rfl B.len PySem.boot_len (pa_cons (pv 4) pa_nil))) (fun _ _ => rfl))) (@pss_one _ _ _ (ps_if (pt_cmpR op_lt (pe_callB call_lenD rfl B.len PySem.boot_len (pa_cons (pv 7) pa_nil)) pe_int (nomark _)) (@pss_one _ _ _ (ps_dput hu (pv 7) (pe_op op_add (pe_op op_add (pv 8) (pv 9)) (pe_callTy call_int1 rfl B.int PyProof.Rows.boot_int (pa_cons (pe_cmpR op_eq (pe_op op_mod (pe_call GX hr rfl mX kX bX .nil pass0 (pa_cons (pv 0) (pa_cons (pe_op op_add pe_int (pv 6)) pa_nil))) pe_int) pe_int (nomark _)) pa_nil))) pe_bl rfl)) pss_nil))))) (@pss_one _ _ _ (ps_ret (pe_tup (pa_cons (pv 4) (pa_cons (pe_callB (call_sorted_dict rfl) rfl B.sorted boot_sorted (pa_cons (pv 7) pa_nil)) pa_nil)))))))))))), ?_⟩
 refine ⟨_, rfl, _, rfl, _, _, rfl, rfl, (by show (0 : Int) < 10; decide), _, _, rfl, rfl, ?_⟩
 refine ⟨_, rfl, _, rfl, _, _, rfl, rfl, ⟨by decide, by decide⟩, _, _, rfl, rfl, (by show (0 : Int) < 4; decide), ?_⟩
 have m0 : 1 ≤ 1 + cell % 10 := by omega
 have m1 : 1 + cell % 10 ≤ 10 := by omega
 have k0 : 0 ≤ cell / 10 % 4 := by omega
 have k1 : cell / 10 % 4 < 4 := by omega
 refine ⟨_, rfl, (1 + cell % 10), rfl, by omega, by omega, fun nu0 hnu0 => ?_⟩
 refine turns_range (lo := 0) (n := (1 + cell % 10).toNat) (σ := [some (.int cell), some (.int 10), some (.int (1 + cell % 10)), some (.int (cell / 10 % 4)), none, none, none, none, none, none]) (fun _ => true) (fun k => .int (1 + (k : Int))) hnu0 (by omega) (fun i H' hi g => tells_true) (fun i H' hi _ g P hP => ?_) fun H1 g1 e1 => ?_
 ·have e : 1 + (0 + (i : Int)) = 1 + (i : Int) := by rw [Int.zero_add]
  rw [← e] at hP
  exact ⟨_, rfl, _, _, rfl, rfl, hP _ Same.rfl'⟩
 have e1' : H1 nu0 = some (.lst (((List.range (1 + cell % 10).toNat).map fun k : Nat => 1 + (k : Int)).map V.int)) := by rw [e1, fltT, List.map_map]; rfl
 clear e1
 dsimp only [gName]
 refine seq_postT (fun σ' H' => ∃ (nu : Addr) (xs : List Int) (x5 x6 : Option V), σ' = [some (.int cell), some (.int 10), some (.int (1 + cell % 10)), some (.int (cell / 10 % 4)), some (.ref nu), x5, x6, none, none, none] ∧ Same H H' ∧ H' nu = some (.lst (xs.map V.int)) ∧ 1 ≤ xs.length ∧ xs.length ≤ 10 ∧ ∀ x ∈ xs, 0 ≤ x ∧ x < 10 ^ 25) (fun N hN => ?_) ?_
 ·refine ⟨_, rfl, _, _, rfl, rfl, _, rfl, ite2 (fun c => ?_) (fun c => ?_)⟩
  ·obtain ⟨on, hon, mon⟩ := pick_int [0, 0, 3, 9 * 10 ^ (24 : Int).toNat] k0 (by show (cell / 10 % 4) < 4; omega)
   have onb : 0 ≤ on ∧ on ≤ 9 * 10 ^ 24 := by
    simp only [List.mem_cons, List.not_mem_nil, or_false] at mon
    have e : (10 : Int) ^ (24 : Int).toNat = 1000000000000000000000000 := by decide
    rw [e] at mon
    omega
   refine ⟨_, _, rfl, rfl, ⟨by decide, by decide, by decide⟩, _, _, rfl, rfl, .inl ⟨by decide, by decide⟩, (by show 4 ≤ sizeLine; decide), fun l0 hl0 => ?_⟩
   have gl := Same.new hl0 (.lst [.int 0, .int 0, .int 3, .int (9 * 10 ^ (24 : Int).toNat)])
   have el : upd H1 l0 (.lst [.int 0, .int 0, .int 3, .int (9 * 10 ^ (24 : Int).toNat)]) l0 = some (.lst [.int 0, .int 0, .int 3, .int (9 * 10 ^ (24 : Int).toNat)]) := upd_same
   refine ⟨_, rfl, l0, _, _, _, rfl, rfl, SqL.of el, hon, ?_⟩
   generalize upd H1 l0 (.lst [.int 0, .int 0, .int 3, .int (9 * 10 ^ (24 : Int).toNat)]) = H2 at gl el ⊢
   have g2 := g1.trans gl
   refine ⟨(by show 0 ≤ sizeLine; decide), fun nu hnu => ?_⟩
   have g3 := Same.new hnu (.lst [])
   have e3 : upd H2 nu (.lst []) nu = some (.lst (([] : List Int).map V.int)) := upd_same
   have nuH : H nu = none := none_of_same g2 hnu
   have E3 : Same H (upd H2 nu (.lst [])) := g2.trans g3
   generalize upd H2 nu (.lst []) = H3 at g3 e3 E3 ⊢
   refine ⟨_, rfl, (1 + cell % 10), rfl, by omega, by omega, ?_⟩
   refine for_range (lo := 0) (n := (1 + cell % 10).toNat) (fun i σ H' => ∃ (v : Int) (x6 : Option V) (xs : List Int), σ = [some (.int cell), some (.int 10), some (.int (1 + cell % 10)), some (.int (cell / 10 % 4)), some (.ref nu), some (.int v), x6, none, none, none] ∧ Same H H' ∧ H' nu = some (.lst (xs.map V.int)) ∧ xs.length = i ∧ 0 ≤ v ∧ v ≤ 9 * 10 ^ 24 + 9 * i ∧ ∀ x ∈ xs, 0 ≤ x ∧ x < 10 ^ 25)
    ⟨on, _, [], rfl, E3, e3, rfl, onb.1, by omega, fun x hx => nomatch hx⟩ ?_ ?_
   ·rintro i σ H4 hi ⟨v, x6, xs, rfl, g4, e4, xl, v0, v1, xb⟩
    have hi' : i < 10 := by omega
    obtain ⟨mo, hmo, mmo⟩ := pick_int [1, 2, 5, 9] k0 (by show (cell / 10 % 4) < 4; omega)
    have mob : 1 ≤ mo ∧ mo ≤ 9 := by
     simp only [List.mem_cons, List.not_mem_nil, or_false] at mmo
     omega
    refine ⟨_, rfl, _, rfl, _, rfl, cell, _, rfl, by omega, by omega, fun r H5 g5 r0 r1 => ⟨(by show 4 ≤ sizeLine; decide), fun l hl => ?_⟩⟩
    have g6 := Same.new hl (.lst [.int 1, .int 2, .int 5, .int 9])
    have e6 : upd H5 l (.lst [.int 1, .int 2, .int 5, .int 9]) l = some (.lst [.int 1, .int 2, .int 5, .int 9]) := upd_same
    refine ⟨_, rfl, l, _, _, _, rfl, rfl, SqL.of e6, hmo, _, _, rfl, rfl, (by omega), _, _, rfl, rfl, _, _, rfl, rfl, ?_⟩
    have g56 := g5.trans g6
    have e46 := g56 _ _ e4
    have G6 := g4.trans g56
    generalize upd H5 l (.lst [.int 1, .int 2, .int 5, .int 9]) = H6 at g6 e6 g56 e46 G6 ⊢
    have p0 : 0 ≤ r % mo := Int.emod_nonneg _ (by omega)
    have p1 : r % mo < mo := Int.emod_lt_of_pos _ (by omega)
    generalize r % mo = p at p0 p1 ⊢
    have gw : ∀ y : Int, Same H (upd H6 nu (.lst (xs.map V.int ++ [.int y]))) := fun y c o hc => by
     rw [upd_ne (ne_of_none hc nuH)]
     exact G6 _ _ hc
    have inb : ∀ y : Int, 0 ≤ y → y < 10 ^ 25 → ∀ x ∈ xs ++ [y], 0 ≤ x ∧ x < 10 ^ 25 := fun y y0 y1 x hx => by
     rcases List.mem_append.mp hx with z | z
     ·exact xb x z
     ·rw [List.mem_singleton.mp z]; exact ⟨y0, y1⟩
    have fin : ∀ y : Int, 0 ≤ y → y < 10 ^ 25 → ∃ l xs0 y0, V.ref nu = .ref l ∧ [V.int y] = [y0] ∧ H6 l = some (.lst xs0) ∧ xs0.length < sizeLine ∧ (fun (_ : V) (H' : Hp) => ∃ (v' : Int) (x6 : Option V) (xs : List Int), [some (V.int cell), some (.int 10), some (.int (1 + cell % 10)), some (.int (cell / 10 % 4)), some (.ref nu), some (.int (v + p + 1)), some (.int (0 + (i : Int))), none, none, none] = [some (V.int cell), some (.int 10), some (.int (1 + cell % 10)), some (.int (cell / 10 % 4)), some (.ref nu), some (.int v'), x6, none, none, none] ∧ Same H H' ∧ H' nu = some (.lst (xs.map V.int)) ∧ xs.length = i + 1 ∧ 0 ≤ v' ∧ v' ≤ 9 * 10 ^ 24 + 9 * ((i + 1 : Nat) : Int) ∧ ∀ x ∈ xs, 0 ≤ x ∧ x < 10 ^ 25) .non (upd H6 l (.lst (xs0 ++ [y0]))) := fun y y0 y1 =>
     ⟨nu, _, _, rfl, rfl, e46, by rw [List.length_map]; exact small1000 (by omega), v + p + 1, _, xs ++ [y], rfl, gw y, by rw [upd_same, List.map_append]; rfl, by rw [List.length_append, xl]; rfl, by omega, by omega, inb y y0 y1⟩
    refine ⟨_, rfl, .inl ⟨rfl, _, SqL.of e46⟩, _, rfl, _, rfl, rfl, _, rfl, ite2 (fun c1 => ?_) (fun c1 => ?_)⟩
    ·refine ⟨_, rfl, rfl, .inr ⟨_, rfl, _, _, rfl, rfl, ?_⟩⟩
     refine fin _ ?_ ?_
     ·split <;> omega
     ·split <;> omega
    ·refine .inr ⟨_, rfl, _, _, rfl, rfl, ?_⟩
     refine fin _ ?_ ?_
     ·simp only [Bool.false_eq_true, if_false]; omega
     ·simp only [Bool.false_eq_true, if_false]; omega
   ·rintro σ H4 ⟨v, x6, xs, rfl, g4, e4, xl, v0, v1, xb⟩
    exact hN _ _ ⟨nu, xs, _, _, rfl, g4, e4, by omega, by omega, xb⟩
  ·refine hN _ _ ⟨nu0, _, _, _, rfl, g1, e1', ?_, ?_, fun x hx => ?_⟩
   ·rw [List.length_map, List.length_range]; omega
   ·rw [List.length_map, List.length_range]; omega
   ·obtain ⟨k, hk, rfl⟩ := List.mem_map.mp hx
    have := List.mem_range.mp hk
    omega
 rintro σ H2 ⟨nu, xs, x5, x6, rfl, g2, e2, xl1, xl2, xb⟩
 refine ⟨_, rfl, nu, xs, rfl, SqL.of e2, by omega, fun na ns hna up mem => ?_⟩
 have g3 := Same.new hna (.lst (ns.map V.int))
 have e3 : upd H2 na (.lst (ns.map V.int)) na = some (.lst (ns.map V.int)) := upd_same
 have naH : H na = none := none_of_same g2 hna
 have G3 := g2.trans g3
 generalize upd H2 na (.lst (ns.map V.int)) = H3 at g3 e3 G3 ⊢
 have nsm : Sml ns := fun x hx => by
  have := xb x ((mem x).mp hx)
  omega
 have ns25 : ∀ x ∈ ns, 0 ≤ x ∧ x < 10 ^ 25 := fun x hx => xb x ((mem x).mp hx)
 have nsub : ∀ {l m : List Int}, l.Nodup → (∀ x ∈ l, x ∈ m) → l.length ≤ m.length := fun {l} => by
  induction l with
  | nil => intro _ _ _; exact Nat.zero_le _
  | cons x l ih =>
   intro m nd h
   obtain ⟨h1, h2⟩ := List.nodup_cons.mp nd
   have hx := h x List.mem_cons_self
   have := ih (m := m.erase x) h2 fun y hy => (List.mem_erase_of_ne (fun e : y = x => h1 (e ▸ hy))).mpr (h y (List.mem_cons_of_mem _ hy))
   rw [List.length_erase_of_mem hx] at this
   have : 0 < m.length := List.length_pos_of_mem hx
   rw [List.length_cons]
   omega
 have nl2 : ns.length ≤ 10 := Nat.le_trans (nsub (up.imp fun h => Int.ne_of_lt h) fun x hx => (mem x).mp hx) xl2
 have nl1 : 1 ≤ ns.length := by
  cases xs with
  | nil => exact absurd xl1 (by decide)
  | cons x r => exact List.length_pos_of_mem ((mem x).mpr List.mem_cons_self)
 have nml : (ns.map V.int).length = ns.length := List.length_map _
 intro sd hsd
 have g4 := Same.new hsd (.dK [])
 have e4 : upd H3 sd (.dK []) sd = some (.dK []) := upd_same
 have e34 := g4 _ _ e3
 have sdH : H sd = none := none_of_same G3 hsd
 have G4 := G3.trans g4
 have ns_ : na ≠ sd := ne_of_none e3 hsd
 generalize upd H3 sd (.dK []) = H4 at g4 e4 e34 G4 ⊢
 refine ⟨_, rfl, cell, 40, rfl, by decide, by decide, fun r H5 g5 r0 r1 => ⟨_, _, rfl, rfl, (by show (0 : Int) < 9; decide), _, rfl, rfl, .inr ⟨_, rfl, _, _, rfl, rfl, .inl ⟨by decide, by decide⟩, _, _, rfl, rfl, ?_⟩⟩⟩
 obtain ⟨cnt, ec⟩ : ∃ cnt : Int, cnt = r % 9 + 2 * (if decide (V.int (cell / 10 % 4) = V.int 0) = true then 1 else 0 : Int) := ⟨_, rfl⟩
 have cb : 0 ≤ cnt ∧ cnt ≤ 10 := by rw [ec]; split <;> omega
 refine ⟨_, rfl, by rw [← ec]; omega, by rw [← ec]; omega, ?_⟩
 rw [← ec]
 have pickN : ∀ {r : Int} {H' : Hp}, 0 ≤ r → H' na = some (.lst (ns.map V.int)) → ∃ x : Int, atI (ns.map V.int) (r % ((ns.map V.int).length : Nat)) = some (.int x) ∧ x ∈ ns := fun {r H'} h0 _ => by
  rw [nml]
  exact pick_int ns (Int.emod_nonneg _ (by omega)) (Int.emod_lt_of_pos _ (by omega))
 refine for_range (lo := 0) (n := cnt.toNat) (fun i σ H' => ∃ (x6 x8 x9 : Option V), σ = [some (.int cell), some (.int 10), some (.int (1 + cell % 10)), some (.int (cell / 10 % 4)), some (.ref na), x5, x6, some (.ref sd), x8, x9] ∧ Ex (· = sd) H4 H' ∧ SumsOk H' sd i)
  ⟨_, _, _, rfl, Ex.same g5, ⟨[], [], g5 _ _ e4, rfl, List.nodup_nil, (fun _ h => nomatch h), Nat.le_refl _⟩⟩ ?_ ?_
 ·rintro i σ H6 hi ⟨y6, y8, y9, rfl, E6, so6⟩
  have hi' : i < 10 := by omega
  have eN6 := E6 _ _ ns_ e34
  refine ⟨_, rfl, _, rfl, _, rfl, _, _, rfl, rfl, cell, _, rfl, by omega, by omega, fun ra H7 g7 a0 a1 => ?_⟩
  have eN7 := g7 _ _ eN6
  obtain ⟨va, hva, mva⟩ := pickN (r := ra) a0 eN7
  refine ⟨_, rfl, na, _, rfl, .inl (SqL.of eN7), _, _, rfl, rfl, by rw [nml]; omega, na, _, _, _, rfl, rfl, SqL.of eN7, hva, ?_⟩
  refine ⟨_, rfl, _, rfl, _, rfl, _, _, rfl, rfl, cell, _, rfl, by omega, by omega, fun rb H8 g8 b0 b1 => ?_⟩
  have eN8 := g8 _ _ eN7
  obtain ⟨vb, hvb, mvb⟩ := pickN (r := rb) b0 eN8
  refine ⟨_, rfl, na, _, rfl, .inl (SqL.of eN8), _, _, rfl, rfl, by rw [nml]; omega, na, _, _, _, rfl, rfl, SqL.of eN8, hvb, ?_⟩
  have E8 := E6.trans (Ex.same (S := (· = sd)) (g7.trans g8))
  have so8 : SumsOk H8 sd i := (so6.stay (fun h => g7 _ _ h)).stay (fun h => g8 _ _ h)
  obtain ⟨kvs, ks, k1', _⟩ := id so8
  refine ⟨_, rfl, sd, kvs, rfl, k1', _, _, rfl, rfl, _, rfl, ite2 (fun c => ?_) (fun c => ?_)⟩
  ·refine ⟨_, rfl, _, rfl, _, rfl, _, _, rfl, rfl, _, rfl, _, rfl, _, _, rfl, rfl, cell, _, rfl, by omega, by omega, fun rc H9 g9 d0 d1 => ?_⟩
   have so9 : SumsOk H9 sd i := so8.stay (fun h => g9 _ _ h)
   refine ⟨_, _, rfl, rfl, (by show (0 : Int) < 6; decide), rfl, .inr ⟨_, rfl, _, _, rfl, rfl, ?_⟩⟩
   have ba := ns25 va mva
   have bb := ns25 vb mvb
   have yb : 0 ≤ va + vb + (if decide (V.int (rc % 6) = V.int 0) = true then 1 else 0 : Int) ∧ va + vb + (if decide (V.int (rc % 6) = V.int 0) = true then 1 else 0 : Int) < 3 * 10 ^ 25 := by split <;> omega
   obtain ⟨kvs', h1, h2, h3⟩ := so9.put (x := (va + vb + (if decide (V.int (rc % 6) = V.int 0) = true then 1 else 0 : Int))) yb.1 (Int.lt_trans yb.2 (by decide))
   exact ⟨sd, _, rfl, DPut.k (k := Sum.inl (va + vb + (if decide (V.int (rc % 6) = V.int 0) = true then 1 else 0 : Int))) h1 (by rw [sizeLine_eq]; omega), _, _, _, rfl, (E8.trans (Ex.same g9)).trans (Ex.put _ rfl), h3⟩
  ·exact ⟨_, _, _, rfl, E8, so8.more⟩
 ·rintro σ H6 ⟨y6, y8, y9, rfl, E6, so6⟩
  have eN6 := E6 _ _ ns_ e34
  obtain ⟨kvs, ks, k1', k2', k3', k4', k5'⟩ := so6
  refine ⟨_, rfl, _, rfl, sd, kvs, ks, rfl, k1', k2', by omega, fun b ss hb ps ssl => ⟨two_le, fun t ht => ?_⟩⟩
  have g7 := Same.new hb (.lst (ss.map V.int))
  have g8 := Same.new ht (.tup [.ref na, .ref b])
  have G6 : Same H H6 := fun c o hc => E6 _ _ (ne_of_none hc sdH) (G4 _ _ hc)
  have GG := G6.trans (g7.trans g8)
  have snb : na ≠ b := ne_of_none eN6 hb
  have ss2 : ∀ x ∈ ss, 0 ≤ x ∧ x < 10 ^ 26 := fun x hx => k4' x ((ps.mem_iff).mp hx)
  refine q t na b ns ss _ GG (none_of_same (G6.trans g7) ht) naH (none_of_same G6 hb) snb ⟨upd_same, g8 _ _ (g7 _ _ eN6), g8 _ _ upd_same, ⟨⟨up, fun x hx => (nsm x hx).1⟩, ⟨strict ssl (ps.nodup_iff.mpr k3'), fun x hx => (ss2 x hx).1⟩, nl1, nl2, by rw [ps.length_eq]; omega⟩⟩ nsm fun x hx => ?_
  have := ss2 x hx
  omega
end
abbrev sAsk : Stmt := top 37
theorem boot_ValueError : bootBuiltins "ValueError" = some (.type "ValueError") := by decide +kernel
structure ExT (mg : Str → Option Value) (x0 x1 x2 x3 x4 x5 x6 x7 x8 x9 x10 x11 XS : Addr) : Prop where
 m0 : mg "NoPlan" = some (.ref x0)
 m1 : mg "NoNumber" = some (.ref x1)
 m2 : mg "NoKind" = some (.ref x2)
 m3 : mg "NoPlace" = some (.ref x3)
 m4 : mg "NoRow" = some (.ref x4)
 m5 : mg "NoCut" = some (.ref x5)
 m6 : mg "NoPart" = some (.ref x6)
 m7 : mg "NoSum" = some (.ref x7)
 m8 : mg "TooMany" = some (.ref x8)
 m9 : mg "NoText" = some (.ref x9)
 m10 : mg "NoName" = some (.ref x10)
 m11 : mg "NoSaying" = some (.ref x11)
 mS : mg "SumError" = some (.ref XS)
 mV : mg "ValueError" = none
structure ExD (K : PySem.W.Frag) (xs : List Addr) (XS D : Addr) (n : Int) : Prop where
 k : xs.map (fun x => PySem.W.kitOne K (.ref D) (.ref x)) = (List.range 12).map fun i : Nat => some (decide ((i : Int) = n))
 v : PySem.W.kitOne K (.ref D) (.type "ValueError") = some true
 c : ExcCls K D
 e : PySem.W.exmOne K (.ref D) (.ref XS) = some true
 i : PySem.W.excIn K D bmV "ValueError.__new__" = true
 lt : n < 12
theorem vals_refs : ∀ {xs : List Addr} {us : List Value}, Vals (xs.map V.ref) us → us = xs.map Value.ref
 | [], _, .nil => rfl
 | _ :: _, _, .cons r rs => by cases r; rw [List.map_cons, vals_refs rs]
theorem try_by {K : PySem.W.Frag} {S : Addr} {j : Nat} {tb : XK → TS} {th : TS} {D : Ends} {σ : L2.St} {H : Hp} (R : Value → Hp → Prop)
  (h1 : ∀ C H', R C H' → PySem.W.exmOne K C (.ref S) = some true ∧ ∀ ea : Addr, H' ea = none → th { nx := fun σ' H'' => D.nx (σ'.set j none) H'', rt := fun _ _ => False } (σ.set j (some (.ref ea))) (upd H' ea (.ext (ExcAt ea C))))
  (h2 : ∀ E : XK, (∀ C H', R C H' → E C none H') → tb E D σ H) : tTryH K S j tb th D σ H := h2 _ h1
def wordOf (n : Int) : Str := if n = 9 then "text" else "plan"
def spAsk : Sp := fun vs H Q _ => ∃ (ask : Int) (v : V) (d : PyData), vs = [.int ask, v] ∧ Dat H v d ∧
  ((ask = 0 ∧ ShD d ∧ ∃ r, RdD d r ∧ (r = none → ∀ (l : Addr) (H' : Hp), Same H H' → H' l = some (.lst [.bl true, .str "text"]) → Q (.ref l) H') ∧
      ∀ ns ss, r = some (ns, ss) → ∀ (l t a b : Addr) (H' : Hp), Same H H' → IsPl H' t a b ns ss → H' l = some (.lst [.bl false, .ref t]) → Q (.ref l) H') ∨
   (ask = 1 ∧ (planD d = false → ∀ (l : Addr) (H' : Hp), Same H H' → H' l = some (.lst [.bl true, .str "plan"]) → Q (.ref l) H') ∧
      ∀ ns ss, d = plDt ns ss → planD d = true → Wid ns ∧ Wid ss ∧ ∀ (l : Addr) (H' : Hp), Same H H' → H' l = some (.lst [.bl false, .str (planT ns ss)]) → Q (.ref l) H'))
section
variable {f g1 g2 x0 x1 x2 x3 x4 x5 x6 x7 x8 x9 x10 x11 XS XP XT : Addr} {fd gd1 gd2 : FuncData}
theorem scAsk : FnScope ["ask", "thing", "found", "kinds", "others", "e"] ["ask", "thing"] (defScope sAsk) := ⟨rfl, rfl, rfl, by decide +kernel, rfl, by decide +kernel, by decide +kernel⟩
set_option maxHeartbeats 0 in
theorem ok_ask (F : Fun K "_law_asked" "_law_asked" sAsk f fd) (B : Bt2 mg) (T : ExT mg x0 x1 x2 x3 x4 x5 x6 x7 x8 x9 x10 x11 XS) (mXS : mg "SumError" = some (.ref XS)) (exP : ExD K [x0, x1, x2, x3, x4, x5, x6, x7, x8, x9, x10, x11] XS XP 0) (exT : ExD K [x0, x1, x2, x3, x4, x5, x6, x7, x8, x9, x10, x11] XS XT 9)
  (GR : FnOk P w K mg base (CX1 P w) 5 g1 gd1 ["text"] (spReadX XT)) (bR : Binds K gd1 ["text"] []) (kR : Kee K g1) (mR : mg "read_plan" = some (.ref g1))
  (GS : FnOk P w K mg base (CX1 P w) 5 g2 gd2 ["plan"] (spShowX XP)) (bS : Binds K gd2 ["plan"] []) (kS : Kee K g2) (mS : mg "show_plan" = some (.ref g2)) : FnOk P w K mg base CX0 6 f fd ["ask", "thing"] spAsk := by
 refine F.ok scAsk (fun vs H Q E h => ?_) (fun cdv A outer s H vs Q E hr h => ?_)
 ·obtain ⟨ask, v, d, rfl, _⟩ := h
  rfl
 obtain ⟨ask, v, d, rfl, hd, h⟩ := h
 refine ⟨_, (@pss_cons _ _ _ _ _ (ps_set (i := 2) scAsk.nd rfl (Or.inl rfl) (pe_lst (pa_cons pe_bl (pa_cons pe_non pa_nil)))) (@pss_cons _ _ _ _ _ (ps_tryH (S := XS) (j := 5) (pb_if (fun _ _ z => z) (pt_cmpR op_eq (pv 0) pe_int (nomark _)) (pb_asg (fun _ _ z => z) GR hr rfl mR kR bR .nil (pa_cons (pv 1) pa_nil) (pg_sub (pv 2) pe_int set_list)) (pb_asg (fun _ _ z => z) GS hr rfl mS kS bS .nil (pa_cons (pv 1) pa_nil) (pg_sub (pv 2) pe_int set_list))) (fun ve => (@pss_cons _ _ _ _ _ (ps_set (i := 3) scAsk.nd rfl (Or.inl rfl) (pe_lst (pa_cons (pe_callB (call_isiEK K) rfl B.isinstance boot_isinstance (pa_cons (pv 5) (pa_cons (pe_glob (v := .ref x9) rfl T.m9 rfl) pa_nil))) (pa_cons (pe_callB (call_isiEK K) rfl B.isinstance boot_isinstance (pa_cons (pv 5) (pa_cons (pe_glob (v := .ref x0) rfl T.m0 rfl) pa_nil))) (pa_cons (pe_callB (call_isiEK K) rfl B.isinstance boot_isinstance (pa_cons (pv 5) (pa_cons (pe_bltn (v := .ty "ValueError") rfl T.mV boot_ValueError rfl) pa_nil))) pa_nil))))) (@pss_cons _ _ _ _ _ (ps_set (i := 4) scAsk.nd rfl (Or.inl rfl) (pe_callB (call_isiTK K) rfl B.isinstance boot_isinstance (pa_cons (pv 5) (pa_cons (pe_tup (pa_cons (pe_glob (v := .ref x5) rfl T.m5 rfl) (pa_cons (pe_glob (v := .ref x2) rfl T.m2 rfl) (pa_cons (pe_glob (v := .ref x10) rfl T.m10 rfl) (pa_cons (pe_glob (v := .ref x1) rfl T.m1 rfl) (pa_cons (pe_glob (v := .ref x6) rfl T.m6 rfl) pa_nil)))))) pa_nil)))) (@pss_cons _ _ _ _ _ (ps_set (i := 4) scAsk.nd rfl (Or.inl rfl) (pe_or (pv 4) (pe_one (pe_callB (call_isiTK K) rfl B.isinstance boot_isinstance (pa_cons (pv 5) (pa_cons (pe_tup (pa_cons (pe_glob (v := .ref x3) rfl T.m3 rfl) (pa_cons (pe_glob (v := .ref x4) rfl T.m4 rfl) (pa_cons (pe_glob (v := .ref x11) rfl T.m11 rfl) (pa_cons (pe_glob (v := .ref x7) rfl T.m7 rfl) (pa_cons (pe_glob (v := .ref x8) rfl T.m8 rfl) pa_nil)))))) pa_nil)))))) (@pss_cons _ _ _ _ _ (ps_set (i := 2) scAsk.nd rfl (Or.inl rfl) (pe_lst (pa_cons pe_bl (pa_cons pe_str pa_nil)))) (@pss_one _ _ _ (ps_if (PW.pt (pw_and (pt_val (pe_ix (ix_listK K) (pv 3) pe_int (fun _ _ => rfl))) (pw_and (pt_not (pt_val (pv 4))) (pw_and1 (pt_cmpR op_ne (pe_ix (ix_listK K) (pv 3) pe_int (fun _ _ => rfl)) (pe_ix (ix_listK K) (pv 3) pe_int (fun _ _ => rfl)) (nomark _)))))) (@pss_one _ _ _ (ps_set (i := 2) scAsk.nd rfl (Or.inl rfl) (pe_lst (pa_cons pe_bl (pa_cons (pe_ix (ix_listK K) (pe_lst (pa_cons pe_str (pa_cons pe_str pa_nil))) (pe_callTy call_int1 rfl B.int PyProof.Rows.boot_int (pa_cons (pe_ix (ix_listK K) (pv 3) pe_int (fun _ _ => rfl)) pa_nil)) (fun _ _ => rfl)) pa_nil))))) pss_nil))))))) rfl rfl rfl scAsk.nd rfl mXS rfl rfl) (@pss_one _ _ _ (ps_ret (pv 2))))), ?_⟩
 refine ⟨two_le, fun l hl => ?_⟩
 have g1 := Same.new hl (.lst [.bl false, .non])
 have e1 : upd H l (.lst [.bl false, .non]) l = some (.lst [.bl false, .non]) := upd_same
 generalize upd H l (.lst [.bl false, .non]) = H1 at g1 e1 ⊢
 dsimp only [gName]
 refine try_by (fun C H' => ∃ (n : Int) (D : Addr), C = .ref D ∧ ExD K [x0, x1, x2, x3, x4, x5, x6, x7, x8, x9, x10, x11] XS D n ∧ (n = 9 ∨ n = 0) ∧ Same H1 H' ∧ ∀ (l : Addr) (H'' : Hp), Same H' H'' → H'' l = some (.lst [.bl true, .str (wordOf n)]) → Q (.ref l) H'') ?_ ?_
 ·rintro C H2 ⟨n, D, rfl, ex, hn, g2, qq⟩
  refine ⟨ex.e, fun ea hea => ?_⟩
  have g3 := Same.new hea (.ext (ExcAt ea (.ref D)))
  have he : upd H2 ea (.ext (ExcAt ea (.ref D))) ea = some (.ext (ExcAt ea (.ref D))) := upd_same
  generalize upd H2 ea (.ext (ExcAt ea (.ref D))) = H3 at g3 he ⊢
  have kk : ∀ (i : Nat) (x : Addr), [x0, x1, x2, x3, x4, x5, x6, x7, x8, x9, x10, x11][i]? = some x → PySem.W.kitOne K (.ref D) (.ref x) = some (decide ((i : Int) = n)) := fun i x hx => by
   have hk := congrArg (fun l : List (Option Bool) => l[i]?) ex.k
   simp only [List.getElem?_map, hx, Option.map_some] at hk
   have hi : i < 12 := (List.getElem?_eq_some_iff.mp hx).1
   rw [List.getElem?_range hi] at hk
   exact Option.some.inj hk
  have no : ∀ (i : Nat) (x : Addr), [x0, x1, x2, x3, x4, x5, x6, x7, x8, x9, x10, x11][i]? = some x → i ≠ 9 → i ≠ 0 → PySem.W.kitOne K (.ref D) (.ref x) = some false := fun i x hx h9 h0 => by
   rw [kk i x hx]
   exact congrArg some (decide_eq_false (by omega))
  have any5 : ∀ (a b c d e : Addr), PySem.W.kitOne K (.ref D) (.ref a) = some false → PySem.W.kitOne K (.ref D) (.ref b) = some false → PySem.W.kitOne K (.ref D) (.ref c) = some false → PySem.W.kitOne K (.ref D) (.ref d) = some false → PySem.W.kitOne K (.ref D) (.ref e) = some false →
    PySem.W.kitAny K (.ref D) ([a, b, c, d, e].map Value.ref) = some false := fun a b c d e h1 h2 h3 h4 h5 => by
   simp only [List.map_cons, List.map_nil, PySem.W.kitAny, h1, h2, h3, h4, h5]
  refine ⟨_, rfl, ea, D, _, _, _, rfl, he, ex.c, fun _ z => z, kk 9 _ rfl, _, rfl, ea, D, _, _, _, rfl, he, ex.c, fun _ z => z, kk 0 _ rfl, _, rfl, ea, D, _, _, _, rfl, he, ex.c, fun _ z => z, ex.v, (by show 3 ≤ sizeLine; decide), fun k0 hk0 => ?_⟩
  have g4 := Same.new hk0 (.lst [.bl (decide (((9 : Nat) : Int) = n)), .bl (decide (((0 : Nat) : Int) = n)), .bl true])
  have ek : upd H3 k0 (.lst [.bl (decide (((9 : Nat) : Int) = n)), .bl (decide (((0 : Nat) : Int) = n)), .bl true]) k0 = some (.lst [.bl (decide (((9 : Nat) : Int) = n)), .bl (decide (((0 : Nat) : Int) = n)), .bl true]) := upd_same
  generalize upd H3 k0 (.lst [.bl (decide (((9 : Nat) : Int) = n)), .bl (decide (((0 : Nat) : Int) = n)), .bl true]) = H4 at g4 ek ⊢
  refine ⟨_, rfl, (by show 5 ≤ sizeLine; decide), fun t1 ht1 => ?_⟩
  have g5 := Same.new ht1 (.tup [.ref x5, .ref x2, .ref x10, .ref x1, .ref x6])
  have et1 : upd H4 t1 (.tup [.ref x5, .ref x2, .ref x10, .ref x1, .ref x6]) t1 = some (.tup [.ref x5, .ref x2, .ref x10, .ref x1, .ref x6]) := upd_same
  refine ⟨ea, D, t1, _, _, false, rfl, g5 _ _ (g4 _ _ he), ex.c, et1, fun us hv => vals_refs (xs := [x5, x2, x10, x1, x6]) hv, any5 _ _ _ _ _ (no 5 _ rfl (by decide) (by decide)) (no 2 _ rfl (by decide) (by decide)) (no 10 _ rfl (by decide) (by decide)) (no 1 _ rfl (by decide) (by decide)) (no 6 _ rfl (by decide) (by decide)), ?_⟩
  have g45 := g4.trans g5
  have ek5 := g5 _ _ ek
  clear et1
  generalize upd H4 t1 (.tup [.ref x5, .ref x2, .ref x10, .ref x1, .ref x6]) = H5 at g5 g45 ek5 ⊢
  refine ⟨_, rfl, _, rfl, iteF ?_⟩
  refine ⟨_, rfl, (by show 5 ≤ sizeLine; decide), fun t2 ht2 => ?_⟩
  have g6 := Same.new ht2 (.tup [.ref x3, .ref x4, .ref x11, .ref x7, .ref x8])
  have et2 : upd H5 t2 (.tup [.ref x3, .ref x4, .ref x11, .ref x7, .ref x8]) t2 = some (.tup [.ref x3, .ref x4, .ref x11, .ref x7, .ref x8]) := upd_same
  refine ⟨ea, D, t2, _, _, false, rfl, g6 _ _ (g45 _ _ he), ex.c, et2, fun us hv => vals_refs (xs := [x3, x4, x11, x7, x8]) hv, any5 _ _ _ _ _ (no 3 _ rfl (by decide) (by decide)) (no 4 _ rfl (by decide) (by decide)) (no 11 _ rfl (by decide) (by decide)) (no 7 _ rfl (by decide) (by decide)) (no 8 _ rfl (by decide) (by decide)), ?_⟩
  have g46 := g45.trans g6
  have ek6 := g6 _ _ ek5
  clear et2
  generalize upd H5 t2 (.tup [.ref x3, .ref x4, .ref x11, .ref x7, .ref x8]) = H6 at g6 g46 ek6 ⊢
  refine ⟨two_le, fun f1 hf1 => ?_⟩
  have g7 := Same.new hf1 (.lst [.bl true, .str "other"])
  generalize upd H6 f1 (.lst [.bl true, .str "other"]) = H7 at g7 ⊢
  have ek7 := g7 _ _ ek6
  have g37 := g46.trans g7
  refine ⟨_, rfl, k0, _, 2, _, rfl, rfl, SqL.of ek7, rfl, _, rfl, iteT ?_⟩
  refine ⟨_, rfl, _, rfl, iteT ?_⟩
  refine ⟨_, rfl, k0, _, 0, _, rfl, rfl, SqL.of ek7, rfl, _, rfl, k0, _, 1, _, rfl, rfl, SqL.of ek7, rfl, rfl, _, rfl, ?_⟩
  have cne : (!decide (V.bl (decide (((9 : Nat) : Int) = n)) = V.bl (decide (((0 : Nat) : Int) = n)))) = true := by
   rcases hn with rfl | rfl <;> decide
  rw [cne]
  refine iteT ?_
  refine ⟨two_le, fun tl htl => ?_⟩
  have g8 := Same.new htl (.lst [.str "text", .str "plan"])
  have e8 : upd H7 tl (.lst [.str "text", .str "plan"]) tl = some (.lst [.str "text", .str "plan"]) := upd_same
  generalize upd H7 tl (.lst [.str "text", .str "plan"]) = H8 at g8 e8 ⊢
  have ew : atI [V.str "text", .str "plan"] (if decide (((0 : Nat) : Int) = n) = true then 1 else 0 : Int) = some (.str (wordOf n)) := by
   rcases hn with rfl | rfl <;> rfl
  refine ⟨_, rfl, k0, _, 1, _, rfl, rfl, SqL.of (g8 _ _ ek7), rfl, .inr ⟨_, rfl, tl, _, _, _, rfl, rfl, SqL.of e8, ew, two_le, fun fl hfl => ?_⟩⟩
  have g9 := Same.new hfl (.lst [.bl true, .str (wordOf n)])
  exact ⟨_, rfl, qq fl _ (g3.trans (g37.trans (g8.trans g9))) upd_same⟩
 ·intro E' hE
  refine ⟨_, rfl, rfl, _, rfl, ite2 (fun c => ?_) (fun c => ?_)⟩
  ·have e0 : ask = 0 := V.int.inj (of_decide_eq_true c)
   rcases h with ⟨_, sh, r, rd, qn, qs⟩ | ⟨e, _⟩
   ·refine ⟨_, rfl, v, d, r, rfl, hd.same g1, sh, rd, fun en H' g' => hE _ _ ⟨9, XT, rfl, exT, .inl rfl, g', fun l' H'' g'' e' => qn en l' H'' (g1.trans (g'.trans g'')) e'⟩, fun ns ss er t a b H2 g2 nt na nb ab pl => ?_⟩
    refine ⟨_, rfl, l, _, 1, 1, rfl, rfl, g2 _ _ e1, rfl, ?_⟩
    have lt : t ≠ l := ne_of pl.t (g2 _ _ e1) (fun z => nomatch z)
    have la : a ≠ l := fun z => by
     have y := g2 _ _ e1
     rw [← z, pl.a] at y
     have y2 := HO.lst.inj (Option.some.inj y)
     cases ns with
     | nil => cases y2
     | cons x r => cases y2
    have lb : b ≠ l := fun z => by
     have y := g2 _ _ e1
     rw [← z, pl.b] at y
     have y2 := HO.lst.inj (Option.some.inj y)
     cases ss with
     | nil => cases y2
     | cons x r => cases y2
    refine ⟨_, rfl, qs ns ss er l t a b _ (fun b' o hb => ?_) ⟨by rw [upd_ne lt]; exact pl.t, by rw [upd_ne la]; exact pl.a, by rw [upd_ne lb]; exact pl.b, pl.ok⟩ upd_same⟩
    rw [upd_ne (ne_of_none hb hl)]
    exact g2 _ _ (g1 _ _ hb)
   ·omega
  ·rcases h with ⟨e, _⟩ | ⟨_, qn, qs⟩
   ·exact absurd (decide_eq_true (by rw [e])) c
   ·refine ⟨_, rfl, v, d, rfl, hd.same g1, fun en => hE _ _ ⟨0, XP, rfl, exP, .inr rfl, Same.rfl', fun l' H'' g'' e' => qn en l' H'' (g1.trans g'') e'⟩, fun ns ss ed c2 => ?_⟩
    obtain ⟨wn, ws, qs⟩ := qs ns ss ed c2
    refine ⟨wn, ws, fun H2 g2 => ?_⟩
    refine ⟨_, rfl, l, _, 1, 1, rfl, rfl, g2 _ _ e1, rfl, ?_⟩
    refine ⟨_, rfl, qs l _ (fun b' o hb => ?_) upd_same⟩
    rw [upd_ne (ne_of_none hb hl)]
    exact g2 _ _ (g1 _ _ hb)
end
abbrev sLn : Stmt := top 33
abbrev sLwr : Stmt := top 34
theorem sorted_uni : ∀ {a b : List Int}, a.Pairwise (· < ·) → b.Pairwise (· < ·) → (∀ x, x ∈ a ↔ x ∈ b) → a = b
 | [], [], _, _, _ => rfl
 | [], y :: _, _, _, h => absurd ((h y).mpr List.mem_cons_self) (fun z => nomatch z)
 | x :: _, [], _, _, h => absurd ((h x).mp List.mem_cons_self) (fun z => nomatch z)
 | x :: r, y :: s, h1, h2, h => by
  rw [List.pairwise_cons] at h1 h2
  have exy : x = y := by
   have hx := (h x).mp List.mem_cons_self
   have hy := (h y).mpr List.mem_cons_self
   rcases List.mem_cons.mp hx with e | e
   ·exact e
   ·rcases List.mem_cons.mp hy with e2 | e2
    ·exact e2.symm
    ·have := h2.1 x e
     have := h1.1 y e2
     omega
  subst exy
  rw [sorted_uni h1.2 h2.2 fun z => ?_]
  constructor
  ·intro hz
   rcases List.mem_cons.mp ((h z).mp (List.mem_cons_of_mem _ hz)) with e | e
   ·have := h1.1 z hz; omega
   ·exact e
  ·intro hz
   rcases List.mem_cons.mp ((h z).mpr (List.mem_cons_of_mem _ hz)) with e | e
   ·have := h2.1 z hz; omega
   ·exact e
theorem eq_up {l ys : List Int} (h : ys.Pairwise (· < ·)) (m : ∀ y, y ∈ ys ↔ y ∈ l) : (l == ys) = upB l := by
 rw [Bool.eq_iff_iff, beq_iff_eq, up_iff]
 exact ⟨fun e => e ▸ h, fun e => sorted_uni e h fun x => (m x).symm⟩
theorem lw_empty {w : Str} (h : w = Str.ofString "") : wrB w = false := Bool.eq_false_iff.mpr fun z => (wr_parts z).1 h
theorem lw_dig {w : Str} (h : digB w = false) : wrB w = false := Bool.eq_false_iff.mpr fun z => by rw [(wr_parts z).2.1] at h; cases h
theorem lw_head {w : Str} (h1 : 1 < w.length) (h0 : w.cps.toList[0]? = some 48) : wrB w = false := Bool.eq_false_iff.mpr fun z => by
 rcases (wr_parts z).2.2 with e | e
 ·rw [e] at h1
  exact absurd h1 (by decide)
 ·exact e h0
theorem lw_good {w : Str} (h1 : w ≠ Str.ofString "") (h2 : digB w = true) (h3 : ¬ (1 < w.length ∧ w.cps.toList[0]? = some 48)) : wrB w = true := by
 refine wr_of h1 h2 ?_
 by_cases e : w.cps.toList[0]? = some 48
 ·left
  have l1 : ¬ 1 < w.length := fun z => h3 ⟨z, e⟩
  obtain ⟨r, er⟩ := list0 e
  have hl : w.length = r.length + 1 := by
   show w.cps.size = _
   rw [← Array.length_toList, er, List.length_cons]
  have r0 : r = [] := List.eq_nil_of_length_eq_zero (by omega)
  exact str_ext (by rw [er, r0]; rfl)
 ·exact .inr e
theorem ln_bad {few : Nat} {ws : List Str} {w : Str} (hw : w ∈ ws) (h : wrB w = false) : lnB few ws = false := by
 unfold lnB
 have e : ws.all wrB = false := Bool.eq_false_iff.mpr fun z => by
  have := List.all_eq_true.mp z w hw
  rw [h] at this
  cases this
 rw [e, Bool.false_and, Bool.and_false]
theorem cutS1 (x : V) (xs : List V) : cutV (x :: xs) (some 1) none = xs := by
 unfold cutV
 have h1 : HT.sIx (x :: xs).length 0 (some 1) = 1 := by
  unfold HT.sIx
  rw [List.length_cons]
  simp
 have h2 : HT.sIx (x :: xs).length (x :: xs).length none = xs.length + 1 := by
  unfold HT.sIx
  rw [List.length_cons]
 rw [h1, h2]
 show xs.take (xs.length + 1 - 1) = xs
 rw [Nat.add_sub_cancel, List.take_length]
def spLn : Sp := fun vs H Q _ => ∃ (p : Addr) (ws : List Str) (few : Nat), vs = [.ref p, .int few] ∧ H p = some (.lst (ws.map V.str)) ∧ (∀ w ∈ ws, w.length ≤ 570) ∧ ∀ H', Same H H' → Q (.bl (lnB few ws)) H'
def spLwr : Sp := fun vs H Q _ => ∃ z : Str, vs = [.str z] ∧ z.length ≤ 570 ∧ ∀ H', Same H H' → Q (.bl (wrT z)) H'
section
variable {f g1 : Addr} {fd gd1 : FuncData}
theorem scLn : FnScope ["words", "least", "found", "word"] ["words", "least"] (defScope sLn) := ⟨rfl, rfl, rfl, by decide +kernel, rfl, by decide +kernel, by decide +kernel⟩
set_option maxHeartbeats 0 in
theorem ok_ln (F : Fun K "_law_numbers" "_law_numbers" sLn f fd) (B : Bt2 mg) (zset : mg "set" = none) : FnOk P w K mg base CX0 1 f fd ["words", "least"] spLn := by
 refine F.ok scLn (fun vs H Q E h => ?_) (fun cdv A outer s H vs Q E hr h => ?_)
 ·obtain ⟨p, ws, few, rfl, _⟩ := h
  rfl
 obtain ⟨p, ws, few, rfl, hp, hw, q⟩ := h
 have wml : (ws.map V.str).length = ws.length := List.length_map _
 refine ⟨_, (@pss_cons _ _ _ _ _ (ps_if (pt_not (pt_chain op_le op_le (pv 1) (pe_callB call_len_seq rfl B.len PySem.boot_len (pa_cons (pv 0) pa_nil)) pe_int)) (@pss_one _ _ _ (ps_ret pe_bl)) pss_nil) (@pss_cons _ _ _ _ _ (ps_set (i := 2) scLn.nd rfl (Or.inl rfl) (pe_lst pa_nil)) (@pss_cons _ _ _ _ _ (ps_for PassesOwn.never rfl (pi_list (pv 0)) (pg_name (i := 3) scLn.nd rfl (Or.inl rfl)) (@pss_cons _ _ _ _ _ (ps_if (PW.pt (pw_or (pt_cmpR op_eq (pv 3) pe_str (nomark _)) (pw_or1 (pt_cmpR op_ne (pe_bm PySem.F.plainAttrs_str PySem.F.slot_str_strip PySem.F.type_str_strip mt_strip (pe_op op_add_str pe_str (pv 3)) (pa_cons pe_str pa_nil)) pe_str (nomark _))))) (@pss_one _ _ _ (ps_ret pe_bl)) pss_nil) (@pss_cons _ _ _ _ _ (ps_if (PW.pt (pw_and (pt_cmpR op_gt (pe_callB call_len_str rfl B.len PySem.boot_len (pa_cons (pv 3) pa_nil)) pe_int (nomark _)) (pw_and1 (pt_cmpR op_eq (pe_ix ix_str (pv 3) pe_int (fun _ _ => rfl)) pe_str (nomark _))))) (@pss_one _ _ _ (ps_ret pe_bl)) pss_nil) (@pss_one _ _ _ (ps_expr (pe_bm PySem.F.plainAttrs_list PySem.F.slot_list_append PySem.F.type_list_append mt_append (pv 2) (pa_cons (pe_callTy call_intS rfl B.int PyProof.Rows.boot_int (pa_cons (pv 3) pa_nil)) pa_nil))))))) (@pss_one _ _ _ (ps_ret (pe_cmpR (op_eqD hr.units) (pv 2) (pe_sortSet rfl rfl B.sorted rfl zset (pv 2)) (nomark _))))))), ?_⟩
 refine ⟨_, rfl, _, rfl, p, _, rfl, .inl (SqL.of hp), _, _, rfl, rfl, _, rfl, ite2 (fun c1 => ?_) (fun c1 => ?_)⟩
 ·refine ⟨_, _, rfl, rfl, _, rfl, ite2 (fun c2 => ?_) (fun c2 => ?_)⟩
  ·have e : lnB few ws = false := by
    have c3 : (!decide ((((ws.map V.str).length : Nat) : Int) ≤ 10)) = true := c2
    rw [Bool.not_eq_true', decide_eq_false_iff_not, wml] at c3
    unfold lnB
    rw [decide_eq_false (show ¬ ws.length ≤ 10 by omega), Bool.and_false, Bool.false_and]
   rw [e] at q
   exact q _ Same.rfl'
  have l1 : few ≤ ws.length := by
   have c3 : ((few : Nat) : Int) ≤ (((ws.map V.str).length : Nat) : Int) := of_decide_eq_true c1
   rw [wml] at c3
   omega
  have l2 : ws.length ≤ 10 := by
   have c3 : ¬ (!decide ((((ws.map V.str).length : Nat) : Int) ≤ 10)) = true := c2
   rw [Bool.not_eq_true', decide_eq_false_iff_not, wml] at c3
   omega
  refine ⟨(by show 0 ≤ sizeLine; decide), fun l hl => ?_⟩
  have g1 := Same.new hl (.lst [])
  have e1 : upd H l (.lst []) l = some (.lst (([] : List Int).map V.int)) := upd_same
  generalize upd H l (.lst []) = H1 at g1 e1 ⊢
  refine ⟨_, rfl, p, rfl, ⟨_, SqL.of (g1 _ _ hp)⟩, ?_⟩
  refine for_list (xs := ws.map V.str) (fun i σ H' => ∃ (y : Option V) (xs : List Int), σ = [some (.ref p), some (.int few), some (.ref l), y] ∧ Same H H' ∧ H' l = some (.lst (xs.map V.int)) ∧ xs = (ws.take i).map valW ∧ (ws.take i).all wrB = true)
   ⟨none, [], rfl, g1, e1, rfl, rfl⟩ (fun i σ H' _ ⟨_, _, _, g, _⟩ => SqL.of (g _ _ hp)) ?_ ?_
  ·rintro i x σ H2 hxi ⟨y, xs, rfl, g2, e2, ex, ea⟩
   rw [List.getElem?_map] at hxi
   cases ew : ws[i]? with
   | none => rw [ew] at hxi; cases hxi
   | some w1 =>
    rw [ew] at hxi
    cases hxi
    have mw : w1 ∈ ws := List.mem_of_getElem? ew
    have lw := hw w1 mw
    have bad : wrB w1 = false → Q (.bl false) H2 := fun h => by
     have := q H2 g2
     rw [ln_bad mw h] at this
     exact this
    refine ⟨_, rfl, rfl, _, rfl, ite2 (fun c => ?_) (fun c => ?_)⟩
    ·exact iteT (bad (lw_empty (V.str.inj (of_decide_eq_true c))))
    have ne : w1 ≠ Str.ofString "" := fun e => c (decide_eq_true (by rw [e]))
    have e3 : (Str.ofString "x" ++ w1).length = 1 + w1.length := app_len _ _
    refine ⟨_, rfl, _, _, rfl, rfl, by show 1 + w1.length ≤ sizeLine; rw [sizeLine_eq]; omega, rfl, _, _, rfl, rfl, by rw [e3, sizeLine_eq]; omega, rfl, _, rfl, ite2 (fun c4 => ?_) (fun c4 => ?_)⟩
    ·refine bad (lw_dig (Bool.eq_false_iff.mpr fun z => ?_))
     rw [(strip_x w1).mpr z] at c4
     exact absurd c4 (by decide)
    have dg : digB w1 = true := by
     refine (strip_x w1).mp ?_
     have c5 := Bool.eq_false_iff.mpr c4
     rw [Bool.not_eq_false', decide_eq_true_eq] at c5
     exact V.str.inj c5
    obtain ⟨c0, r0, er⟩ := List.exists_cons_of_ne_nil (str_nil ne)
    have good : wrB w1 = true → Same H (upd H2 l (.lst ((xs ++ [valW w1]).map V.int))) ∧ xs ++ [valW w1] = (ws.take (i + 1)).map valW ∧ (ws.take (i + 1)).all wrB = true := fun hg => by
     have et : ws.take (i + 1) = ws.take i ++ [w1] := by rw [List.take_add_one, ew]; rfl
     refine ⟨fun b o hb => ?_, by rw [et, List.map_append, ← ex]; rfl, ?_⟩
     ·rw [upd_ne (ne_of_none hb hl)]
      exact g2 _ _ hb
     ·rw [et, List.all_append, ea, Bool.true_and, List.all_cons, hg]
      rfl
    have lx : xs.length ≤ 10 := by
     rw [ex, List.length_map, List.length_take]
     omega
    refine ⟨_, rfl, w1, rfl, by rw [sizeLine_eq]; omega, _, _, rfl, rfl, _, rfl, ite2 (fun c5 => ?_) (fun c5 => ?_)⟩
    ·have c6 : (1 : Int) < (w1.length : Nat) := of_decide_eq_true c5
     refine ⟨_, rfl, w1, 0, c0, rfl, rfl, by rw [sizeLine_eq]; omega, by rw [er]; exact atI_nat (j := 0) rfl, rfl, _, rfl, ite2 (fun c7 => ?_) (fun c7 => ?_)⟩
     ·have e7 : sgn c0 = Str.ofString "0" := V.str.inj (of_decide_eq_true c7)
      have e8 : c0 = 48 := by
       have := congrArg (fun z : Str => z.cps.toList) e7
       exact (List.cons.inj this).1
      exact bad (lw_head (by omega) (by rw [er, e8]; rfl))
     ·have hg := lw_good ne dg fun ⟨_, z⟩ => c7 (decide_eq_true (by
       rw [er] at z
       have z : c0 = 48 := Option.some.inj z
       rw [z]
       rfl))
      obtain ⟨k1, k2, k3⟩ := good hg
      exact ⟨_, rfl, .inl ⟨rfl, _, SqL.of e2⟩, _, rfl, w1, valW w1, rfl, wr_reads hg (by omega), by omega, l, _, _, rfl, rfl, e2, by rw [List.length_map]; exact small1000 (by omega), _, xs ++ [valW w1], rfl, by rw [List.map_append] at k1; exact k1, by rw [List.map_append]; exact upd_same, k2, k3⟩
    ·have hg := lw_good ne dg fun ⟨z, _⟩ => c5 (decide_eq_true (show (1 : Int) < (w1.length : Nat) by omega))
     obtain ⟨k1, k2, k3⟩ := good hg
     refine iteF ?_
     exact ⟨_, rfl, .inl ⟨rfl, _, SqL.of e2⟩, _, rfl, w1, valW w1, rfl, wr_reads hg (by omega), by omega, l, _, _, rfl, rfl, e2, by rw [List.length_map]; exact small1000 (by omega), _, xs ++ [valW w1], rfl, by rw [List.map_append] at k1; exact k1, by rw [List.map_append]; exact upd_same, k2, k3⟩
  ·rintro σ H2 ⟨y, xs, rfl, g2, e2, ex, ea⟩
   rw [wml, List.take_length] at ex ea
   have lx : xs.length = ws.length := by rw [ex, List.length_map]
   refine ⟨_, rfl, _, rfl, l, xs, rfl, SqL.of e2, by omega, fun ll ys hll up mem => ?_⟩
   have g3 := Same.new hll (.lst (ys.map V.int))
   refine ⟨_, rcv_ints (SqL.of (g3 _ _ e2)) (SqL.of upd_same), ?_⟩
   have e : lnB few ws = (xs == ys) := by
    rw [eq_up up mem]
    unfold lnB
    rw [decide_eq_true l1, decide_eq_true l2, ea, ex]
    rfl
   rw [e] at q
   exact q _ (g2.trans g3)
 ·have e : lnB few ws = false := by
   have c3 : ¬ ((few : Nat) : Int) ≤ (((ws.map V.str).length : Nat) : Int) := fun z => c1 (decide_eq_true z)
   rw [wml] at c3
   unfold lnB
   rw [decide_eq_false (show ¬ few ≤ ws.length by omega), Bool.false_and, Bool.false_and]
  rw [e] at q
  exact ⟨_, rfl, iteT (q _ Same.rfl')⟩
theorem scLwr : FnScope ["text", "parts", "words"] ["text"] (defScope sLwr) := ⟨rfl, rfl, rfl, by decide +kernel, rfl, by decide +kernel, by decide +kernel⟩
theorem ok_lwr (F : Fun K "_law_writes" "_law_writes" sLwr f fd) (B : Bt2 mg) (GN : FnOk P w K mg base CX0 1 g1 gd1 ["words", "least"] spLn) (bN : Binds K gd1 ["words", "least"] []) (kN : Kee K g1) (mN : mg "_law_numbers" = some (.ref g1)) : FnOk P w K mg base CX0 2 f fd ["text"] spLwr := by
 refine F.ok scLwr (fun vs H Q E h => ?_) (fun cdv A outer s H vs Q E hr h => ?_)
 ·obtain ⟨z, rfl, _⟩ := h
  rfl
 obtain ⟨z, rfl, zl, q⟩ := h
 refine ⟨_, (@pss_cons _ _ _ _ _ (ps_set (i := 1) scLwr.nd rfl (Or.inl rfl) (pe_bm PySem.F.plainAttrs_str PySem.F.slot_str_split PySem.F.type_str_split mt_split (pv 0) (pa_cons pe_str pa_nil))) (@pss_cons _ _ _ _ _ (ps_if (PW.pt (pw_or (pt_cmpR op_ne (pe_callB call_len_seq rfl B.len PySem.boot_len (pa_cons (pv 1) pa_nil)) pe_int (nomark _)) (pw_or1 (pt_not (pt_val (pe_call GN hr rfl mN kN bN .nil pass0 (pa_cons (pe_bm PySem.F.plainAttrs_str PySem.F.slot_str_split PySem.F.type_str_split mt_split (pe_ix ix_list (pv 1) pe_int (fun _ _ => rfl)) (pa_cons pe_str pa_nil)) (pa_cons pe_int pa_nil)))))))) (@pss_one _ _ _ (ps_ret pe_bl)) pss_nil) (@pss_cons _ _ _ _ _ (ps_if (pt_cmpR op_eq (pe_ix ix_list (pv 1) pe_int (fun _ _ => rfl)) pe_str (nomark _)) (@pss_one _ _ _ (ps_ret pe_bl)) pss_nil) (@pss_cons _ _ _ _ _ (ps_set (i := 2) scLwr.nd rfl (Or.inl rfl) (pe_bm PySem.F.plainAttrs_str PySem.F.slot_str_split PySem.F.type_str_split mt_split (pe_ix ix_list (pv 1) pe_int (fun _ _ => rfl)) (pa_cons pe_str pa_nil))) (@pss_one _ _ _ (ps_ret (pe_and (pe_cmpR op_eq (pe_ix ix_list (pv 2) pe_int (fun _ _ => rfl)) pe_str (nomark _)) (pe_one (pe_call GN hr rfl mN kN bN .nil pass0 (pa_cons (pe_slice sl_list (pv 2) (po_some pe_int) po_none) (pa_cons pe_int pa_nil))))))))))), ?_⟩
 refine ⟨_, rfl, rfl, z, 58, rfl, rfl, by rw [sizeLine_eq]; omega, fun l hl => ?_⟩
 have le := fun w (hw : w ∈ Txt.split z (sgn 58)) => split_le hw
 unfold wrT at q
 generalize Txt.split z (sgn 58) = ps at q le ⊢
 have g1 := Same.new hl (.lst (ps.map V.str))
 have e1 : upd H l (.lst (ps.map V.str)) l = some (.lst (ps.map V.str)) := upd_same
 generalize upd H l (.lst (ps.map V.str)) = H1 at g1 e1 ⊢
 refine ⟨_, rfl, l, _, rfl, .inl (SqL.of e1), rfl, _, rfl, ite2 (fun c => ?_) (fun c => ?_)⟩
 ·have e : decide (ps.length = 2) = false := decide_eq_false fun y => by
   have c2 : (!decide (V.int (((ps.map V.str).length : Nat) : Int) = V.int 2)) = true := c
   rw [List.length_map, y] at c2
   exact absurd c2 (by decide)
  rw [e, Bool.false_and] at q
  exact iteT (q _ g1)
 have l2 : ps.length = 2 := by
  have c2 : ¬ (!decide (V.int (((ps.map V.str).length : Nat) : Int) = V.int 2)) = true := c
  rw [Bool.not_eq_true', decide_eq_false_iff_not, Decidable.not_not, List.length_map] at c2
  have := V.int.inj c2
  omega
 match ps, l2 with
 | [a, b], _ =>
  have q : ∀ H', Same H H' → Q (.bl (wr2 a b)) H' := q
  have la := le a List.mem_cons_self
  have lb := le b (List.mem_cons_of_mem _ List.mem_cons_self)
  unfold wr2 at q
  refine ⟨_, rfl, l, _, 0, _, rfl, rfl, SqL.of e1, rfl, rfl, a, 32, rfl, rfl, by rw [sizeLine_eq]; omega, fun wa hwa => ?_⟩
  have g2 := Same.new hwa (.lst ((Txt.split a (sgn 32)).map V.str))
  have e2 : upd H1 wa (.lst ((Txt.split a (sgn 32)).map V.str)) wa = some (.lst ((Txt.split a (sgn 32)).map V.str)) := upd_same
  generalize upd H1 wa (.lst ((Txt.split a (sgn 32)).map V.str)) = H2 at g2 e2 ⊢
  refine ⟨wa, _, 1, rfl, e2, fun w hw => Nat.le_trans (split_le hw) (by omega), fun H3 g3 => ?_⟩
  refine ⟨_, rfl, ite2 (fun c3 => ?_) (fun c3 => ?_)⟩
  ·have e : lnB 1 (Txt.split a (sgn 32)) = false := by simpa using c3
   rw [e, Bool.false_and] at q
   exact q _ (g1.trans (g2.trans g3))
  have e : lnB 1 (Txt.split a (sgn 32)) = true := by simpa using c3
  rw [e, Bool.true_and] at q
  have e3 := g3 _ _ (g2 _ _ e1)
  have G3 := g1.trans (g2.trans g3)
  refine ⟨_, rfl, l, _, 1, _, rfl, rfl, SqL.of e3, rfl, rfl, _, rfl, ite2 (fun c4 => ?_) (fun c4 => ?_)⟩
  ·have e4 : b = Str.ofString "" := V.str.inj (of_decide_eq_true c4)
   rw [decide_eq_true e4, Bool.true_or] at q
   exact q _ G3
  have ne : b ≠ Str.ofString "" := fun y => c4 (decide_eq_true (by rw [y]))
  rw [decide_eq_false ne, Bool.false_or] at q
  refine ⟨_, rfl, l, _, 1, _, rfl, rfl, SqL.of e3, rfl, rfl, b, 32, rfl, rfl, by rw [sizeLine_eq]; omega, fun wb hwb => ?_⟩
  have g4 := Same.new hwb (.lst ((Txt.split b (sgn 32)).map V.str))
  have e4 : upd H3 wb (.lst ((Txt.split b (sgn 32)).map V.str)) wb = some (.lst ((Txt.split b (sgn 32)).map V.str)) := upd_same
  generalize upd H3 wb (.lst ((Txt.split b (sgn 32)).map V.str)) = H4 at g4 e4 ⊢
  have G4 := G3.trans g4
  have lw := fun w (hw : w ∈ Txt.split b (sgn 32)) => split_le hw
  obtain ⟨w0, ws, ew⟩ := List.exists_cons_of_ne_nil (split_ne b 32)
  rw [ew] at q e4 lw
  refine ⟨_, rfl, wb, _, 0, _, rfl, rfl, SqL.of e4, atI_nat (j := 0) rfl, rfl, _, rfl, ite2 (fun c5 => ?_) (fun c5 => ?_)⟩
  ·have e5 : w0 = Str.ofString "" := V.str.inj (of_decide_eq_true c5)
   rw [show decide ((w0 :: ws)[0]? = some (Str.ofString "")) = true from decide_eq_true (by rw [e5]; rfl), Bool.true_and] at q
   refine ⟨_, rfl, 1, rfl, wb, _, rfl, SqL.of e4, fun wc hwc => ?_⟩
   have g5 := Same.new hwc (.lst (cutV ((w0 :: ws).map V.str) (some 1) none))
   have e5' : upd H4 wc (.lst (cutV ((w0 :: ws).map V.str) (some 1) none)) wc = some (.lst (ws.map V.str)) := by rw [upd_same, List.map_cons, cutS1]
   exact ⟨wc, ws, 1, rfl, e5', fun w hw => Nat.le_trans (lw w (List.mem_cons_of_mem _ hw)) (by omega), fun H6 g6 => q _ (G4.trans (g5.trans g6))⟩
  ·rw [show decide ((w0 :: ws)[0]? = some (Str.ofString "")) = false from decide_eq_false fun y => c5 (decide_eq_true (by rw [Option.some.inj y])), Bool.false_and] at q
   exact q _ G4
end
abbrev sOdd : Stmt := top 35
structure QE (X : Cx) (e : Expr) (t : TE) : Prop where
 h : PE X e t
structure QA (X : Cx) (es : List Expr) (t : TA) : Prop where
 h : PA X es t
structure QI (X : Cx) (tg iter : Expr) (t : TI) : Prop where
 h : PI X tg iter t
structure QS (X : Cx) (st : Stmt) (t : TS) : Prop where
 h : PS X st t
structure QSs (X : Cx) (st : List Stmt) (t : TS) : Prop where
 h : PSs X st t
section
variable {X : Cx} {e tg : Expr} {es : List Expr} {te : TE} {t : TA} {pos : Pos} {st : Stmt} {rest : List Stmt} {u v : TS}
theorem qa_nil : QA X [] tNil := ⟨pa_nil⟩
theorem qa_cons (ha : QE X e te) (hr : QA X es t) (hs : starEach (e :: es) X.env = (false, eval e X.env) :: starEach es X.env := by rfl) : QA X (e :: es) (tCons te t) := ⟨pa_cons ha.h hr.h hs⟩
theorem qe_lst (h : QA X es t) : QE X (.List es pos) (tLst t) := ⟨pe_lst h.h⟩
theorem qe_tup {x1} (h : QA X es t) : QE X (.Tuple es x1 pos) (tTup t) := ⟨pe_tup h.h⟩
theorem qe_op {a b : Expr} {op : Operator} {ta tb : TE} {r : R2} (hr : OpR X (binaryOp op) r) (ha : QE X a ta) (hb : QE X b tb) : QE X (.BinOp a op b pos) (tOp r ta tb) := ⟨pe_op hr ha.h hb.h⟩
theorem qi_list (h : QE X e te) : QI X tg e (iList X.K te) := ⟨pi_list h.h⟩
theorem qs_for {iter : Expr} {body : List Stmt} {wi : TI} {g : TG} {tb : TS} (hp : PassesOwn (model X.prog X.w) X.A X.env X.xe) (hc : X.calm = true) (hi : QI X tg iter wi) (hg : PG X tg g) (hb : PSs X body tb)
  (hs : ∀ x, foldedSetIterable iter X.env x = pure x := by intro _; rfl) : QS X (.For tg iter body [] pos) (tFor wi g tb) := ⟨ps_for hp hc hi.h hg hb hs⟩
theorem qs_set {i : Nat} {x : Str} {pos' : Pos} (hN : X.N.Nodup) (hi : X.N[i]? = some x) (hx : Loc X.env.scope x) (he : QE X e te) (hs : swapsWith e (some (.Name x pos')) pos.line X.env = pure false := by rfl) (hf : X.fn x = true ∨ X.env.scope.names.lookup x = some .local := by first | exact .inl rfl | exact .inr rfl | assumption) :
  QS X (.Assign [.Name x pos'] e pos) (tAsg te (gName i)) := ⟨ps_set hN hi hx he.h hs hf⟩
theorem qss_cons (h1 : QS X st u) (h2 : QSs X rest v) : QSs X (st :: rest) (tSeq u v) := ⟨pss_cons h1.h h2.h⟩
theorem qss_one (h1 : QS X st u) : QSs X [st] u := ⟨pss_one h1.h⟩
end
def OddL (H : Hp) (l : Addr) (n : Nat) : Prop := ∃ zs : List Str, H l = some (.lst (zs.map V.str)) ∧ zs.length = n ∧ ∀ z ∈ zs, z.length ≤ 570
def Oks (zs : List Str) : Prop := ∀ z ∈ zs, z.length ≤ 570
theorem oks_of {zs : List Str} (h : zs.all (fun z => decide (z.length ≤ 570)) = true) : Oks zs := fun z hz => of_decide_eq_true (List.all_eq_true.mp h z hz)
def spOdd : Sp := fun vs H Q _ => ∃ cell : Int, vs = [.int cell] ∧ ∀ (l : Addr) (H' : Hp), Same H H' → OddL H' l 56 → Q (.ref l) H'
section
variable {f : Addr} {fd : FuncData}
theorem scOdd : FnScope ["cell", "some"] ["cell"] (defScope sOdd) := ⟨rfl, rfl, rfl, by decide +kernel, rfl, by decide +kernel, by decide +kernel⟩
set_option maxHeartbeats 0 in
theorem ok_odd (F : Fun K "_law_odd" "_law_odd" sOdd f fd) : FnOk P w K mg base CX0 1 f fd ["cell"] spOdd := by
 refine F.ok scOdd (fun vs H Q E h => ?_) (fun cdv A outer s H vs Q E hr h => ?_)
 ·obtain ⟨cell, rfl, _⟩ := h
  rfl
 obtain ⟨cell, rfl, q⟩ := h
 refine ⟨_, (QSs.h (qss_cons (qs_set (i := 1) scOdd.nd rfl (Or.inl rfl) (qe_lst (qa_cons (QE.mk pe_str) (qa_cons (QE.mk pe_str) (qa_cons (QE.mk pe_str) (qa_cons (QE.mk pe_str) (qa_cons (QE.mk pe_str) (qa_cons (QE.mk pe_str) (qa_cons (QE.mk pe_str) (qa_cons (QE.mk pe_str) qa_nil)))))))))) (qss_cons (qs_set (i := 1) scOdd.nd rfl (Or.inl rfl) (qe_op op_cat (QE.mk (pv 1)) (qe_lst (qa_cons (QE.mk pe_str) (qa_cons (QE.mk pe_str) (qa_cons (QE.mk pe_str) (qa_cons (QE.mk pe_str) (qa_cons (QE.mk pe_str) (qa_cons (QE.mk pe_str) (qa_cons (QE.mk pe_str) (qa_cons (QE.mk pe_str) qa_nil))))))))))) (qss_cons (qs_set (i := 1) scOdd.nd rfl (Or.inl rfl) (qe_op op_cat (QE.mk (pv 1)) (qe_lst (qa_cons (QE.mk pe_str) (qa_cons (QE.mk pe_str) (qa_cons (QE.mk pe_str) (qa_cons (QE.mk pe_str) (qa_cons (QE.mk pe_str) (qa_cons (QE.mk pe_str) qa_nil))))))))) (qss_cons (qs_set (i := 1) scOdd.nd rfl (Or.inl rfl) (qe_op op_cat (QE.mk (pv 1)) (qe_lst (qa_cons (QE.mk pe_str) (qa_cons (QE.mk pe_str) (qa_cons (QE.mk pe_str) (qa_cons (QE.mk pe_str) (qa_cons (QE.mk pe_str) (qa_cons (QE.mk pe_str) qa_nil))))))))) (qss_cons (qs_set (i := 1) scOdd.nd rfl (Or.inl rfl) (qe_op op_cat (QE.mk (pv 1)) (qe_lst (qa_cons (QE.mk pe_str) (qa_cons (QE.mk pe_str) (qa_cons (QE.mk pe_str) (qa_cons (QE.mk pe_str) (qa_cons (QE.mk pe_str) (qa_cons (QE.mk pe_str) qa_nil))))))))) (qss_cons (qs_set (i := 1) scOdd.nd rfl (Or.inl rfl) (qe_op op_cat (QE.mk (pv 1)) (qe_lst (qa_cons (QE.mk pe_str) (qa_cons (QE.mk pe_str) (qa_cons (QE.mk pe_str) (qa_cons (QE.mk pe_str) (qa_cons (QE.mk pe_str) (qa_cons (QE.mk pe_str) qa_nil))))))))) (qss_cons (qs_set (i := 1) scOdd.nd rfl (Or.inl rfl) (qe_op op_cat (QE.mk (pv 1)) (qe_lst (qa_cons (QE.mk pe_str) (qa_cons (QE.mk pe_str) qa_nil))))) (qss_cons (qs_set (i := 1) scOdd.nd rfl (Or.inl rfl) (qe_op op_cat (QE.mk (pv 1)) (qe_lst (qa_cons (QE.mk pe_str) (qa_cons (QE.mk pe_str) qa_nil))))) (qss_cons (qs_set (i := 1) scOdd.nd rfl (Or.inl rfl) (qe_op op_cat (QE.mk (pv 1)) (qe_lst (qa_cons (QE.mk pe_str) (qa_cons (QE.mk pe_str) (qa_cons (QE.mk pe_str) (qa_cons (QE.mk pe_str) (qa_cons (QE.mk pe_str) qa_nil)))))))) (qss_cons (qs_set (i := 1) scOdd.nd rfl (Or.inl rfl) (qe_op op_cat (QE.mk (pv 1)) (qe_lst (qa_cons (QE.mk pe_str) (qa_cons (QE.mk pe_str) (qa_cons (QE.mk pe_str) (qa_cons (QE.mk pe_str) qa_nil))))))) (qss_one (QS.mk (ps_ret (pe_op op_cat (pv 1) (pe_lst (QA.h (qa_cons (QE.mk pe_str) (qa_cons (qe_op op_add_str (qe_op op_mulS (QE.mk pe_str) (QE.mk pe_int)) (QE.mk pe_str)) (qa_cons (qe_op op_add_str (qe_op op_add_str (QE.mk pe_str) (qe_op op_mulS (QE.mk pe_str) (QE.mk pe_int))) (QE.mk pe_str)) qa_nil)))))))))))))))))))), ?_⟩
 refine seq_postT (fun σ' H' => ∃ l, σ' = [some (.int cell), some (.ref l)] ∧ Same H H' ∧ OddL H' l 8) (fun N hN => ?_) ?_
 ·exact ⟨(by show 8 ≤ sizeLine; decide), fun l0 hl0 => hN _ _ ⟨l0, rfl, Same.new hl0 _, ([Str.ofString "", Str.ofString " ", Str.ofString ":", Str.ofString "1", Str.ofString "1:", Str.ofString "1 :", Str.ofString " 1:", Str.ofString "1: "] : List Str), upd_same, rfl, oks_of (by decide +kernel)⟩⟩
 rintro σ1 H1 ⟨l1, rfl, g1, zs, ez, ln, ok⟩
 refine seq_postT (fun σ' H' => ∃ l, σ' = [some (.int cell), some (.ref l)] ∧ Same H H' ∧ OddL H' l 16) (fun N hN => ?_) ?_
 ·refine ⟨_, rfl, (by show 8 ≤ sizeLine; decide), fun r hr => ⟨_, _, _, _, rfl, rfl, Same.new hr _ _ _ ez, upd_same, ?_, fun q hq => hN _ _ ⟨q, rfl, g1.trans ((Same.new hr _).trans (Same.new hq _)), zs ++ ([Str.ofString "1:3", Str.ofString "1: 3", Str.ofString "1:  3", Str.ofString "1 2: 3", Str.ofString "1  2: 3", Str.ofString "2 1: 3", Str.ofString "1 1: 2", Str.ofString "1 2: 3 3"] : List Str), ?_, ?_, ?_⟩⟩⟩
  ·show (zs.map V.str).length + 8 ≤ sizeLine
   rw [List.length_map, ln]
   decide
  ·rw [upd_same, List.map_append]
   rfl
  ·rw [List.length_append, ln]
   rfl
  ·intro z hz
   rcases List.mem_append.mp hz with y | y
   ·exact ok z y
   ·exact oks_of (zs := ([Str.ofString "1:3", Str.ofString "1: 3", Str.ofString "1:  3", Str.ofString "1 2: 3", Str.ofString "1  2: 3", Str.ofString "2 1: 3", Str.ofString "1 1: 2", Str.ofString "1 2: 3 3"] : List Str)) (by decide +kernel) z y
 clear ez ln ok
 rintro σ1 H1 ⟨l1, rfl, g1, zs, ez, ln, ok⟩
 refine seq_postT (fun σ' H' => ∃ l, σ' = [some (.int cell), some (.ref l)] ∧ Same H H' ∧ OddL H' l 22) (fun N hN => ?_) ?_
 ·refine ⟨_, rfl, (by show 6 ≤ sizeLine; decide), fun r hr => ⟨_, _, _, _, rfl, rfl, Same.new hr _ _ _ ez, upd_same, ?_, fun q hq => hN _ _ ⟨q, rfl, g1.trans ((Same.new hr _).trans (Same.new hq _)), zs ++ ([Str.ofString "1 2: 3 2", Str.ofString "1 2 : 3", Str.ofString "1 2:: 3", Str.ofString "1 2: 3:", Str.ofString "01: 3", Str.ofString "1: 03"] : List Str), ?_, ?_, ?_⟩⟩⟩
  ·show (zs.map V.str).length + 6 ≤ sizeLine
   rw [List.length_map, ln]
   decide
  ·rw [upd_same, List.map_append]
   rfl
  ·rw [List.length_append, ln]
   rfl
  ·intro z hz
   rcases List.mem_append.mp hz with y | y
   ·exact ok z y
   ·exact oks_of (zs := ([Str.ofString "1 2: 3 2", Str.ofString "1 2 : 3", Str.ofString "1 2:: 3", Str.ofString "1 2: 3:", Str.ofString "01: 3", Str.ofString "1: 03"] : List Str)) (by decide +kernel) z y
 clear ez ln ok
 rintro σ1 H1 ⟨l1, rfl, g1, zs, ez, ln, ok⟩
 refine seq_postT (fun σ' H' => ∃ l, σ' = [some (.int cell), some (.ref l)] ∧ Same H H' ∧ OddL H' l 28) (fun N hN => ?_) ?_
 ·refine ⟨_, rfl, (by show 6 ≤ sizeLine; decide), fun r hr => ⟨_, _, _, _, rfl, rfl, Same.new hr _ _ _ ez, upd_same, ?_, fun q hq => hN _ _ ⟨q, rfl, g1.trans ((Same.new hr _).trans (Same.new hq _)), zs ++ ([Str.ofString "1 2: -3", Str.ofString "-1 2: 3", Str.ofString "+1: 3", Str.ofString "1: +3", Str.ofString "1.0: 3", Str.ofString "x: 3"] : List Str), ?_, ?_, ?_⟩⟩⟩
  ·show (zs.map V.str).length + 6 ≤ sizeLine
   rw [List.length_map, ln]
   decide
  ·rw [upd_same, List.map_append]
   rfl
  ·rw [List.length_append, ln]
   rfl
  ·intro z hz
   rcases List.mem_append.mp hz with y | y
   ·exact ok z y
   ·exact oks_of (zs := ([Str.ofString "1 2: -3", Str.ofString "-1 2: 3", Str.ofString "+1: 3", Str.ofString "1: +3", Str.ofString "1.0: 3", Str.ofString "x: 3"] : List Str)) (by decide +kernel) z y
 clear ez ln ok
 rintro σ1 H1 ⟨l1, rfl, g1, zs, ez, ln, ok⟩
 refine seq_postT (fun σ' H' => ∃ l, σ' = [some (.int cell), some (.ref l)] ∧ Same H H' ∧ OddL H' l 34) (fun N hN => ?_) ?_
 ·refine ⟨_, rfl, (by show 6 ≤ sizeLine; decide), fun r hr => ⟨_, _, _, _, rfl, rfl, Same.new hr _ _ _ ez, upd_same, ?_, fun q hq => hN _ _ ⟨q, rfl, g1.trans ((Same.new hr _).trans (Same.new hq _)), zs ++ ([Str.ofString "1: x", Str.ofString "1,2: 3", Str.ofString "1 2; 3", Str.ofString "1 2 3", Str.ofString "0: 0", Str.ofString "0 1: 0 1"] : List Str), ?_, ?_, ?_⟩⟩⟩
  ·show (zs.map V.str).length + 6 ≤ sizeLine
   rw [List.length_map, ln]
   decide
  ·rw [upd_same, List.map_append]
   rfl
  ·rw [List.length_append, ln]
   rfl
  ·intro z hz
   rcases List.mem_append.mp hz with y | y
   ·exact ok z y
   ·exact oks_of (zs := ([Str.ofString "1: x", Str.ofString "1,2: 3", Str.ofString "1 2; 3", Str.ofString "1 2 3", Str.ofString "0: 0", Str.ofString "0 1: 0 1"] : List Str)) (by decide +kernel) z y
 clear ez ln ok
 rintro σ1 H1 ⟨l1, rfl, g1, zs, ez, ln, ok⟩
 refine seq_postT (fun σ' H' => ∃ l, σ' = [some (.int cell), some (.ref l)] ∧ Same H H' ∧ OddL H' l 40) (fun N hN => ?_) ?_
 ·refine ⟨_, rfl, (by show 6 ≤ sizeLine; decide), fun r hr => ⟨_, _, _, _, rfl, rfl, Same.new hr _ _ _ ez, upd_same, ?_, fun q hq => hN _ _ ⟨q, rfl, g1.trans ((Same.new hr _).trans (Same.new hq _)), zs ++ ([Str.ofString "1_0: 3", Str.ofString "1: 3_0", Str.ofString "1\t2: 3", Str.ofString "1 2:\t3", Str.ofString "1 2: 3\n", Str.ofString "\n1: 3"] : List Str), ?_, ?_, ?_⟩⟩⟩
  ·show (zs.map V.str).length + 6 ≤ sizeLine
   rw [List.length_map, ln]
   decide
  ·rw [upd_same, List.map_append]
   rfl
  ·rw [List.length_append, ln]
   rfl
  ·intro z hz
   rcases List.mem_append.mp hz with y | y
   ·exact ok z y
   ·exact oks_of (zs := ([Str.ofString "1_0: 3", Str.ofString "1: 3_0", Str.ofString "1\t2: 3", Str.ofString "1 2:\t3", Str.ofString "1 2: 3\n", Str.ofString "\n1: 3"] : List Str)) (by decide +kernel) z y
 clear ez ln ok
 rintro σ1 H1 ⟨l1, rfl, g1, zs, ez, ln, ok⟩
 refine seq_postT (fun σ' H' => ∃ l, σ' = [some (.int cell), some (.ref l)] ∧ Same H H' ∧ OddL H' l 42) (fun N hN => ?_) ?_
 ·refine ⟨_, rfl, two_le, fun r hr => ⟨_, _, _, _, rfl, rfl, Same.new hr _ _ _ ez, upd_same, ?_, fun q hq => hN _ _ ⟨q, rfl, g1.trans ((Same.new hr _).trans (Same.new hq _)), zs ++ ([Str.ofString "1 2 3 4 5 6 7 8 9 10: 3", Str.ofString "1 2 3 4 5 6 7 8 9 10 11: 3"] : List Str), ?_, ?_, ?_⟩⟩⟩
  ·show (zs.map V.str).length + 2 ≤ sizeLine
   rw [List.length_map, ln]
   decide
  ·rw [upd_same, List.map_append]
   rfl
  ·rw [List.length_append, ln]
   rfl
  ·intro z hz
   rcases List.mem_append.mp hz with y | y
   ·exact ok z y
   ·exact oks_of (zs := ([Str.ofString "1 2 3 4 5 6 7 8 9 10: 3", Str.ofString "1 2 3 4 5 6 7 8 9 10 11: 3"] : List Str)) (by decide +kernel) z y
 clear ez ln ok
 rintro σ1 H1 ⟨l1, rfl, g1, zs, ez, ln, ok⟩
 refine seq_postT (fun σ' H' => ∃ l, σ' = [some (.int cell), some (.ref l)] ∧ Same H H' ∧ OddL H' l 44) (fun N hN => ?_) ?_
 ·refine ⟨_, rfl, two_le, fun r hr => ⟨_, _, _, _, rfl, rfl, Same.new hr _ _ _ ez, upd_same, ?_, fun q hq => hN _ _ ⟨q, rfl, g1.trans ((Same.new hr _).trans (Same.new hq _)), zs ++ ([Str.ofString "1: 1 2 3 4 5 6 7 8 9 10", Str.ofString "1: 1 2 3 4 5 6 7 8 9 10 11"] : List Str), ?_, ?_, ?_⟩⟩⟩
  ·show (zs.map V.str).length + 2 ≤ sizeLine
   rw [List.length_map, ln]
   decide
  ·rw [upd_same, List.map_append]
   rfl
  ·rw [List.length_append, ln]
   rfl
  ·intro z hz
   rcases List.mem_append.mp hz with y | y
   ·exact ok z y
   ·exact oks_of (zs := ([Str.ofString "1: 1 2 3 4 5 6 7 8 9 10", Str.ofString "1: 1 2 3 4 5 6 7 8 9 10 11"] : List Str)) (by decide +kernel) z y
 clear ez ln ok
 rintro σ1 H1 ⟨l1, rfl, g1, zs, ez, ln, ok⟩
 refine seq_postT (fun σ' H' => ∃ l, σ' = [some (.int cell), some (.ref l)] ∧ Same H H' ∧ OddL H' l 49) (fun N hN => ?_) ?_
 ·refine ⟨_, rfl, (by show 5 ≤ sizeLine; decide), fun r hr => ⟨_, _, _, _, rfl, rfl, Same.new hr _ _ _ ez, upd_same, ?_, fun q hq => hN _ _ ⟨q, rfl, g1.trans ((Same.new hr _).trans (Same.new hq _)), zs ++ ([Str.ofString "00: 3", Str.ofString "1: 00", Str.ofString "1 2: 3 5 ", Str.ofString " 1 2: 3", Str.ofString "1 2:3 5"] : List Str), ?_, ?_, ?_⟩⟩⟩
  ·show (zs.map V.str).length + 5 ≤ sizeLine
   rw [List.length_map, ln]
   decide
  ·rw [upd_same, List.map_append]
   rfl
  ·rw [List.length_append, ln]
   rfl
  ·intro z hz
   rcases List.mem_append.mp hz with y | y
   ·exact ok z y
   ·exact oks_of (zs := ([Str.ofString "00: 3", Str.ofString "1: 00", Str.ofString "1 2: 3 5 ", Str.ofString " 1 2: 3", Str.ofString "1 2:3 5"] : List Str)) (by decide +kernel) z y
 clear ez ln ok
 rintro σ1 H1 ⟨l1, rfl, g1, zs, ez, ln, ok⟩
 refine seq_postT (fun σ' H' => ∃ l, σ' = [some (.int cell), some (.ref l)] ∧ Same H H' ∧ OddL H' l 53) (fun N hN => ?_) ?_
 ·refine ⟨_, rfl, (by show 4 ≤ sizeLine; decide), fun r hr => ⟨_, _, _, _, rfl, rfl, Same.new hr _ _ _ ez, upd_same, ?_, fun q hq => hN _ _ ⟨q, rfl, g1.trans ((Same.new hr _).trans (Same.new hq _)), zs ++ ([Str.ofString "9 10: 19", Str.ofString "10 9: 19", Str.ofString "1: 9 10", Str.ofString "1: 10 9"] : List Str), ?_, ?_, ?_⟩⟩⟩
  ·show (zs.map V.str).length + 4 ≤ sizeLine
   rw [List.length_map, ln]
   decide
  ·rw [upd_same, List.map_append]
   rfl
  ·rw [List.length_append, ln]
   rfl
  ·intro z hz
   rcases List.mem_append.mp hz with y | y
   ·exact ok z y
   ·exact oks_of (zs := ([Str.ofString "9 10: 19", Str.ofString "10 9: 19", Str.ofString "1: 9 10", Str.ofString "1: 10 9"] : List Str)) (by decide +kernel) z y
 clear ez ln ok
 rintro σ1 H1 ⟨l1, rfl, g1, zs, ez, ln, ok⟩
 have m1 : (Txt.mul (Str.ofString "1") 90).length = 90 := by decide +kernel
 have m2 : (Txt.mul (Str.ofString "2") 60).length = 60 := by decide +kernel
 refine ⟨_, rfl, _, _, rfl, rfl, by refine ⟨by decide, fun _ _ => by decide, fun _ _ => by decide⟩, _, _, rfl, rfl, ?_, _, _, rfl, rfl, by refine ⟨by decide, fun _ _ => by decide, fun _ _ => by decide⟩, _, _, rfl, rfl, ?_, _, _, rfl, rfl, ?_, (by show 3 ≤ sizeLine; decide), fun r hr => ⟨_, _, _, _, rfl, rfl, Same.new hr _ _ _ ez, upd_same, ?_, fun q' hq => q q' _ (g1.trans ((Same.new hr _).trans (Same.new hq _))) ⟨zs ++ [Str.ofString "1 2: 3 5 4", Txt.mul (Str.ofString "1") 90 ++ Str.ofString ": 3", Str.ofString "1 " ++ Txt.mul (Str.ofString "2") 60 ++ Str.ofString ":"], ?_, ?_, ?_⟩⟩⟩
 ·rw [m1]; decide
 ·rw [m2]; decide
 ·rw [app_len, m2]; decide
 ·show (zs.map V.str).length + 3 ≤ sizeLine
  rw [List.length_map, ln]
  decide
 ·rw [upd_same, List.map_append]
  rfl
 ·rw [List.length_append, ln]
  rfl
 ·intro z hz
  rcases List.mem_append.mp hz with y | y
  ·exact ok z y
  ·simp only [List.mem_cons, List.not_mem_nil, or_false] at y
   rcases y with y | y | y <;> rw [y]
   ·decide
   ·rw [app_len, m1]; decide
   ·rw [app_len, app_len, m2]; decide
end
abbrev sGiv : Stmt := top 36
theorem ix_from_le {i : Int} (n : Nat) (h : 0 ≤ i) : (Builtin.Str.strSliceIndices (some i) none 1 n).length ≤ n - i.toNat := by
 unfold Builtin.Str.strSliceIndices PySem.sliceRange
 have e : ¬ i < 0 := by omega
 simp only [e, if_false, List.length_map, List.length_range]
 split
 ·split
  ·rw [Int.ediv_one]; omega
  ·exact Nat.zero_le _
 ·rename_i c
  exact absurd (by decide) c
theorem ix_to_le {j : Int} (n : Nat) (h : 0 ≤ j) : (Builtin.Str.strSliceIndices none (some j) 1 n).length ≤ j.toNat := by
 unfold Builtin.Str.strSliceIndices PySem.sliceRange
 have e : ¬ j < 0 := by omega
 simp only [e, if_false, List.length_map, List.length_range]
 split
 ·split
  ·rw [Int.ediv_one]; omega
  ·exact Nat.zero_le _
 ·rename_i c
  exact absurd (by decide) c
theorem slice_by_le {z : Str} {l u : Option Int} {k : Nat} (h : (Builtin.Str.strSliceIndices l u 1 z.length).length ≤ k) : (Txt.slice z l u).length ≤ k := by
 unfold Txt.slice
 split
 ·rename_i c
  have c2 : (Builtin.Str.strSliceIndices l u 1 z.length).length = z.length := by simpa using c
  omega
 ·show (List.filterMap _ _).toArray.size ≤ k
  rw [List.size_toArray]
  exact Nat.le_trans (List.length_filterMap_le _ _) h
def spGiv : Sp := fun vs H Q _ => ∃ cell : Int, vs = [.int cell] ∧ 0 ≤ cell ∧ ∀ (z : Str) (H' : Hp), Same H H' → z.length ≤ 570 → Q (.str z) H'
section
variable {f g1 g2 g3 g4 : Addr} {fd gd1 gd2 gd3 gd4 : FuncData}
theorem scGiv : FnScope ["cell", "kind", "some", "text", "signs", "at", "sign"] ["cell"] (defScope sGiv) := ⟨rfl, rfl, rfl, by decide +kernel, rfl, by decide +kernel, by decide +kernel⟩
set_option maxHeartbeats 0 in
theorem ok_giv (F : Fun K "_law_given" "_law_given" sGiv f fd) (B : Bt2 mg)
  (GO : FnOk P w K mg base CX0 4 g1 gd1 ["cell"] spOdd) (bO : Binds K gd1 ["cell"] []) (kO : Kee K g1) (mO : mg "_law_odd" = some (.ref g1))
  (GW : FnOk P w K mg base CX0 4 g2 gd2 ["plan"] spWn) (bW : Binds K gd2 ["plan"] []) (kW : Kee K g2) (mW : mg "_law_written" = some (.ref g2))
  (GM : FnOk P w K mg base CX0 4 g3 gd3 ["cell", "most"] spMp) (bM : Binds K gd3 ["cell", "most"] []) (kM : Kee K g3) (mM : mg "_law_plan" = some (.ref g3))
  (GX : FnOk P w K mg base CX0 4 g4 gd4 ["cell", "k"] spMix) (bX : Binds K gd4 ["cell", "k"] []) (kX : Kee K g4) (mX : mg "_law_mixed" = some (.ref g4)) : FnOk P w K mg base CX0 5 f fd ["cell"] spGiv := by
 refine F.ok scGiv (fun vs H Q E h => ?_) (fun cdv A outer s H vs Q E hr h => ?_)
 ·obtain ⟨cell, rfl, _⟩ := h
  rfl
 obtain ⟨cell, rfl, c0, q⟩ := h
 refine ⟨_, (@pss_cons _ _ _ _ _ (ps_set (i := 1) scGiv.nd rfl (Or.inl rfl) (pe_op op_mod (pv 0) pe_int)) (@pss_cons _ _ _ _ _ (ps_if (pt_cmpR op_eq (pv 1) pe_int (nomark _)) (@pss_cons _ _ _ _ _ (ps_set (i := 2) scGiv.nd rfl (Or.inl rfl) (pe_call GO hr rfl mO kO bO .nil pass0 (pa_cons (pv 0) pa_nil))) (@pss_one _ _ _ (ps_ret (pe_ix ix_list (pv 2) (pe_op op_mod (pe_op op_fdiv (pv 0) pe_int) (pe_callB call_len_seq rfl B.len PySem.boot_len (pa_cons (pv 2) pa_nil))) (fun _ _ => rfl))))) pss_nil) (@pss_cons _ _ _ _ _ (ps_set (i := 3) scGiv.nd rfl (Or.inl rfl) (pe_call GW hr rfl mW kW bW .nil pass0 (pa_cons (pe_call GM hr rfl mM kM bM .nil pass0 (pa_cons (pe_call GX hr rfl mX kX bX .nil pass0 (pa_cons (pv 0) (pa_cons pe_int pa_nil))) (pa_cons pe_int pa_nil))) pa_nil))) (@pss_cons _ _ _ _ _ (ps_set (i := 4) scGiv.nd rfl (Or.inl rfl) pe_str) (@pss_cons _ _ _ _ _ (ps_if (pt_cmpR op_gt (pe_op op_mod (pe_op op_fdiv (pv 0) pe_int) pe_int) pe_int (nomark _)) (@pss_one _ _ _ (ps_set (i := 4) scGiv.nd rfl (Or.inl rfl) pe_str)) pss_nil) (@pss_cons _ _ _ _ _ (ps_set (i := 5) scGiv.nd rfl (Or.inl rfl) (pe_op op_mod (pe_op op_fdiv (pv 0) pe_int) (pe_op op_add (pe_callB call_len_str rfl B.len PySem.boot_len (pa_cons (pv 3) pa_nil)) pe_int))) (@pss_cons _ _ _ _ _ (ps_set (i := 6) scGiv.nd rfl (Or.inl rfl) (pe_ix ix_str (pv 4) (pe_op op_mod (pe_op op_fdiv (pv 0) pe_int) (pe_callB call_len_str rfl B.len PySem.boot_len (pa_cons (pv 4) pa_nil))) (fun _ _ => rfl))) (@pss_cons _ _ _ _ _ (ps_if (pt_cmpR op_eq (pv 1) pe_int (nomark _)) (@pss_one _ _ _ (ps_ret (pe_op op_add_str (pe_slice sl_str (pv 3) po_none (po_some (pv 5))) (pe_slice sl_str (pv 3) (po_some (pe_op op_add (pv 5) pe_int)) po_none)))) pss_nil) (@pss_one _ _ _ (ps_ret (pe_op op_add_str (pe_op op_add_str (pe_slice sl_str (pv 3) po_none (po_some (pv 5))) (pv 6)) (pe_slice sl_str (pv 3) (po_some (pe_op op_add (pv 5) (pe_callTy call_int1 rfl B.int PyProof.Rows.boot_int (pa_cons (pe_cmpR op_eq (pv 1) pe_int (nomark _)) pa_nil)))) po_none)))))))))))), ?_⟩
 refine ⟨_, rfl, _, _, rfl, rfl, (by show (0 : Int) < 4; decide), ?_⟩
 refine ⟨_, rfl, rfl, _, rfl, ite2 (fun c => ?_) (fun c => ?_)⟩
 ·refine ⟨_, rfl, cell, rfl, fun l H1 g1 od => ?_⟩
  obtain ⟨zs, ez, ln, ok⟩ := od
  have zml : (zs.map V.str).length = zs.length := List.length_map _
  obtain ⟨v, hv, mv⟩ := pick_any (xs := zs.map V.str) (r := cell / 4 % ((zs.map V.str).length : Nat)) (Int.emod_nonneg _ (by rw [zml, ln]; decide)) (Int.emod_lt_of_pos _ (by rw [zml, ln]; decide))
  obtain ⟨z, hz, rfl⟩ := List.mem_map.mp mv
  exact ⟨_, rfl, _, rfl, _, _, rfl, rfl, ⟨by decide, by decide⟩, _, rfl, l, _, rfl, .inl (SqL.of ez), _, _, rfl, rfl, (by show (0 : Int) < ((zs.map V.str).length : Nat); rw [zml, ln]; decide), l, _, _, _, rfl, rfl, SqL.of ez, hv, q z _ g1 (ok z hz)⟩
 refine ⟨_, rfl, cell, 3, rfl, by decide, by decide, fun r H1 g1 r0 r1 => ?_⟩
 refine ⟨r, rfl, r0, fun t a b ns ss H2 g2 nt na nb ab pl sn sss => ?_⟩
 refine ⟨t, a, b, ns, ss, rfl, pl, sn, sss, fun H3 g3 => ?_⟩
 obtain ⟨_, _, tl⟩ := plan_len pl.ok sn sss
 have G := g1.trans (g2.trans g3)
 generalize planT ns ss = z at tl ⊢
 dsimp only [gName]
 refine seq_postT (fun σ' H' => ∃ sg : Str, σ' = [some (.int cell), some (.int (cell % 4)), none, some (.str z), some (.str sg), none, none] ∧ H' = H3 ∧ 0 < sg.length ∧ sg.length ≤ 200) (fun N hN => ?_) ?_
 ·exact hN _ _ ⟨_, rfl, rfl, by decide +kernel, by decide +kernel⟩
 rintro σ1 H4 ⟨sg, rfl, rfl, s0, s1⟩
 refine seq_postT (fun σ' H' => ∃ sg : Str, σ' = [some (.int cell), some (.int (cell % 4)), none, some (.str z), some (.str sg), none, none] ∧ H' = H4 ∧ 0 < sg.length ∧ sg.length ≤ 200) (fun N hN => ?_) ?_
 ·refine ⟨_, rfl, _, _, rfl, rfl, ⟨by decide, by decide⟩, _, _, rfl, rfl, (by show (0 : Int) < 3; decide), _, _, rfl, rfl, _, rfl, ite2 (fun _ => ?_) (fun _ => ?_)⟩
  ·exact hN _ _ ⟨_, rfl, rfl, by decide +kernel, by decide +kernel⟩
  ·exact hN _ _ ⟨sg, rfl, rfl, s0, s1⟩
 rintro σ1 H5 ⟨sg, rfl, rfl, s0, s1⟩
 refine ⟨_, rfl, _, _, rfl, rfl, ⟨by decide, by decide⟩, _, rfl, z, rfl, by rw [sizeLine_eq]; omega, _, _, rfl, rfl, _, _, rfl, rfl, by omega, ?_⟩
 have a0 : 0 ≤ cell / 12 % ((z.length : Nat) + 1 : Int) := Int.emod_nonneg _ (by omega)
 have a1 : cell / 12 % ((z.length : Nat) + 1 : Int) < ((z.length : Nat) + 1 : Int) := Int.emod_lt_of_pos _ (by omega)
 dsimp only [gName, List.set]
 generalize cell / 12 % ((z.length : Nat) + 1 : Int) = at_ at a0 a1 ⊢
 have b0 : 0 ≤ cell / 12000 % (sg.length : Nat) := Int.emod_nonneg _ (by omega)
 have b1 : cell / 12000 % (sg.length : Nat) < (sg.length : Nat) := Int.emod_lt_of_pos _ (by omega)
 have hj : (cell / 12000 % (sg.length : Nat)).toNat < sg.cps.toList.length := by
  rw [Array.length_toList]
  show _ < sg.length
  omega
 have ei : atI sg.cps.toList (cell / 12000 % (sg.length : Nat)) = some sg.cps.toList[(cell / 12000 % (sg.length : Nat)).toNat] := by
  have h : atI sg.cps.toList (((cell / 12000 % (sg.length : Nat)).toNat : Nat) : Int) = some sg.cps.toList[(cell / 12000 % (sg.length : Nat)).toNat] := atI_nat (List.getElem?_eq_getElem hj)
  rw [Int.toNat_of_nonneg b0] at h
  exact h
 refine ⟨_, rfl, _, rfl, _, _, rfl, rfl, ⟨by decide, by decide⟩, _, rfl, sg, rfl, by rw [sizeLine_eq]; omega, _, _, rfl, rfl, by omega, sg, _, _, rfl, rfl, by rw [sizeLine_eq]; omega, ei, ?_⟩
 generalize sg.cps.toList[(cell / 12000 % (sg.length : Nat)).toNat] = ch
 have pre : (Txt.slice z none (some at_)).length ≤ at_.toNat := slice_by_le (ix_to_le _ a0)
 have suf : ∀ k : Int, 0 ≤ k → (Txt.slice z (some (at_ + k)) none).length ≤ z.length - (at_ + k).toNat := fun k hk => slice_by_le (ix_from_le _ (by omega))
 have suf1 := suf 1 (by decide)
 refine ⟨_, rfl, rfl, _, rfl, ite2 (fun c1 => ?_) (fun c1 => ?_)⟩
 ·refine ⟨_, rfl, _, rfl, at_, rfl, z, rfl, by rw [sizeLine_eq]; omega, _, rfl, _, rfl, _, _, rfl, rfl, _, rfl, z, rfl, by rw [sizeLine_eq]; omega, _, _, rfl, rfl, by rw [sizeLine_eq]; omega, q _ _ G ?_⟩
  rw [app_len]
  omega
 ·have one : (⟨#[ch]⟩ : Str).length = 1 := rfl
  have ap : (Txt.slice z none (some at_) ++ (⟨#[ch]⟩ : Str)).length = (Txt.slice z none (some at_)).length + 1 := app_len _ _
  have sufk := suf (if decide (V.int (cell % 4) = V.int 2) = true then 1 else 0 : Int) (by split <;> decide)
  refine ⟨_, rfl, _, rfl, at_, rfl, z, rfl, by rw [sizeLine_eq]; omega, _, rfl, _, _, rfl, rfl, by rw [one, sizeLine_eq]; omega, _, rfl, _, rfl, _, rfl, rfl, .inr ⟨_, rfl, _, _, rfl, rfl, _, rfl, z, rfl, by rw [sizeLine_eq]; omega, _, _, rfl, rfl, ?_, q _ _ G ?_⟩⟩
  ·rw [ap, sizeLine_eq]
   omega
  ·rw [app_len, ap]
   omega
end
abbrev sBad : Stmt := top 38
def NP (M : Hp) (v : V) : Prop := ∃ d, Dat M v d ∧ Fine 2000 4 d ∧ planD d = false
theorem NP.same {M M' : Hp} {v : V} (h : NP M v) (g : Same M M') : NP M' v := let ⟨d, a, b, c⟩ := h; ⟨d, a.same g, b, c⟩
def NR (M : Hp) (few : Nat) (x : V) : Prop := ∀ (a : Addr) (ns : List Int), x = .ref a → M a = some (.lst (ns.map V.int)) → Rise ns → few ≤ ns.length → ns.length ≤ 10 → False
theorem np_of {M : Hp} {v : V} (th : Th M v 2000 4) (h : ∀ (t a b : Addr) (ns ss : List Int), v = .ref t → IsPl M t a b ns ss → False) : NP M v := by
 obtain ⟨d, hd, f⟩ := th
 refine ⟨d, hd, f, ?_⟩
 cases c : planD d with
 | false => rfl
 | true =>
  obtain ⟨t, a, b, ns, ss, e, pl, _⟩ := plan_back hd c
  exact (h t a b ns ss e pl).elim
theorem np_flat {M : Hp} {v : V} (th : Th M v 2000 4) (h : ∀ t, v ≠ .ref t) : NP M v := np_of th fun t _ _ _ _ e _ => h t e
theorem nr_lst {M : Hp} {few : Nat} {a : Addr} {xs : List V} (ha : M a = some (.lst xs)) (h : ∀ ns : List Int, xs = ns.map V.int → Rise ns → few ≤ ns.length → ns.length ≤ 10 → False) : NR M few (.ref a) := fun b ns e hb r f l => by
 cases e
 rw [ha] at hb
 cases hb
 exact h ns rfl r f l
theorem nr_tup {M : Hp} {few : Nat} {a : Addr} {xs : List V} (ha : M a = some (.tup xs)) : NR M few (.ref a) := fun b ns e hb r f l => by
 cases e
 rw [ha] at hb
 cases hb
theorem nr_non {M : Hp} {few : Nat} : NR M few .non := fun b ns e => nomatch e
theorem no_neg {xs : List V} {x : V} (hx : x ∈ xs) (h : ∀ n : Int, x = .int n → n < 0) (ns : List Int) (e : xs = ns.map V.int) (r : Rise ns) : False := by
 rw [e] at hx
 obtain ⟨n, hn, e⟩ := List.mem_map.mp hx
 have := r.bd n hn
 have := h n e.symm
 omega
theorem no_last2 {cs : List V} {u w : Int} (ns : List Int) (e : cs ++ [.int u, .int w] = ns.map V.int) (r : Rise ns) : u < w := by
 obtain ⟨l1, l2, rfl, _, h2⟩ := List.map_eq_append_iff.mp e.symm
 have up := (List.pairwise_append.mp r.up).2.1
 match l2, h2 with
 | [a, b], h2 =>
  simp only [List.map_cons, List.map_nil, List.cons.injEq, V.int.injEq, and_true] at h2
  have := (List.pairwise_cons.mp up).1 b List.mem_cons_self
  omega
theorem no_last {cs : List V} {w x : Int} (hx : .int x ∈ cs) (ns : List Int) (e : cs ++ [.int w] = ns.map V.int) (r : Rise ns) : x < w := by
 obtain ⟨l1, l2, rfl, h1, h2⟩ := List.map_eq_append_iff.mp e.symm
 match l2, h2 with
 | [b], h2 =>
  simp only [List.map_cons, List.map_nil, List.cons.injEq, V.int.injEq, and_true] at h2
  rw [← h1] at hx
  obtain ⟨z, hz, ez⟩ := List.mem_map.mp hx
  cases ez
  have := (List.pairwise_append.mp r.up).2.2 x hz b List.mem_cons_self
  omega
def S1 (d : Addr) : Addr → Prop := fun b => b = d
structure Lv (d : Addr) (H0 H : Hp) (bs : List (Addr × HO)) : Prop where
 D : ∃ o, H0 d = some o
 S : Same H0 H
 L : ∀ x ∈ bs, msk (S1 d) H x.1 = some x.2
section
variable {d : Addr} {H0 H : Hp} {bs : List (Addr × HO)}
theorem Lv.start (D : ∃ o, H d = some o) : Lv d H H [] := ⟨D, Same.rfl', fun _ h => nomatch h⟩
theorem Lv.new (h : Lv d H0 H bs) {q : Addr} (hq : H q = none) (o : HO) : Lv d H0 (upd H q o) ((q, o) :: bs) := by
 refine ⟨h.D, h.S.trans (Same.new hq o), fun x hx => ?_⟩
 obtain ⟨u, hu⟩ := h.D
 have ne : ¬ S1 d q := fun z => by
  have z : q = d := z
  have := h.S _ _ hu
  rw [← z, hq] at this
  cases this
 rcases List.mem_cons.mp hx with e | e
 ·rw [e]
  show msk (S1 d) (upd H q o) q = some o
  rw [msk_in ne]
  exact upd_same
 ·exact msk_same (Same.new hq o) _ _ (h.L x e)
theorem Lv.m (h : Lv d H0 H bs) {q : Addr} {o : HO} (e : (q, o) ∈ bs) : msk (S1 d) H q = some o := h.L _ e
theorem Lv.at (h : Lv d H0 H bs) {q : Addr} {o : HO} (e : (q, o) ∈ bs) : H q = some o := msk_le _ _ (h.L _ e)
theorem Lv.old (h : Lv d H0 H bs) {q : Addr} {o : HO} (e : H0 q = some o) : H q = some o := h.S _ _ e
theorem Lv.om (h : Lv d H0 H bs) {q : Addr} {o : HO} (e : msk (S1 d) H0 q = some o) : msk (S1 d) H q = some o := msk_same h.S _ _ e
end
theorem msk_ne {d q : Addr} {H : Hp} {o : HO} (ne : q ≠ d) (h : H q = some o) : msk (S1 d) H q = some o := by rw [msk_in (S := S1 d) ne]; exact h
theorem np_pairW {M : Hp} {q : Addr} {x y : V} (hq : M q = some (.tup [x, y])) (tx : Th M x 900 2) (ty : Th M y 900 2) (h : NR M 1 x ∨ NR M 0 y) : NP M (.ref q) := by
 refine np_of ((Th.tup (n := 900) (k := 2) hq fun z hz => ?_).mono (by show 2 * 901 ≤ 2000; decide) (by decide)) fun t a b ns ss e pl => ?_
 ·simp only [List.mem_cons, List.not_mem_nil, or_false] at hz
  rcases hz with e | e <;> rw [e]
  ·exact tx
  ·exact ty
 ·cases e
  have e := pl.t
  rw [hq] at e
  cases e
  rcases h with h | h
  ·exact h a ns rfl pl.a pl.ok.n pl.ok.n1 pl.ok.n2
  ·exact h b ss rfl pl.b pl.ok.s (Nat.zero_le _) pl.ok.s2
theorem np_tup {M : Hp} {q : Addr} {xs : List V} (hq : M q = some (.tup xs)) (tx : ∀ x ∈ xs, Th M x 100 2) (l : xs.length ≤ 5) (h : xs.length ≠ 2) : NP M (.ref q) := by
 refine np_of ((Th.tup (n := 100) (k := 2) hq tx).mono (by omega) (by decide)) fun t a b ns ss e pl => ?_
 cases e
 have e := pl.t
 rw [hq] at e
 cases e
 exact h rfl
theorem np_lst {M : Hp} {q : Addr} {xs : List V} (hq : M q = some (.lst xs)) (tx : ∀ x ∈ xs, Th M x 100 2) (l : xs.length ≤ 15) : NP M (.ref q) := by
 refine np_of ((Th.lst (n := 100) (k := 2) hq tx).mono (by omega) (by decide)) fun t a b ns ss e pl => ?_
 cases e
 have e := pl.t
 rw [hq] at e
 cases e
theorem th_w {M : Hp} {a : Addr} {xs : List V} (h : M a = some (.lst xs)) (l : xs.length ≤ 25) (b : ∀ x ∈ xs, Th M x 30 1) : Th M (.ref a) 900 2 := (Th.lst (n := 30) (k := 1) h b).mono (by omega) (by decide)
theorem th_wt {M : Hp} {a : Addr} {xs : List V} (h : M a = some (.tup xs)) (l : xs.length ≤ 25) (b : ∀ x ∈ xs, Th M x 30 1) : Th M (.ref a) 900 2 := (Th.tup (n := 30) (k := 1) h b).mono (by omega) (by decide)
theorem th_ints {M : Hp} {a : Addr} {zs : List Int} (h : M a = some (.lst (zs.map V.int))) (l : zs.length ≤ 15) (s : Sml zs) : Th M (.ref a) 100 2 := (Th.lst (n := 3) (k := 1) h fun x hx => by
 obtain ⟨z, hz, rfl⟩ := List.mem_map.mp hx
 exact Th.int (s.abs z hz)).mono (by rw [List.length_map]; omega) (by decide)
theorem th_intsW {M : Hp} {a : Addr} {zs : List Int} (h : M a = some (.lst (zs.map V.int))) (l : zs.length ≤ 15) (s : Sml zs) : Th M (.ref a) 900 2 := (th_ints h l s).mono (by decide) (by decide)
theorem th_range {M : Hp} {a : Addr} (h : M a = some (.lst ((List.range ((11 : Int) - 0).toNat).map fun k : Nat => V.int (0 + (k : Int))))) : Th M (.ref a) 900 2 := th_w h (by decide) fun x hx => by
 obtain ⟨k, hk, rfl⟩ := List.mem_map.mp hx
 have : k < 11 := List.mem_range.mp hk
 exact Th.int (by omega)
theorem cut_end {zs : List Int} (h : 1 ≤ zs.length) : ∃ x, cutV (zs.map V.int) (some (-1)) none = [.int x] ∧ x ∈ zs := by
 have h' : zs ≠ [] := fun z => by rw [z] at h; exact absurd h (by decide)
 refine ⟨zs.getLast h', ?_, List.getLast_mem h'⟩
 have e : zs = zs.dropLast ++ [zs.getLast h'] := (List.dropLast_concat_getLast h').symm
 have e2 : zs.map V.int = zs.dropLast.map V.int ++ [.int (zs.getLast h')] := by
  conv => lhs; rw [e]
  rw [List.map_append]
  rfl
 have l1 : HT.sIx (zs.map V.int).length 0 (some (-1)) = (zs.dropLast.map V.int).length := by
  unfold HT.sIx
  rw [List.length_map, List.length_map, List.length_dropLast]
  simp only [show ((-1 : Int) < 0) = True from by simp, if_true]
  omega
 unfold cutV
 rw [l1, e2, List.drop_left, HT.sIx_none, List.length_append]
 exact List.take_of_length_le (by show 1 ≤ _; simp)
def BagS (H0 H : Hp) (l : Addr) (n : Nat) : Prop := Same H0 H ∧ H0 l = none ∧ ∃ xs, H l = some (.lst xs) ∧ 1 ≤ xs.length ∧ xs.length ≤ n ∧ ∀ x ∈ xs, NP (msk (S1 l) H) x
theorem msk_new {H : Hp} {q : Addr} {o : HO} (hq : H q = none) : Same H (msk (S1 q) (upd H q o)) := fun b u hb => by
 have ne : b ≠ q := ne_of_none hb hq
 rw [msk_in (S := S1 q) ne, upd_ne ne]
 exact hb
theorem bag_new {H0 H : Hp} {d q : Addr} {xs : List V} {n : Nat} (g : Same H0 H) (hq : H q = none) (h : ∀ x ∈ xs, NP (msk (S1 d) H) x) (l1 : 1 ≤ xs.length) (ln : xs.length ≤ n) : BagS H0 (upd H q (.lst xs)) q n :=
 ⟨g.trans (Same.new hq _), none_of_same g hq, xs, upd_same, l1, ln, fun x hx => ((h x hx).same msk_le).same (msk_new hq)⟩
theorem msk_put {H : Hp} {l : Addr} {o : HO} : Same (msk (S1 l) H) (msk (S1 l) (upd H l o)) := fun b u hb => by
 obtain ⟨ne, e⟩ := msk_some hb
 have ne' : b ≠ l := ne
 rw [msk_in ne, upd_ne ne']
 exact e
theorem bag_app {H0 H H2 : Hp} {l : Addr} {n : Nat} {bs : List (Addr × HO)} {xs : List V} {x : V} (h : BagS H0 H l n) (hx : H l = some (.lst xs)) (L : Lv l H H2 bs) (np : NP (msk (S1 l) H2) x) : BagS H0 (upd H2 l (.lst (xs ++ [x]))) l (n + 1) := by
 obtain ⟨g, hl, ys, hy, l1, ln, ok⟩ := h
 rw [hx] at hy
 cases hy
 refine ⟨fun b o hb => ?_, hl, xs ++ [x], upd_same, by rw [List.length_append]; omega, by rw [List.length_append, List.length_singleton]; omega, fun y hy => ?_⟩
 ·rw [upd_ne (ne_of_none hb hl)]
  exact L.S _ _ (g _ _ hb)
 ·rcases List.mem_append.mp hy with z | z
  ·exact ((ok y z).same (msk_same L.S)).same msk_put
  ·rw [List.mem_singleton.mp z]
   exact np.same msk_put
theorem bag_cat {H0 H H2 : Hp} {l q : Addr} {n m : Nat} {bs : List (Addr × HO)} {xs ys : List V} (h : BagS H0 H l n) (hx : H l = some (.lst xs)) (L : Lv l H H2 bs) (hq : H2 q = none) (np : ∀ y ∈ ys, NP (msk (S1 l) H2) y) (lm : n + ys.length ≤ m) : BagS H0 (upd H2 q (.lst (xs ++ ys))) q m := by
 obtain ⟨g, hl, zs, hz, l1, ln, ok⟩ := h
 rw [hx] at hz
 cases hz
 refine bag_new (d := l) (g.trans L.S) hq (fun y hy => ?_) (by rw [List.length_append]; omega) (by rw [List.length_append]; omega)
 rcases List.mem_append.mp hy with z | z
 ·exact (ok y z).same (msk_same L.S)
 ·exact np y z
theorem bag_same {H0 H H2 : Hp} {l : Addr} {n m : Nat} (h : BagS H0 H l n) (g : Same H H2) (lm : n ≤ m) : BagS H0 H2 l m := by
 obtain ⟨g0, hl, xs, hx, l1, ln, ok⟩ := h
 exact ⟨g0.trans g, hl, xs, g _ _ hx, l1, Nat.le_trans ln lm, fun x hx => (ok x hx).same (msk_same g)⟩
theorem last_inS {R : List Int} (h : 1 ≤ R.length) : ∃ x, atI (R.map V.int) (-1) = some (.int x) ∧ x ∈ R := by
 have h' : R ≠ [] := fun z => by rw [z] at h; exact absurd h (by decide)
 refine ⟨R.getLast h', ?_, List.getLast_mem h'⟩
 have e : R = R.dropLast ++ [R.getLast h'] := (List.dropLast_concat_getLast h').symm
 have e2 : R.map V.int = R.dropLast.map V.int ++ [.int (R.getLast h')] := by
  conv => lhs; rw [e]
  rw [List.map_append]
  rfl
 rw [e2]
 exact atI_last _ _
theorem eleven (ns : List Int) (e : ((List.range ((11 : Int) - 0).toNat).map fun k : Nat => V.int (0 + (k : Int))) = ns.map V.int) (l : ns.length ≤ 10) : False := by
 have := congrArg List.length e
 rw [List.length_map, List.length_map, List.length_range] at this
 have : ns.length = 11 := this.symm
 omega
theorem swap_cut {zs : List Int} {r y y2 : Int} {c1 c2 : List V} (up : zs.Pairwise (· < ·)) (r0 : 0 ≤ r) (r1 : r < (zs.length : Int) - 1) (hy : atI (zs.map V.int) (r + 1) = some (.int y)) (hy2 : atI (zs.map V.int) r = some (.int y2)) (ns : List Int) (e : (c1 ++ [.int y, .int y2]) ++ c2 = ns.map V.int) (rs : Rise ns) : False := by
 have e1 : r + 1 = ((r.toNat + 1 : Nat) : Int) := by omega
 have e2 : r = ((r.toNat : Nat) : Int) := by omega
 have h1 : r.toNat + 1 < zs.length := by omega
 have h2 : r.toNat < zs.length := by omega
 rw [e1, atI_nat (by rw [List.getElem?_map, List.getElem?_eq_getElem h1]; rfl)] at hy
 rw [e2, atI_nat (by rw [List.getElem?_map, List.getElem?_eq_getElem h2]; rfl)] at hy2
 have hy := V.int.inj (Option.some.inj hy)
 have hy2 := V.int.inj (Option.some.inj hy2)
 have lt : zs[r.toNat] < zs[r.toNat + 1] := List.pairwise_iff_getElem.mp up _ _ h2 h1 (by omega)
 obtain ⟨l1, l2, rfl, e3, _⟩ := List.map_eq_append_iff.mp e.symm
 have rs1 : Rise l1 := ⟨(List.pairwise_append.mp rs.up).1, fun x hx => rs.bd x (List.mem_append_left _ hx)⟩
 have := no_last2 l1 e3.symm rs1
 omega
theorem int_at {zs : List Int} {r : Int} (r0 : 0 ≤ r) (r1 : r < (zs.length : Nat)) : ∃ y, atI (zs.map V.int) r = some (.int y) ∧ y ∈ zs := by
 obtain ⟨v, hv, mv⟩ := pick_any (xs := zs.map V.int) r0 (by rw [List.length_map]; exact r1)
 obtain ⟨y, hy, rfl⟩ := List.mem_map.mp mv
 exact ⟨y, hv, hy⟩
theorem cut_mem {xs : List V} {lo hi : Option Int} {x : V} (h : x ∈ cutV xs lo hi) : x ∈ xs := List.mem_of_mem_drop (List.mem_of_mem_take h)
def spBad : Sp := fun vs H Q _ => ∃ (t a b : Addr) (ns ss : List Int) (cell : Int), vs = [.ref t, .int cell] ∧ IsPl H t a b ns ss ∧ Sml ns ∧ Sml ss ∧ 0 ≤ cell ∧ ∀ (v : V) (H' : Hp), Same H H' → NP H' v → Q v H'
section
variable {f : Addr} {fd : FuncData}
theorem scBad : FnScope ["plan", "cell", "numbers", "sums", "some", "at", "thing", "spot", "pair", "great"] ["plan", "cell"] (defScope sBad) := ⟨rfl, rfl, rfl, by decide +kernel, rfl, by decide +kernel, by decide +kernel⟩
set_option maxHeartbeats 0 in
theorem ok_bad (F : Fun K "_law_bad" "_law_bad" sBad f fd) (B : Bt2 mg) : FnOk P w K mg base CX0 1 f fd ["plan", "cell"] spBad := by
 refine F.ok scBad (fun vs H Q E h => ?_) (fun cdv A outer s H vs Q E hr h => ?_)
 ·obtain ⟨t, a, b, ns, ss, cell, rfl, _⟩ := h
  rfl
 obtain ⟨t, a, b, ns, ss, cell, rfl, pl, sn, sss, c0, q⟩ := h
 refine ⟨_, (QSs.h (qss_cons (QS.mk (ps_asg (pv 0) (pg_tup rfl (pgs_cons (pg_name (i := 2) scBad.nd rfl (Or.inl rfl)) (pgs_cons (pg_name (i := 3) scBad.nd rfl (Or.inl rfl)) pgs_nil))))) (qss_cons (qs_set (i := 4) scBad.nd rfl (Or.inl rfl) (qe_lst (qa_cons (QE.mk pe_non) (qa_cons (QE.mk (pv 2)) (qa_cons (qe_tup (qa_cons (QE.mk (pv 2)) qa_nil)) (qa_cons (qe_lst (qa_cons (QE.mk (pv 2)) (qa_cons (QE.mk (pv 3)) qa_nil))) (qa_cons (qe_tup (qa_cons (QE.mk (pv 2)) (qa_cons (QE.mk (pv 3)) (qa_cons (qe_lst qa_nil) qa_nil)))) qa_nil))))))) (qss_cons (qs_set (i := 4) scBad.nd rfl (Or.inl rfl) (qe_op op_cat (QE.mk (pv 4)) (qe_lst (qa_cons (qe_tup (qa_cons (qe_lst qa_nil) (qa_cons (QE.mk (pv 3)) qa_nil))) (qa_cons (qe_tup (qa_cons (QE.mk (pv 2)) (qa_cons (QE.mk pe_non) qa_nil))) (qa_cons (qe_tup (qa_cons (QE.mk (pe_callTy call_tuple_of rfl B.tuple PyProof.Rows.boot_tuple (QA.h (qa_cons (QE.mk (pv 2)) qa_nil)))) (qa_cons (QE.mk (pv 3)) qa_nil))) qa_nil)))))) (qss_cons (qs_set (i := 4) scBad.nd rfl (Or.inl rfl) (qe_op op_cat (QE.mk (pv 4)) (qe_lst (qa_cons (qe_tup (qa_cons (QE.mk (pv 2)) (qa_cons (QE.mk (pe_callTy call_tuple_of rfl B.tuple PyProof.Rows.boot_tuple (QA.h (qa_cons (QE.mk (pv 3)) qa_nil)))) qa_nil))) (qa_cons (qe_tup (qa_cons (QE.mk pe_non) (qa_cons (QE.mk (pv 3)) qa_nil))) qa_nil))))) (qss_cons (QS.mk (ps_expr (pe_bm PySem.F.plainAttrs_list PySem.F.slot_list_append PySem.F.type_list_append mt_append (pv 4) (QA.h (qa_cons (qe_tup (qa_cons (qe_op op_cat (QE.mk (pv 2)) (QE.mk (pe_slice sl_list (pv 2) (po_some (pe_un un_neg pe_int)) po_none))) (qa_cons (QE.mk (pv 3)) qa_nil))) qa_nil))))) (qss_cons (qs_set (i := 4) scBad.nd rfl (Or.inl rfl) (qe_op op_cat (QE.mk (pv 4)) (qe_lst (qa_cons (qe_tup (qa_cons (QE.mk (pv 2)) (qa_cons (qe_op op_cat (qe_op op_cat (QE.mk (pv 3)) (QE.mk (pe_slice sl_list (pv 3) (po_some (pe_un un_neg pe_int)) po_none))) (qe_lst (qa_cons (QE.mk (pe_un un_neg pe_int)) qa_nil))) qa_nil))) (qa_cons (qe_tup (qa_cons (QE.mk (pe_list_range1 rfl rfl B.range rfl B.list (QA.h (qa_cons (QE.mk pe_int) qa_nil)))) (qa_cons (QE.mk (pv 3)) qa_nil))) qa_nil))))) (qss_cons (QS.mk (ps_expr (pe_bm PySem.F.plainAttrs_list PySem.F.slot_list_append PySem.F.type_list_append mt_append (pv 4) (QA.h (qa_cons (qe_tup (qa_cons (QE.mk (pv 2)) (qa_cons (QE.mk (pe_list_range1 rfl rfl B.range rfl B.list (QA.h (qa_cons (QE.mk pe_int) qa_nil)))) qa_nil))) qa_nil))))) (qss_cons (qs_set (i := 5) scBad.nd rfl (Or.inl rfl) (qe_op op_mod (qe_op op_fdiv (QE.mk (pv 1)) (QE.mk pe_int)) (QE.mk (pe_callB call_len_seq rfl B.len PySem.boot_len (QA.h (qa_cons (QE.mk (pv 2)) qa_nil)))))) (qss_cons (qs_for PassesOwn.never rfl (qi_list (qe_lst (qa_cons (QE.mk (pe_un un_neg pe_int)) (qa_cons (QE.mk pe_bl) (qa_cons (QE.mk pe_non) (qa_cons (QE.mk (pe_callTy call_strI rfl B.str boot_str (QA.h (qa_cons (QE.mk (pe_ix ix_list (pv 2) (pv 5) (fun _ _ => rfl))) qa_nil)))) (qa_cons (qe_lst (qa_cons (QE.mk (pe_ix ix_list (pv 2) (pv 5) (fun _ _ => rfl))) qa_nil)) (qa_cons (QE.mk (pe_un un_neg (pe_op op_pow pe_int pe_int))) qa_nil)))))))) (pg_name (i := 6) scBad.nd rfl (Or.inl rfl)) (@pss_cons _ _ _ _ _ (ps_expr (pe_bm PySem.F.plainAttrs_list PySem.F.slot_list_append PySem.F.type_list_append mt_append (pv 4) (QA.h (qa_cons (qe_tup (qa_cons (qe_op op_cat (qe_op op_cat (QE.mk (pe_slice sl_list (pv 2) po_none (po_some (pv 5)))) (qe_lst (qa_cons (QE.mk (pv 6)) qa_nil))) (QE.mk (pe_slice sl_list (pv 2) (po_some (pe_op op_add (pv 5) pe_int)) po_none))) (qa_cons (QE.mk (pv 3)) qa_nil))) qa_nil)))) (@pss_cons _ _ _ _ _ (ps_set (i := 7) scBad.nd rfl (Or.inl rfl) (QE.h (qe_op op_mod (qe_op op_fdiv (QE.mk (pv 1)) (QE.mk pe_int)) (qe_op op_add (QE.mk (pe_callB call_len_seq rfl B.len PySem.boot_len (QA.h (qa_cons (QE.mk (pv 3)) qa_nil)))) (QE.mk pe_int))))) (@pss_one _ _ _ (ps_expr (pe_bm PySem.F.plainAttrs_list PySem.F.slot_list_append PySem.F.type_list_append mt_append (pv 4) (QA.h (qa_cons (qe_tup (qa_cons (QE.mk (pv 2)) (qa_cons (qe_op op_cat (qe_op op_cat (QE.mk (pe_slice sl_list (pv 3) po_none (po_some (pv 7)))) (qe_lst (qa_cons (QE.mk (pv 6)) qa_nil))) (QE.mk (pe_slice sl_list (pv 3) (po_some (pe_op op_add (pv 7) pe_int)) po_none))) qa_nil))) qa_nil)))))))) (qss_cons (QS.mk (ps_if (pt_cmpR op_gt (pe_callB call_len_seq rfl B.len PySem.boot_len (QA.h (qa_cons (QE.mk (pv 2)) qa_nil))) pe_int (nomark _)) (@pss_cons _ _ _ _ _ (ps_set (i := 5) scBad.nd rfl (Or.inl rfl) (QE.h (qe_op op_mod (qe_op op_fdiv (QE.mk (pv 1)) (QE.mk pe_int)) (qe_op op_sub (QE.mk (pe_callB call_len_seq rfl B.len PySem.boot_len (QA.h (qa_cons (QE.mk (pv 2)) qa_nil)))) (QE.mk pe_int))))) (@pss_cons _ _ _ _ _ (ps_set (i := 8) scBad.nd rfl (Or.inl rfl) (QE.h (qe_lst (qa_cons (QE.mk (pe_ix ix_list (pv 2) (pe_op op_add (pv 5) pe_int) (fun _ _ => rfl))) (qa_cons (QE.mk (pe_ix ix_list (pv 2) (pv 5) (fun _ _ => rfl))) qa_nil))))) (@pss_one _ _ _ (ps_expr (pe_bm PySem.F.plainAttrs_list PySem.F.slot_list_append PySem.F.type_list_append mt_append (pv 4) (QA.h (qa_cons (qe_tup (qa_cons (qe_op op_cat (qe_op op_cat (QE.mk (pe_slice sl_list (pv 2) po_none (po_some (pv 5)))) (QE.mk (pv 8))) (QE.mk (pe_slice sl_list (pv 2) (po_some (pe_op op_add (pv 5) pe_int)) po_none))) (qa_cons (QE.mk (pv 3)) qa_nil))) qa_nil))))))) pss_nil)) (qss_cons (QS.mk (ps_set (i := 9) scBad.nd rfl (Or.inl rfl) (pe_ix ix_list (pe_op op_cat (pe_lst (QA.h (qa_cons (QE.mk pe_int) qa_nil))) (pv 3)) (pe_un un_neg pe_int) (fun _ _ => rfl)))) (qss_cons (QS.mk (ps_expr (pe_bm PySem.F.plainAttrs_list PySem.F.slot_list_append PySem.F.type_list_append mt_append (pv 4) (QA.h (qa_cons (qe_tup (qa_cons (QE.mk (pv 2)) (qa_cons (qe_lst (qa_cons (qe_op op_add (QE.mk (pv 9)) (QE.mk pe_int)) (qa_cons (qe_op op_add (QE.mk (pv 9)) (QE.mk pe_int)) qa_nil))) qa_nil))) qa_nil))))) (qss_cons (QS.mk (ps_expr (pe_bm PySem.F.plainAttrs_list PySem.F.slot_list_append PySem.F.type_list_append mt_append (pv 4) (QA.h (qa_cons (qe_tup (qa_cons (QE.mk (pv 2)) (qa_cons (qe_op op_cat (QE.mk (pe_slice sl_list (pv 3) po_none (po_some pe_int))) (qe_lst (qa_cons (qe_op op_add (QE.mk (pv 9)) (QE.mk pe_int)) (qa_cons (qe_op op_add (QE.mk (pv 9)) (QE.mk pe_int)) qa_nil)))) qa_nil))) qa_nil))))) (qss_one (QS.mk (ps_ret (pe_ix ix_list (pv 4) (pe_op op_mod (pv 1) (pe_callB call_len_seq rfl B.len PySem.boot_len (QA.h (qa_cons (QE.mk (pv 4)) qa_nil)))) (fun _ _ => rfl))))))))))))))))))), ?_⟩
 have ok := pl.ok
 have n1 := ok.n1
 have n2 := ok.n2
 have s2 := ok.s2
 have nml : (ns.map V.int).length = ns.length := List.length_map _
 have sml : (ss.map V.int).length = ss.length := List.length_map _
 have ta : a ≠ t := ne_of pl.a pl.t (fun z => nomatch z)
 have tb : b ≠ t := ne_of pl.b pl.t (fun z => nomatch z)
 refine ⟨_, rfl, t, _, rfl, SqT.of pl.t, rfl, _, _, rfl, _, _, rfl, rfl, ?_⟩
 dsimp only [gName]
 refine seq_postT (fun σ' H' => ∃ l, σ' = [some (.ref t), some (.int cell), some (.ref a), some (.ref b), some (.ref l), none, none, none, none, none] ∧ BagS H H' l 5) (fun N hN => ?_) ?_
 ·have L0 : Lv t H H [] := Lv.start ⟨_, pl.t⟩
  have ma0 := msk_ne ta pl.a
  have mb0 := msk_ne tb pl.b
  refine ⟨_, rfl, _, rfl, (by show 1 ≤ sizeLine; decide), ?_⟩
  intro q1 hq1
  have L1 := L0.new hq1 (.tup [.ref a])
  generalize upd H q1 (.tup [.ref a]) = H1 at L1 ⊢
  refine ⟨_, rfl, _, rfl, two_le, ?_⟩
  intro q2 hq2
  have L2 := L1.new hq2 (.lst [.ref a, .ref b])
  generalize upd H1 q2 (.lst [.ref a, .ref b]) = H2 at L2 ⊢
  refine ⟨_, rfl, _, rfl, (by show 0 ≤ sizeLine; decide), ?_⟩
  intro q3 hq3
  have L3 := L2.new hq3 (.lst [])
  generalize upd H2 q3 (.lst []) = H3 at L3 ⊢
  refine ⟨(by show 3 ≤ sizeLine; decide), ?_⟩
  intro q4 hq4
  have L4 := L3.new hq4 (.tup [.ref a, .ref b, .ref q3])
  generalize upd H3 q4 (.tup [.ref a, .ref b, .ref q3]) = H4 at L4 ⊢
  refine ⟨(by show 5 ≤ sizeLine; decide), fun l hl => hN _ _ ⟨l, rfl, bag_new (d := t) L4.S hl (fun x hx => ?_) (by show 1 ≤ 5; decide) (Nat.le_refl _)⟩⟩
  have tha : Th (msk (S1 t) H4) (.ref a) 100 2 := th_ints (L4.om ma0) (by omega) sn
  have thb : Th (msk (S1 t) H4) (.ref b) 100 2 := th_ints (L4.om mb0) (by omega) sss
  have the : Th (msk (S1 t) H4) (.ref q3) 100 2 := (Th.lst (n := 3) (k := 1) (xs := []) (L4.m (q := q3) (by repeat (first | exact List.mem_cons_self | apply List.mem_cons_of_mem))) (fun _ h => nomatch h)).mono (by decide) (by decide)
  simp only [List.mem_cons, List.not_mem_nil, or_false] at hx
  rcases hx with e | e | e | e | e <;> rw [e]
  ·exact np_flat Th.non (fun _ z => nomatch z)
  ·exact np_lst (L4.om ma0) (fun x hx => by obtain ⟨z, hz, rfl⟩ := List.mem_map.mp hx; exact Th.int (sn.abs z hz)) (by omega)
  ·exact np_tup (L4.m (q := q1) (by repeat (first | exact List.mem_cons_self | apply List.mem_cons_of_mem))) (fun x hx => by rw [List.mem_singleton.mp hx]; exact tha) (by show 1 ≤ 5; decide) (by show ¬ 1 = 2; decide)
  ·exact np_lst (L4.m (q := q2) (by repeat (first | exact List.mem_cons_self | apply List.mem_cons_of_mem))) (fun x hx => by
    simp only [List.mem_cons, List.not_mem_nil, or_false] at hx
    rcases hx with e | e <;> rw [e]
    ·exact tha
    ·exact thb) (by show 2 ≤ 15; decide)
  ·exact np_tup (L4.m (q := q4) (by repeat (first | exact List.mem_cons_self | apply List.mem_cons_of_mem))) (fun x hx => by
    simp only [List.mem_cons, List.not_mem_nil, or_false] at hx
    rcases hx with e | e | e <;> rw [e]
    ·exact tha
    ·exact thb
    ·exact the) (by show 3 ≤ 5; decide) (by show ¬ 3 = 2; decide)
 rintro σ1 H1 ⟨l, rfl, bg⟩
 refine seq_postT (fun σ' H' => ∃ l, σ' = [some (.ref t), some (.int cell), some (.ref a), some (.ref b), some (.ref l), none, none, none, none, none] ∧ BagS H H' l 8) (fun N hN => ?_) ?_
 ·skip
  obtain ⟨gB, nlB, xs, hx, l1, ln, okx⟩ := id bg
  have al : a ≠ l := ne_of_none pl.a nlB
  have bl : b ≠ l := ne_of_none pl.b nlB
  have ma := msk_ne al (gB _ _ pl.a)
  have mb := msk_ne bl (gB _ _ pl.b)
  have L1 : Lv l H1 H1 [] := Lv.start ⟨_, hx⟩
  refine ⟨_, rfl, (by show 0 ≤ sizeLine; decide), ?_⟩
  intro q1 hq1
  have L2 := L1.new hq1 (.lst [])
  generalize upd H1 q1 (.lst []) = H2 at L2 ⊢
  refine ⟨_, rfl, two_le, ?_⟩
  intro q2 hq2
  have L3 := L2.new hq2 (.tup [.ref q1, .ref b])
  generalize upd H2 q2 (.tup [.ref q1, .ref b]) = H3 at L3 ⊢
  refine ⟨_, rfl, two_le, ?_⟩
  intro q3 hq3
  have L4 := L3.new hq3 (.tup [.ref a, .non])
  generalize upd H3 q3 (.tup [.ref a, .non]) = H4 at L4 ⊢
  refine ⟨_, rfl, a, _, rfl, .inl ⟨SqL.of (L4.old (gB _ _ pl.a)), ?_⟩⟩
  intro q4 hq4
  have L5 := L4.new hq4 (.tup (ns.map V.int))
  generalize upd H4 q4 (.tup (ns.map V.int)) = H5 at L5 ⊢
  refine ⟨_, rfl, two_le, ?_⟩
  intro q5 hq5
  have L6 := L5.new hq5 (.tup [.ref q4, .ref b])
  generalize upd H5 q5 (.tup [.ref q4, .ref b]) = H6 at L6 ⊢
  refine ⟨(by show 3 ≤ sizeLine; decide), ?_⟩
  intro q6 hq6
  have L7 := L6.new hq6 (.lst [.ref q2, .ref q3, .ref q5])
  generalize upd H6 q6 (.lst [.ref q2, .ref q3, .ref q5]) = H7 at L7 ⊢
  refine ⟨_, _, _, _, rfl, rfl, L7.old hx, L7.at (q := q6) (by repeat (first | exact List.mem_cons_self | apply List.mem_cons_of_mem)), (by show xs.length + 3 ≤ sizeLine; rw [sizeLine_eq]; omega), fun q' hq' => hN _ _ ⟨q', rfl, bag_cat bg hx L7 hq' (fun y hy => ?_) (by show 5 + 3 ≤ 8; decide)⟩⟩
  have tha : Th (msk (S1 l) H7) (.ref a) 900 2 := th_intsW (L7.om ma) (by omega) sn
  have thb : Th (msk (S1 l) H7) (.ref b) 900 2 := th_intsW (L7.om mb) (by omega) sss
  have the : Th (msk (S1 l) H7) (.ref q1) 900 2 := (Th.lst (n := 3) (k := 1) (xs := []) (L7.m (q := q1) (by repeat (first | exact List.mem_cons_self | apply List.mem_cons_of_mem))) (fun _ h => nomatch h)).mono (by decide) (by decide)
  simp only [List.mem_cons, List.not_mem_nil, or_false] at hy
  rcases hy with e | e | e <;> rw [e]
  ·exact np_pairW (L7.m (q := q2) (by repeat (first | exact List.mem_cons_self | apply List.mem_cons_of_mem))) the thb (.inl (nr_lst (L7.m (q := q1) (by repeat (first | exact List.mem_cons_self | apply List.mem_cons_of_mem))) fun ms e _ f _ => by
    cases ms with
    | nil => exact absurd f (by decide)
    | cons _ _ => cases e))
  ·exact np_pairW (L7.m (q := q3) (by repeat (first | exact List.mem_cons_self | apply List.mem_cons_of_mem))) tha Th.non (.inr nr_non)
  ·exact np_pairW (L7.m (q := q5) (by repeat (first | exact List.mem_cons_self | apply List.mem_cons_of_mem))) (th_wt (L7.m (q := q4) (by repeat (first | exact List.mem_cons_self | apply List.mem_cons_of_mem))) (by rw [nml]; omega) fun x hx => by obtain ⟨z, hz, rfl⟩ := List.mem_map.mp hx; exact Th.int (sn.abs z hz)) thb (.inl (nr_tup (L7.m (q := q4) (by repeat (first | exact List.mem_cons_self | apply List.mem_cons_of_mem)))))
 clear bg
 rintro σ1 H1 ⟨l, rfl, bg⟩
 refine seq_postT (fun σ' H' => ∃ l, σ' = [some (.ref t), some (.int cell), some (.ref a), some (.ref b), some (.ref l), none, none, none, none, none] ∧ BagS H H' l 10) (fun N hN => ?_) ?_
 ·skip
  obtain ⟨gB, nlB, xs, hx, l1, ln, okx⟩ := id bg
  have al : a ≠ l := ne_of_none pl.a nlB
  have bl : b ≠ l := ne_of_none pl.b nlB
  have ma := msk_ne al (gB _ _ pl.a)
  have mb := msk_ne bl (gB _ _ pl.b)
  have L1 : Lv l H1 H1 [] := Lv.start ⟨_, hx⟩
  refine ⟨_, rfl, _, rfl, _, rfl, b, _, rfl, .inl ⟨SqL.of (L1.old (gB _ _ pl.b)), ?_⟩⟩
  intro q1 hq1
  have L2 := L1.new hq1 (.tup (ss.map V.int))
  generalize upd H1 q1 (.tup (ss.map V.int)) = H2 at L2 ⊢
  refine ⟨two_le, ?_⟩
  intro q2 hq2
  have L3 := L2.new hq2 (.tup [.ref a, .ref q1])
  generalize upd H2 q2 (.tup [.ref a, .ref q1]) = H3 at L3 ⊢
  refine ⟨_, rfl, two_le, ?_⟩
  intro q3 hq3
  have L4 := L3.new hq3 (.tup [.non, .ref b])
  generalize upd H3 q3 (.tup [.non, .ref b]) = H4 at L4 ⊢
  refine ⟨two_le, ?_⟩
  intro q4 hq4
  have L5 := L4.new hq4 (.lst [.ref q2, .ref q3])
  generalize upd H4 q4 (.lst [.ref q2, .ref q3]) = H5 at L5 ⊢
  refine ⟨_, _, _, _, rfl, rfl, L5.old hx, L5.at (q := q4) (by repeat (first | exact List.mem_cons_self | apply List.mem_cons_of_mem)), (by show xs.length + 2 ≤ sizeLine; rw [sizeLine_eq]; omega), fun q' hq' => hN _ _ ⟨q', rfl, bag_cat bg hx L5 hq' (fun y hy => ?_) (by show 8 + 2 ≤ 10; decide)⟩⟩
  have tha : Th (msk (S1 l) H5) (.ref a) 900 2 := th_intsW (L5.om ma) (by omega) sn
  have thb : Th (msk (S1 l) H5) (.ref b) 900 2 := th_intsW (L5.om mb) (by omega) sss
  simp only [List.mem_cons, List.not_mem_nil, or_false] at hy
  rcases hy with e | e <;> rw [e]
  ·exact np_pairW (L5.m (q := q2) (by repeat (first | exact List.mem_cons_self | apply List.mem_cons_of_mem))) tha (th_wt (L5.m (q := q1) (by repeat (first | exact List.mem_cons_self | apply List.mem_cons_of_mem))) (by rw [sml]; omega) fun x hx => by obtain ⟨z, hz, rfl⟩ := List.mem_map.mp hx; exact Th.int (sss.abs z hz)) (.inr (nr_tup (L5.m (q := q1) (by repeat (first | exact List.mem_cons_self | apply List.mem_cons_of_mem)))))
  ·exact np_pairW (L5.m (q := q3) (by repeat (first | exact List.mem_cons_self | apply List.mem_cons_of_mem))) Th.non thb (.inl nr_non)
 clear bg
 rintro σ1 H1 ⟨l, rfl, bg⟩
 refine seq_postT (fun σ' H' => ∃ l, σ' = [some (.ref t), some (.int cell), some (.ref a), some (.ref b), some (.ref l), none, none, none, none, none] ∧ BagS H H' l 11) (fun N hN => ?_) ?_
 ·skip
  obtain ⟨gB, nlB, xs, hx, l1, ln, okx⟩ := id bg
  have al : a ≠ l := ne_of_none pl.a nlB
  have bl : b ≠ l := ne_of_none pl.b nlB
  have ma := msk_ne al (gB _ _ pl.a)
  have mb := msk_ne bl (gB _ _ pl.b)
  have L1 : Lv l H1 H1 [] := Lv.start ⟨_, hx⟩
  obtain ⟨la, cl, mla⟩ := cut_end (zs := ns) (by omega)
  refine ⟨_, rfl, .inl ⟨rfl, _, SqL.of hx⟩, _, rfl, _, rfl, _, rfl, _, rfl, a, _, rfl, SqL.of (L1.old (gB _ _ pl.a)), ?_⟩
  rw [show (-(1 : Int)) = -1 from rfl, cl]
  intro q1 hq1
  have L2 := L1.new hq1 (.lst [.int la])
  generalize upd H1 q1 (.lst [.int la]) = H2 at L2 ⊢
  refine ⟨_, _, _, _, rfl, rfl, L2.old (gB _ _ pl.a), L2.at (q := q1) (by repeat (first | exact List.mem_cons_self | apply List.mem_cons_of_mem)), (by show (ns.map V.int).length + 1 ≤ sizeLine; rw [nml, sizeLine_eq]; omega), ?_⟩
  intro q2 hq2
  have L3 := L2.new hq2 (.lst (ns.map V.int ++ [.int la]))
  generalize upd H2 q2 (.lst (ns.map V.int ++ [.int la])) = H3 at L3 ⊢
  refine ⟨_, rfl, two_le, ?_⟩
  intro q3 hq3
  have L4 := L3.new hq3 (.tup [.ref q2, .ref b])
  generalize upd H3 q3 (.tup [.ref q2, .ref b]) = H4 at L4 ⊢
  refine ⟨l, _, _, rfl, rfl, L4.old hx, small1000 (by omega), hN _ _ ⟨l, rfl, bag_app bg hx L4 ?_⟩⟩
  have tha : Th (msk (S1 l) H4) (.ref a) 900 2 := th_intsW (L4.om ma) (by omega) sn
  have thb : Th (msk (S1 l) H4) (.ref b) 900 2 := th_intsW (L4.om mb) (by omega) sss
  refine np_pairW (L4.m (q := q3) (by repeat (first | exact List.mem_cons_self | apply List.mem_cons_of_mem))) (th_w (L4.m (q := q2) (by repeat (first | exact List.mem_cons_self | apply List.mem_cons_of_mem))) (by rw [List.length_append, nml]; show ns.length + 1 ≤ 25; omega) fun x hx => ?_) thb (.inl (nr_lst (L4.m (q := q2) (by repeat (first | exact List.mem_cons_self | apply List.mem_cons_of_mem))) fun ms e r _ _ => ?_))
  ·rcases List.mem_append.mp hx with z | z
   ·obtain ⟨y, hy, rfl⟩ := List.mem_map.mp z
    exact Th.int (sn.abs y hy)
   ·rw [List.mem_singleton.mp z]
    exact Th.int (sn.abs la mla)
  ·have := no_last (List.mem_map.mpr ⟨la, mla, rfl⟩) ms e r
   omega
 clear bg
 rintro σ1 H1 ⟨l, rfl, bg⟩
 refine seq_postT (fun σ' H' => ∃ l, σ' = [some (.ref t), some (.int cell), some (.ref a), some (.ref b), some (.ref l), none, none, none, none, none] ∧ BagS H H' l 13) (fun N hN => ?_) ?_
 ·skip
  obtain ⟨gB, nlB, xs, hx, l1, ln, okx⟩ := id bg
  have al : a ≠ l := ne_of_none pl.a nlB
  have bl : b ≠ l := ne_of_none pl.b nlB
  have ma := msk_ne al (gB _ _ pl.a)
  have mb := msk_ne bl (gB _ _ pl.b)
  have L1 : Lv l H1 H1 [] := Lv.start ⟨_, hx⟩
  have lc : (cutV (ss.map V.int) (some (-1)) none).length ≤ 10 := Nat.le_trans (cutV_length _ _ _) (by rw [sml]; omega)
  have mc : ∀ x ∈ cutV (ss.map V.int) (some (-1)) none, x ∈ ss.map V.int := fun x hx => cut_mem hx
  refine ⟨_, rfl, _, rfl, _, rfl, _, rfl, _, rfl, _, rfl, b, _, rfl, SqL.of (L1.old (gB _ _ pl.b)), ?_⟩
  rw [show (-(1 : Int)) = -1 from rfl]
  generalize cutV (ss.map V.int) (some (-1)) none = cc at lc mc ⊢
  intro q1 hq1
  have L2 := L1.new hq1 (.lst cc)
  generalize upd H1 q1 (.lst cc) = H2 at L2 ⊢
  refine ⟨_, _, _, _, rfl, rfl, L2.old (gB _ _ pl.b), L2.at (q := q1) (by repeat (first | exact List.mem_cons_self | apply List.mem_cons_of_mem)), (by rw [sml, sizeLine_eq]; omega), ?_⟩
  intro q2 hq2
  have L3 := L2.new hq2 (.lst (ss.map V.int ++ cc))
  generalize upd H2 q2 (.lst (ss.map V.int ++ cc)) = H3 at L3 ⊢
  refine ⟨_, rfl, (by show 1 ≤ sizeLine; decide), ?_⟩
  intro q3 hq3
  have L4 := L3.new hq3 (.lst [.int (-1)])
  generalize upd H3 q3 (.lst [.int (-1)]) = H4 at L4 ⊢
  refine ⟨_, _, _, _, rfl, rfl, L4.at (q := q2) (by repeat (first | exact List.mem_cons_self | apply List.mem_cons_of_mem)), L4.at (q := q3) (by repeat (first | exact List.mem_cons_self | apply List.mem_cons_of_mem)), (by rw [List.length_append, sml, sizeLine_eq]; show ss.length + cc.length + 1 ≤ _; omega), ?_⟩
  intro q4 hq4
  have L5 := L4.new hq4 (.lst (ss.map V.int ++ cc ++ [.int (-1)]))
  generalize upd H4 q4 (.lst (ss.map V.int ++ cc ++ [.int (-1)])) = H5 at L5 ⊢
  refine ⟨two_le, ?_⟩
  intro q5 hq5
  have L6 := L5.new hq5 (.tup [.ref a, .ref q4])
  generalize upd H5 q5 (.tup [.ref a, .ref q4]) = H6 at L6 ⊢
  refine ⟨_, _, rfl, ⟨by decide, by decide, by decide, by decide⟩, ?_⟩
  intro q6 hq6
  have L7 := L6.new hq6 (.lst ((List.range ((11 : Int) - 0).toNat).map fun k : Nat => V.int (0 + (k : Int))))
  generalize upd H6 q6 (.lst ((List.range ((11 : Int) - 0).toNat).map fun k : Nat => V.int (0 + (k : Int)))) = H7 at L7 ⊢
  refine ⟨_, rfl, two_le, ?_⟩
  intro q7 hq7
  have L8 := L7.new hq7 (.tup [.ref q6, .ref b])
  generalize upd H7 q7 (.tup [.ref q6, .ref b]) = H8 at L8 ⊢
  refine ⟨two_le, ?_⟩
  intro q8 hq8
  have L9 := L8.new hq8 (.lst [.ref q5, .ref q7])
  generalize upd H8 q8 (.lst [.ref q5, .ref q7]) = H9 at L9 ⊢
  refine ⟨_, _, _, _, rfl, rfl, L9.old hx, L9.at (q := q8) (by repeat (first | exact List.mem_cons_self | apply List.mem_cons_of_mem)), (by show xs.length + 2 ≤ sizeLine; rw [sizeLine_eq]; omega), fun q' hq' => hN _ _ ⟨q', rfl, bag_cat bg hx L9 hq' (fun y hy => ?_) (by show 11 + 2 ≤ 13; decide)⟩⟩
  have tha : Th (msk (S1 l) H9) (.ref a) 900 2 := th_intsW (L9.om ma) (by omega) sn
  have thb : Th (msk (S1 l) H9) (.ref b) 900 2 := th_intsW (L9.om mb) (by omega) sss
  simp only [List.mem_cons, List.not_mem_nil, or_false] at hy
  rcases hy with e | e <;> rw [e]
  ·refine np_pairW (L9.m (q := q5) (by repeat (first | exact List.mem_cons_self | apply List.mem_cons_of_mem))) tha (th_w (L9.m (q := q4) (by repeat (first | exact List.mem_cons_self | apply List.mem_cons_of_mem))) (by rw [List.length_append, List.length_append, sml]; show ss.length + cc.length + 1 ≤ 25; omega) fun x hx => ?_) (.inr (nr_lst (L9.m (q := q4) (by repeat (first | exact List.mem_cons_self | apply List.mem_cons_of_mem))) fun ms e r _ _ => no_neg (x := .int (-1)) (List.mem_append_right _ (List.mem_singleton.mpr rfl)) (fun n hn => by cases hn; decide) ms e r))
   have int : ∀ x ∈ ss.map V.int, Th (msk (S1 l) H9) x 30 1 := fun x hx => by obtain ⟨y, hy, rfl⟩ := List.mem_map.mp hx; exact Th.int (sss.abs y hy)
   rcases List.mem_append.mp hx with z | z
   ·rcases List.mem_append.mp z with z | z
    ·exact int x z
    ·exact int x (mc x z)
   ·rw [List.mem_singleton.mp z]
    exact Th.int (by decide)
  ·exact np_pairW (L9.m (q := q7) (by repeat (first | exact List.mem_cons_self | apply List.mem_cons_of_mem))) (th_range (L9.m (q := q6) (by repeat (first | exact List.mem_cons_self | apply List.mem_cons_of_mem)))) thb (.inl (nr_lst (L9.m (q := q6) (by repeat (first | exact List.mem_cons_self | apply List.mem_cons_of_mem))) fun ms e _ _ f => eleven ms e f))
 clear bg
 rintro σ1 H1 ⟨l, rfl, bg⟩
 refine seq_postT (fun σ' H' => ∃ l, σ' = [some (.ref t), some (.int cell), some (.ref a), some (.ref b), some (.ref l), none, none, none, none, none] ∧ BagS H H' l 14) (fun N hN => ?_) ?_
 ·skip
  obtain ⟨gB, nlB, xs, hx, l1, ln, okx⟩ := id bg
  have al : a ≠ l := ne_of_none pl.a nlB
  have bl : b ≠ l := ne_of_none pl.b nlB
  have ma := msk_ne al (gB _ _ pl.a)
  have mb := msk_ne bl (gB _ _ pl.b)
  have L1 : Lv l H1 H1 [] := Lv.start ⟨_, hx⟩
  refine ⟨_, rfl, .inl ⟨rfl, _, SqL.of hx⟩, _, rfl, _, _, rfl, ⟨by decide, by decide, by decide, by decide⟩, ?_⟩
  intro q1 hq1
  have L2 := L1.new hq1 (.lst ((List.range ((11 : Int) - 0).toNat).map fun k : Nat => V.int (0 + (k : Int))))
  generalize upd H1 q1 (.lst ((List.range ((11 : Int) - 0).toNat).map fun k : Nat => V.int (0 + (k : Int)))) = H2 at L2 ⊢
  refine ⟨two_le, ?_⟩
  intro q2 hq2
  have L3 := L2.new hq2 (.tup [.ref a, .ref q1])
  generalize upd H2 q2 (.tup [.ref a, .ref q1]) = H3 at L3 ⊢
  refine ⟨l, _, _, rfl, rfl, L3.old hx, small1000 (by omega), hN _ _ ⟨l, rfl, bag_app bg hx L3 ?_⟩⟩
  have tha : Th (msk (S1 l) H3) (.ref a) 900 2 := th_intsW (L3.om ma) (by omega) sn
  have thb : Th (msk (S1 l) H3) (.ref b) 900 2 := th_intsW (L3.om mb) (by omega) sss
  exact np_pairW (L3.m (q := q2) (by repeat (first | exact List.mem_cons_self | apply List.mem_cons_of_mem))) tha (th_range (L3.m (q := q1) (by repeat (first | exact List.mem_cons_self | apply List.mem_cons_of_mem)))) (.inr (nr_lst (L3.m (q := q1) (by repeat (first | exact List.mem_cons_self | apply List.mem_cons_of_mem))) fun ms e _ _ f => eleven ms e f))
 clear bg
 rintro σ1 H1 ⟨l, rfl, bg⟩
 have at0 : 0 ≤ cell / 100 % (ns.length : Nat) := Int.emod_nonneg _ (by omega)
 have at1 : cell / 100 % (ns.length : Nat) < (ns.length : Nat) := Int.emod_lt_of_pos _ (by omega)
 refine seq_postT (fun σ' H' => ∃ l, σ' = [some (.ref t), some (.int cell), some (.ref a), some (.ref b), some (.ref l), some (.int (cell / 100 % (ns.length : Nat))), none, none, none, none] ∧ BagS H H' l 14) (fun N hN => ?_) ?_
 ·skip
  obtain ⟨gB, nlB, xs, hx, l1, ln, okx⟩ := id bg
  have al : a ≠ l := ne_of_none pl.a nlB
  have bl : b ≠ l := ne_of_none pl.b nlB
  have ma := msk_ne al (gB _ _ pl.a)
  have mb := msk_ne bl (gB _ _ pl.b)
  have L1 : Lv l H1 H1 [] := Lv.start ⟨_, hx⟩
  refine ⟨_, rfl, _, _, rfl, rfl, ⟨by decide, by decide⟩, _, rfl, a, _, rfl, .inl (SqL.of (gB _ _ pl.a)), _, _, rfl, rfl, (by rw [nml]; omega), hN _ _ ⟨l, ?_, bg⟩⟩
  rw [nml]
  rfl
 clear bg
 generalize cell / 100 % (ns.length : Nat) = at_ at at0 at1
 rintro σ1 H1 ⟨l, rfl, bg⟩
 obtain ⟨y, hy, my⟩ := int_at at0 at1
 have yb := sn.abs y my
 refine seq_postT (fun σ' H' => ∃ (y6 y7 : Option V), σ' = [some (.ref t), some (.int cell), some (.ref a), some (.ref b), some (.ref l), some (.int at_), y6, y7, none, none] ∧ BagS H H' l 26) (fun N hN => ?_) ?_
 ·skip
  obtain ⟨gB, nlB, xs, hx, l1, ln, okx⟩ := id bg
  have al : a ≠ l := ne_of_none pl.a nlB
  have bl : b ≠ l := ne_of_none pl.b nlB
  have ma := msk_ne al (gB _ _ pl.a)
  have mb := msk_ne bl (gB _ _ pl.b)
  have L1 : Lv l H1 H1 [] := Lv.start ⟨_, hx⟩
  refine ⟨_, rfl, _, rfl, _, rfl, a, _, _, _, rfl, rfl, SqL.of (gB _ _ pl.a), hy, y, rfl, yb, _, rfl, _, rfl, a, _, _, _, rfl, rfl, SqL.of (gB _ _ pl.a), hy, (by show 1 ≤ sizeLine; decide), ?_⟩
  intro q1 hq1
  have L2 := L1.new hq1 (.lst [.int y])
  generalize upd H1 q1 (.lst [.int y]) = H2 at L2 ⊢
  refine ⟨_, _, rfl, rfl, ⟨by decide, by decide, by decide⟩, _, rfl, (by show 6 ≤ sizeLine; decide), ?_⟩
  intro q2 hq2
  have L3 := L2.new hq2 (.lst [.int (-1), .bl true, .non, .str (numT y), .ref q1, .int (-(10 ^ (20 : Int).toNat))])
  generalize upd H2 q2 (.lst [.int (-1), .bl true, .non, .str (numT y), .ref q1, .int (-(10 ^ (20 : Int).toNat))]) = H3 at L3 ⊢
  refine ⟨q2, rfl, ⟨_, SqL.of (L3.at (q := q2) (by repeat (first | exact List.mem_cons_self | apply List.mem_cons_of_mem)))⟩, ?_⟩
  refine for_list (xs := [.int (-1), .bl true, .non, .str (numT y), .ref q1, .int (-(10 ^ (20 : Int).toNat))]) (fun i σ H' => ∃ (y6 y7 : Option V), σ = [some (.ref t), some (.int cell), some (.ref a), some (.ref b), some (.ref l), some (.int at_), y6, y7, none, none] ∧ BagS H H' l (14 + 2 * i) ∧ msk (S1 l) H' q1 = some (.lst [.int y]) ∧ msk (S1 l) H' q2 = some (.lst [.int (-1), .bl true, .non, .str (numT y), .ref q1, .int (-(10 ^ (20 : Int).toNat))]))
   ⟨none, none, rfl, bag_same bg L3.S (by decide), L3.m (by repeat (first | exact List.mem_cons_self | apply List.mem_cons_of_mem)), L3.m (by repeat (first | exact List.mem_cons_self | apply List.mem_cons_of_mem))⟩ (fun i σ H' _ ⟨_, _, _, _, _, e⟩ => SqL.of (msk_le _ _ e)) ?_ ?_
  ·clear bg gB nlB hx l1 ln okx al bl ma mb L1 L2 L3
   rintro i x σ H4 hxi ⟨y6, y7, rfl, bg, m1, m2⟩
   have i6 : i < 6 := (List.getElem?_eq_some_iff.mp hxi).1
   have mx := List.mem_of_getElem? hxi
   have two : Th (msk (S1 l) H4) x 30 1 ∧ ∀ n : Int, x = .int n → n < 0 := by
    simp only [List.mem_cons, List.not_mem_nil, or_false] at mx
    rcases mx with e | e | e | e | e | e <;> rw [e]
    ·exact ⟨Th.int (by decide), fun n h => by cases h; decide⟩
    ·exact ⟨Th.bl true, fun n h => nomatch h⟩
    ·exact ⟨Th.non, fun n h => nomatch h⟩
    ·refine ⟨Th.str (List.all_eq_true.mpr fun c hc => decide_eq_true ?_) (Nat.le_trans (sn.len y my) (by decide)), fun n h => nomatch h⟩
     have := numT_digits (sn y my).1 c hc
     omega
    ·exact ⟨(Th.lst (n := 0) (k := 0) m1 fun z hz => by rw [List.mem_singleton.mp hz]; exact Th.int yb).mono (by show 1 * (0 + 1) ≤ 30; decide) (by decide), fun n h => nomatch h⟩
    ·exact ⟨Th.int (by decide), fun n h => by cases h; decide⟩
   obtain ⟨thx, ngx⟩ := two
   dsimp only [gName]
   refine seq_postT (fun σ' H' => σ' = [some (.ref t), some (.int cell), some (.ref a), some (.ref b), some (.ref l), some (.int at_), some x, y7, none, none] ∧ BagS H H' l (14 + 2 * i + 1) ∧ msk (S1 l) H' q1 = some (.lst [.int y]) ∧ msk (S1 l) H' q2 = some (.lst [.int (-1), .bl true, .non, .str (numT y), .ref q1, .int (-(10 ^ (20 : Int).toNat))])) (fun N hN => ?_) ?_
   ·skip
    obtain ⟨gB, nlB, xs, hx, l1, ln, okx⟩ := id bg
    have al : a ≠ l := ne_of_none pl.a nlB
    have bl : b ≠ l := ne_of_none pl.b nlB
    have ma := msk_ne al (gB _ _ pl.a)
    have mb := msk_ne bl (gB _ _ pl.b)
    have L4 : Lv l H4 H4 [] := Lv.start ⟨_, hx⟩
    have c1 : (cutV (ns.map V.int) none (some at_)).length ≤ 10 := Nat.le_trans (cutV_length _ _ _) (by rw [nml]; omega)
    have c2 : (cutV (ns.map V.int) (some (at_ + 1)) none).length ≤ 10 := Nat.le_trans (cutV_length _ _ _) (by rw [nml]; omega)
    refine ⟨_, rfl, .inl ⟨rfl, _, SqL.of hx⟩, _, rfl, _, rfl, _, rfl, a, _, rfl, SqL.of (gB _ _ pl.a), ?_⟩
    intro p1 hp1
    have L5 := L4.new hp1 (.lst (cutV (ns.map V.int) none (some at_)))
    generalize upd H4 p1 (.lst (cutV (ns.map V.int) none (some at_))) = H5 at L5 ⊢
    refine ⟨_, rfl, (by show 1 ≤ sizeLine; decide), ?_⟩
    intro p2 hp2
    have L6 := L5.new hp2 (.lst [x])
    generalize upd H5 p2 (.lst [x]) = H6 at L6 ⊢
    refine ⟨_, _, _, _, rfl, rfl, L6.at (q := p1) (by repeat (first | exact List.mem_cons_self | apply List.mem_cons_of_mem)), L6.at (q := p2) (by repeat (first | exact List.mem_cons_self | apply List.mem_cons_of_mem)), (by have := c1; rw [sizeLine_eq]; show _ + 1 ≤ _; omega), ?_⟩
    intro p3 hp3
    have L7 := L6.new hp3 (.lst (cutV (ns.map V.int) none (some at_) ++ [x]))
    generalize upd H6 p3 (.lst (cutV (ns.map V.int) none (some at_) ++ [x])) = H7 at L7 ⊢
    refine ⟨_, rfl, _, rfl, _, _, rfl, rfl, _, rfl, a, _, rfl, SqL.of (L7.old (gB _ _ pl.a)), ?_⟩
    intro p4 hp4
    have L8 := L7.new hp4 (.lst (cutV (ns.map V.int) (some (at_ + 1)) none))
    generalize upd H7 p4 (.lst (cutV (ns.map V.int) (some (at_ + 1)) none)) = H8 at L8 ⊢
    refine ⟨_, _, _, _, rfl, rfl, L8.at (q := p3) (by repeat (first | exact List.mem_cons_self | apply List.mem_cons_of_mem)), L8.at (q := p4) (by repeat (first | exact List.mem_cons_self | apply List.mem_cons_of_mem)), (by rw [List.length_append, sizeLine_eq]; show _ + 1 + _ ≤ _; omega), ?_⟩
    intro p5 hp5
    have L9 := L8.new hp5 (.lst (cutV (ns.map V.int) none (some at_) ++ [x] ++ cutV (ns.map V.int) (some (at_ + 1)) none))
    generalize upd H8 p5 (.lst (cutV (ns.map V.int) none (some at_) ++ [x] ++ cutV (ns.map V.int) (some (at_ + 1)) none)) = H9 at L9 ⊢
    refine ⟨_, rfl, two_le, ?_⟩
    intro p6 hp6
    have L10 := L9.new hp6 (.tup [.ref p5, .ref b])
    generalize upd H9 p6 (.tup [.ref p5, .ref b]) = H10 at L10 ⊢
    refine ⟨l, _, _, rfl, rfl, L10.old hx, small1000 (by omega), hN _ _ ⟨rfl, bag_app bg hx L10 ?_, msk_put _ _ (L10.om m1), msk_put _ _ (L10.om m2)⟩⟩
    have tha : Th (msk (S1 l) H10) (.ref a) 900 2 := th_intsW (L10.om ma) (by omega) sn
    have thb : Th (msk (S1 l) H10) (.ref b) 900 2 := th_intsW (L10.om mb) (by omega) sss
    refine np_pairW (L10.m (q := p6) (by repeat (first | exact List.mem_cons_self | apply List.mem_cons_of_mem))) (th_w (L10.m (q := p5) (by repeat (first | exact List.mem_cons_self | apply List.mem_cons_of_mem))) (by rw [List.length_append, List.length_append]; show _ + 1 + _ ≤ 25; omega) fun z hz => ?_) thb (.inl (nr_lst (L10.m (q := p5) (by repeat (first | exact List.mem_cons_self | apply List.mem_cons_of_mem))) fun ms e r _ _ => no_neg (x := x) (List.mem_append_left _ (List.mem_append_right _ (List.mem_singleton.mpr rfl))) ngx ms e r))
    have int : ∀ z ∈ ns.map V.int, Th (msk (S1 l) H10) z 30 1 := fun z hz => by obtain ⟨u, hu, rfl⟩ := List.mem_map.mp hz; exact Th.int (sn.abs u hu)
    rcases List.mem_append.mp hz with hz | hz
    ·rcases List.mem_append.mp hz with hz | hz
     ·exact int z (cut_mem hz)
     ·rw [List.mem_singleton.mp hz]
      exact thx.same (msk_same L10.S)
    ·exact int z (cut_mem hz)
   have thx0 := thx
   have sp0 : 0 ≤ cell / 100 % ((ss.length : Nat) + 1 : Int) := Int.emod_nonneg _ (by omega)
   have sp1 : cell / 100 % ((ss.length : Nat) + 1 : Int) < ((ss.length : Nat) + 1 : Int) := Int.emod_lt_of_pos _ (by omega)
   rintro σ2 H5 ⟨rfl, bg5, m15, m25⟩
   have thx5 : Th (msk (S1 l) H5) x 30 1 ∧ ∀ n : Int, x = .int n → n < 0 := by
    refine ⟨?_, ngx⟩
    simp only [List.mem_cons, List.not_mem_nil, or_false] at mx
    rcases mx with e | e | e | e | e | e <;> rw [e]
    ·exact Th.int (by decide)
    ·exact Th.bl true
    ·exact Th.non
    ·refine Th.str (List.all_eq_true.mpr fun c hc => decide_eq_true ?_) (Nat.le_trans (sn.len y my) (by decide))
     have := numT_digits (sn y my).1 c hc
     omega
    ·exact (Th.lst (n := 0) (k := 0) m15 fun z hz => by rw [List.mem_singleton.mp hz]; exact Th.int yb).mono (by show 1 * (0 + 1) ≤ 30; decide) (by decide)
    ·exact Th.int (by decide)
   clear bg m1 m2 thx thx0
   have thx := thx5.1
   clear thx5
   refine seq_postT (fun σ' H' => ∃ spv : Int, σ' = [some (.ref t), some (.int cell), some (.ref a), some (.ref b), some (.ref l), some (.int at_), some x, some (.int spv), none, none] ∧ H' = H5) (fun N hN => ?_) ?_
   ·obtain ⟨gB, nlB, xs, hx, l1, ln, okx⟩ := id bg5
    exact ⟨_, rfl, _, _, rfl, rfl, ⟨by decide, by decide⟩, _, rfl, b, _, rfl, .inl (SqL.of (gB _ _ pl.b)), _, _, rfl, rfl, _, _, rfl, rfl, (by rw [sml]; omega), hN _ _ ⟨_, rfl, rfl⟩⟩
   rintro σ3 H4 ⟨spv, rfl, rfl⟩
   obtain ⟨gB, nlB, xs, hx, l1, ln, okx⟩ := id bg5
   have al : a ≠ l := ne_of_none pl.a nlB
   have bl : b ≠ l := ne_of_none pl.b nlB
   have ma := msk_ne al (gB _ _ pl.a)
   have mb := msk_ne bl (gB _ _ pl.b)
   have L4 : Lv l H4 H4 [] := Lv.start ⟨_, hx⟩
   have c1 : (cutV (ss.map V.int) none (some spv)).length ≤ 10 := Nat.le_trans (cutV_length _ _ _) (by rw [sml]; omega)
   have c2 : (cutV (ss.map V.int) (some (spv + 1)) none).length ≤ 10 := Nat.le_trans (cutV_length _ _ _) (by rw [sml]; omega)
   refine ⟨_, rfl, .inl ⟨rfl, _, SqL.of hx⟩, _, rfl, _, rfl, _, rfl, _, rfl, b, _, rfl, SqL.of (gB _ _ pl.b), ?_⟩
   intro p1 hp1
   have L5 := L4.new hp1 (.lst (cutV (ss.map V.int) none (some spv)))
   generalize upd H4 p1 (.lst (cutV (ss.map V.int) none (some spv))) = H5 at L5 ⊢
   refine ⟨_, rfl, (by show 1 ≤ sizeLine; decide), ?_⟩
   intro p2 hp2
   have L6 := L5.new hp2 (.lst [x])
   generalize upd H5 p2 (.lst [x]) = H6 at L6 ⊢
   refine ⟨_, _, _, _, rfl, rfl, L6.at (q := p1) (by repeat (first | exact List.mem_cons_self | apply List.mem_cons_of_mem)), L6.at (q := p2) (by repeat (first | exact List.mem_cons_self | apply List.mem_cons_of_mem)), (by have := c1; rw [sizeLine_eq]; show _ + 1 ≤ _; omega), ?_⟩
   intro p3 hp3
   have L7 := L6.new hp3 (.lst (cutV (ss.map V.int) none (some spv) ++ [x]))
   generalize upd H6 p3 (.lst (cutV (ss.map V.int) none (some spv) ++ [x])) = H7 at L7 ⊢
   refine ⟨_, rfl, _, rfl, _, _, rfl, rfl, _, rfl, b, _, rfl, SqL.of (L7.old (gB _ _ pl.b)), ?_⟩
   intro p4 hp4
   have L8 := L7.new hp4 (.lst (cutV (ss.map V.int) (some (spv + 1)) none))
   generalize upd H7 p4 (.lst (cutV (ss.map V.int) (some (spv + 1)) none)) = H8 at L8 ⊢
   refine ⟨_, _, _, _, rfl, rfl, L8.at (q := p3) (by repeat (first | exact List.mem_cons_self | apply List.mem_cons_of_mem)), L8.at (q := p4) (by repeat (first | exact List.mem_cons_self | apply List.mem_cons_of_mem)), (by rw [List.length_append, sizeLine_eq]; show _ + 1 + _ ≤ _; omega), ?_⟩
   intro p5 hp5
   have L9 := L8.new hp5 (.lst (cutV (ss.map V.int) none (some spv) ++ [x] ++ cutV (ss.map V.int) (some (spv + 1)) none))
   generalize upd H8 p5 (.lst (cutV (ss.map V.int) none (some spv) ++ [x] ++ cutV (ss.map V.int) (some (spv + 1)) none)) = H9 at L9 ⊢
   refine ⟨two_le, ?_⟩
   intro p6 hp6
   have L10 := L9.new hp6 (.tup [.ref a, .ref p5])
   generalize upd H9 p6 (.tup [.ref a, .ref p5]) = H10 at L10 ⊢
   refine ⟨l, _, _, rfl, rfl, L10.old hx, small1000 (by omega), _, _, rfl, bag_app bg5 hx L10 ?_, msk_put _ _ (L10.om m15), msk_put _ _ (L10.om m25)⟩
   have tha : Th (msk (S1 l) H10) (.ref a) 900 2 := th_intsW (L10.om ma) (by omega) sn
   have thb : Th (msk (S1 l) H10) (.ref b) 900 2 := th_intsW (L10.om mb) (by omega) sss
   refine np_pairW (L10.m (q := p6) (by repeat (first | exact List.mem_cons_self | apply List.mem_cons_of_mem))) tha (th_w (L10.m (q := p5) (by repeat (first | exact List.mem_cons_self | apply List.mem_cons_of_mem))) (by rw [List.length_append, List.length_append]; show _ + 1 + _ ≤ 25; omega) fun z hz => ?_) (.inr (nr_lst (L10.m (q := p5) (by repeat (first | exact List.mem_cons_self | apply List.mem_cons_of_mem))) fun ms e r _ _ => no_neg (x := x) (List.mem_append_left _ (List.mem_append_right _ (List.mem_singleton.mpr rfl))) ngx ms e r))
   have int : ∀ z ∈ ss.map V.int, Th (msk (S1 l) H10) z 30 1 := fun z hz => by obtain ⟨u, hu, rfl⟩ := List.mem_map.mp hz; exact Th.int (sss.abs u hu)
   rcases List.mem_append.mp hz with hz | hz
   ·rcases List.mem_append.mp hz with hz | hz
    ·exact int z (cut_mem hz)
    ·rw [List.mem_singleton.mp hz]
     exact thx.same (msk_same L10.S)
   ·exact int z (cut_mem hz)
  ·rintro σ H4 ⟨y6, y7, rfl, bg, _⟩
   exact hN _ _ ⟨_, _, rfl, bg⟩
 clear bg
 rintro σ1 H1 ⟨y6, y7, rfl, bg⟩
 refine seq_postT (fun σ' H' => ∃ (y5 y8 : Option V), σ' = [some (.ref t), some (.int cell), some (.ref a), some (.ref b), some (.ref l), y5, y6, y7, y8, none] ∧ BagS H H' l 27) (fun N hN => ?_) ?_
 ·skip
  obtain ⟨gB, nlB, xs, hx, l1, ln, okx⟩ := id bg
  have al : a ≠ l := ne_of_none pl.a nlB
  have bl : b ≠ l := ne_of_none pl.b nlB
  have ma := msk_ne al (gB _ _ pl.a)
  have mb := msk_ne bl (gB _ _ pl.b)
  have L1 : Lv l H1 H1 [] := Lv.start ⟨_, hx⟩
  refine ⟨_, rfl, a, _, rfl, .inl (SqL.of (gB _ _ pl.a)), _, _, rfl, rfl, _, rfl, ite2 (fun c => ?_) (fun c => ?_)⟩
  ·have c2 : (1 : Int) < ((ns.map V.int).length : Nat) := of_decide_eq_true c
   rw [nml] at c2
   have r0 : 0 ≤ cell / 100 % ((ns.length : Nat) - 1 : Int) := Int.emod_nonneg _ (by omega)
   have r1 : cell / 100 % ((ns.length : Nat) - 1 : Int) < (ns.length : Nat) - 1 := Int.emod_lt_of_pos _ (by omega)
   dsimp only
   refine seq_postT (fun σ' H' => ∃ rv : Int, σ' = [some (.ref t), some (.int cell), some (.ref a), some (.ref b), some (.ref l), some (.int rv), y6, y7, none, none] ∧ H' = H1 ∧ 0 ≤ rv ∧ rv < (ns.length : Nat) - 1) (fun N hN => ?_) ?_
   ·refine ⟨_, rfl, _, _, rfl, rfl, ⟨by decide, by decide⟩, _, rfl, a, _, rfl, .inl (SqL.of (gB _ _ pl.a)), _, _, rfl, rfl, _, _, rfl, rfl, (by rw [nml]; omega), hN _ _ ⟨_, rfl, rfl, ?_, ?_⟩⟩
    ·rw [nml]; exact r0
    ·rw [nml]; exact r1
   rintro σ2 H1' ⟨rv, rfl, rfl, rv0, rv1⟩
   obtain ⟨u1, hu1, mu1⟩ := int_at (zs := ns) (r := rv + 1) (by omega) (by omega)
   obtain ⟨u2, hu2, mu2⟩ := int_at (zs := ns) (r := rv) (by omega) (by omega)
   have c1 : (cutV (ns.map V.int) none (some rv)).length ≤ 10 := Nat.le_trans (cutV_length _ _ _) (by rw [nml]; omega)
   have c3 : (cutV (ns.map V.int) (some (rv + 2)) none).length ≤ 10 := Nat.le_trans (cutV_length _ _ _) (by rw [nml]; omega)
   refine ⟨_, rfl, _, rfl, _, _, rfl, rfl, a, _, _, _, rfl, rfl, SqL.of (gB _ _ pl.a), hu1, _, rfl, _, rfl, a, _, _, _, rfl, rfl, SqL.of (gB _ _ pl.a), hu2, two_le, ?_⟩
   intro p1 hp1
   have L2 := L1.new hp1 (.lst [.int u1, .int u2])
   generalize upd H1' p1 (.lst [.int u1, .int u2]) = H2 at L2 ⊢
   refine ⟨_, rfl, .inl ⟨rfl, _, SqL.of (L2.old hx)⟩, _, rfl, _, rfl, _, rfl, a, _, rfl, SqL.of (L2.old (gB _ _ pl.a)), ?_⟩
   intro p2 hp2
   have L3 := L2.new hp2 (.lst (cutV (ns.map V.int) none (some rv)))
   generalize upd H2 p2 (.lst (cutV (ns.map V.int) none (some rv))) = H3 at L3 ⊢
   refine ⟨_, rfl, _, _, _, _, rfl, rfl, L3.at (q := p2) (by repeat (first | exact List.mem_cons_self | apply List.mem_cons_of_mem)), L3.at (q := p1) (by repeat (first | exact List.mem_cons_self | apply List.mem_cons_of_mem)), (by rw [sizeLine_eq]; show _ + 2 ≤ _; omega), ?_⟩
   intro p3 hp3
   have L4 := L3.new hp3 (.lst (cutV (ns.map V.int) none (some rv) ++ [.int u1, .int u2]))
   generalize upd H3 p3 (.lst (cutV (ns.map V.int) none (some rv) ++ [.int u1, .int u2])) = H4 at L4 ⊢
   refine ⟨_, rfl, _, rfl, _, _, rfl, rfl, _, rfl, a, _, rfl, SqL.of (L4.old (gB _ _ pl.a)), ?_⟩
   intro p4 hp4
   have L5 := L4.new hp4 (.lst (cutV (ns.map V.int) (some (rv + 2)) none))
   generalize upd H4 p4 (.lst (cutV (ns.map V.int) (some (rv + 2)) none)) = H5 at L5 ⊢
   refine ⟨_, _, _, _, rfl, rfl, L5.at (q := p3) (by repeat (first | exact List.mem_cons_self | apply List.mem_cons_of_mem)), L5.at (q := p4) (by repeat (first | exact List.mem_cons_self | apply List.mem_cons_of_mem)), (by rw [List.length_append, sizeLine_eq]; show _ + 2 + _ ≤ _; omega), ?_⟩
   intro p5 hp5
   have L6 := L5.new hp5 (.lst (cutV (ns.map V.int) none (some rv) ++ [.int u1, .int u2] ++ cutV (ns.map V.int) (some (rv + 2)) none))
   generalize upd H5 p5 (.lst (cutV (ns.map V.int) none (some rv) ++ [.int u1, .int u2] ++ cutV (ns.map V.int) (some (rv + 2)) none)) = H6 at L6 ⊢
   refine ⟨_, rfl, two_le, ?_⟩
   intro p6 hp6
   have L7 := L6.new hp6 (.tup [.ref p5, .ref b])
   generalize upd H6 p6 (.tup [.ref p5, .ref b]) = H7 at L7 ⊢
   refine ⟨l, _, _, rfl, rfl, L7.old hx, small1000 (by omega), hN _ _ ⟨_, _, rfl, bag_app bg hx L7 ?_⟩⟩
   have thb : Th (msk (S1 l) H7) (.ref b) 900 2 := th_intsW (L7.om mb) (by omega) sss
   refine np_pairW (L7.m (q := p6) (by repeat (first | exact List.mem_cons_self | apply List.mem_cons_of_mem))) (th_w (L7.m (q := p5) (by repeat (first | exact List.mem_cons_self | apply List.mem_cons_of_mem))) (by rw [List.length_append, List.length_append]; show _ + 2 + _ ≤ 25; omega) fun z hz => ?_) thb (.inl (nr_lst (L7.m (q := p5) (by repeat (first | exact List.mem_cons_self | apply List.mem_cons_of_mem))) fun ms e r _ _ => swap_cut ok.n.up rv0 rv1 hu1 hu2 ms e r))
   have int : ∀ z ∈ ns.map V.int, Th (msk (S1 l) H7) z 30 1 := fun z hz => by obtain ⟨u, hu, rfl⟩ := List.mem_map.mp hz; exact Th.int (sn.abs u hu)
   rcases List.mem_append.mp hz with hz | hz
   ·rcases List.mem_append.mp hz with hz | hz
    ·exact int z (cut_mem hz)
    ·simp only [List.mem_cons, List.not_mem_nil, or_false] at hz
     rcases hz with e | e <;> rw [e]
     ·exact Th.int (sn.abs u1 mu1)
     ·exact Th.int (sn.abs u2 mu2)
   ·exact int z (cut_mem hz)
  ·exact hN _ _ ⟨_, _, rfl, bag_same bg Same.rfl' (by decide)⟩
 clear bg
 rintro σ1 H1 ⟨y5, y8, rfl, bg⟩
 obtain ⟨gr, hgr', mgr⟩ := last_inS (R := 0 :: ss) (by rw [List.length_cons]; omega)
 have hgr : atI ([V.int 0] ++ ss.map V.int) (-1) = some (.int gr) := hgr'
 have grb : 0 ≤ gr ∧ gr < 10 ^ 26 := by
  rcases List.mem_cons.mp mgr with e | e
  ·rw [e]; decide
  ·exact sss gr e
 refine seq_postT (fun σ' H' => σ' = [some (.ref t), some (.int cell), some (.ref a), some (.ref b), some (.ref l), y5, y6, y7, y8, some (.int gr)] ∧ BagS H H' l 27) (fun N hN => ?_) ?_
 ·skip
  obtain ⟨gB, nlB, xs, hx, l1, ln, okx⟩ := id bg
  have al : a ≠ l := ne_of_none pl.a nlB
  have bl : b ≠ l := ne_of_none pl.b nlB
  have ma := msk_ne al (gB _ _ pl.a)
  have mb := msk_ne bl (gB _ _ pl.b)
  have L1 : Lv l H1 H1 [] := Lv.start ⟨_, hx⟩
  refine ⟨(by show 1 ≤ sizeLine; decide), ?_⟩
  intro q1 hq1
  have L2 := L1.new hq1 (.lst [.int 0])
  generalize upd H1 q1 (.lst [.int 0]) = H2 at L2 ⊢
  refine ⟨_, rfl, _, _, _, _, rfl, rfl, L2.at (q := q1) (by repeat (first | exact List.mem_cons_self | apply List.mem_cons_of_mem)), L2.old (gB _ _ pl.b), (by rw [sml, sizeLine_eq]; show 1 + _ ≤ _; omega), ?_⟩
  intro q2 hq2
  have L3 := L2.new hq2 (.lst ([.int 0] ++ ss.map V.int))
  generalize upd H2 q2 (.lst ([.int 0] ++ ss.map V.int)) = H3 at L3 ⊢
  exact ⟨_, rfl, q2, _, _, _, rfl, rfl, SqL.of (L3.at (q := q2) (by repeat (first | exact List.mem_cons_self | apply List.mem_cons_of_mem))), hgr, hN _ _ ⟨rfl, bag_same bg L3.S (by decide)⟩⟩
 clear bg
 rintro σ1 H1 ⟨rfl, bg⟩
 refine seq_postT (fun σ' H' => σ' = [some (.ref t), some (.int cell), some (.ref a), some (.ref b), some (.ref l), y5, y6, y7, y8, some (.int gr)] ∧ BagS H H' l 28) (fun N hN => ?_) ?_
 ·skip
  obtain ⟨gB, nlB, xs, hx, l1, ln, okx⟩ := id bg
  have al : a ≠ l := ne_of_none pl.a nlB
  have bl : b ≠ l := ne_of_none pl.b nlB
  have ma := msk_ne al (gB _ _ pl.a)
  have mb := msk_ne bl (gB _ _ pl.b)
  have L1 : Lv l H1 H1 [] := Lv.start ⟨_, hx⟩
  refine ⟨_, rfl, .inl ⟨rfl, _, SqL.of hx⟩, _, rfl, _, rfl, _, _, rfl, rfl, _, rfl, _, _, rfl, rfl, two_le, ?_⟩
  intro q1 hq1
  have L2 := L1.new hq1 (.lst [.int (gr + 2), .int (gr + 1)])
  generalize upd H1 q1 (.lst [.int (gr + 2), .int (gr + 1)]) = H2 at L2 ⊢
  refine ⟨two_le, ?_⟩
  intro q2 hq2
  have L3 := L2.new hq2 (.tup [.ref a, .ref q1])
  generalize upd H2 q2 (.tup [.ref a, .ref q1]) = H3 at L3 ⊢
  refine ⟨l, _, _, rfl, rfl, L3.old hx, small1000 (by omega), hN _ _ ⟨rfl, bag_app bg hx L3 ?_⟩⟩
  have tha : Th (msk (S1 l) H3) (.ref a) 900 2 := th_intsW (L3.om ma) (by omega) sn
  have thb : Th (msk (S1 l) H3) (.ref b) 900 2 := th_intsW (L3.om mb) (by omega) sss
  refine np_pairW (L3.m (q := q2) (by repeat (first | exact List.mem_cons_self | apply List.mem_cons_of_mem))) tha (th_w (L3.m (q := q1) (by repeat (first | exact List.mem_cons_self | apply List.mem_cons_of_mem))) (by show 2 ≤ 25; decide) fun z hz => ?_) (.inr (nr_lst (L3.m (q := q1) (by repeat (first | exact List.mem_cons_self | apply List.mem_cons_of_mem))) fun ms e r _ _ => ?_))
  ·simp only [List.mem_cons, List.not_mem_nil, or_false] at hz
   rcases hz with e | e <;> rw [e]
   ·exact Th.int (by omega)
   ·exact Th.int (by omega)
  ·have := no_last2 (cs := []) ms e r
   omega
 clear bg
 rintro σ1 H1 ⟨rfl, bg⟩
 refine seq_postT (fun σ' H' => σ' = [some (.ref t), some (.int cell), some (.ref a), some (.ref b), some (.ref l), y5, y6, y7, y8, some (.int gr)] ∧ BagS H H' l 29) (fun N hN => ?_) ?_
 ·skip
  obtain ⟨gB, nlB, xs, hx, l1, ln, okx⟩ := id bg
  have al : a ≠ l := ne_of_none pl.a nlB
  have bl : b ≠ l := ne_of_none pl.b nlB
  have ma := msk_ne al (gB _ _ pl.a)
  have mb := msk_ne bl (gB _ _ pl.b)
  have L1 : Lv l H1 H1 [] := Lv.start ⟨_, hx⟩
  have c1 : (cutV (ss.map V.int) none (some 8)).length ≤ 10 := Nat.le_trans (cutV_length _ _ _) (by rw [sml]; omega)
  refine ⟨_, rfl, .inl ⟨rfl, _, SqL.of hx⟩, _, rfl, _, rfl, _, rfl, b, _, rfl, SqL.of (gB _ _ pl.b), ?_⟩
  intro q1 hq1
  have L2 := L1.new hq1 (.lst (cutV (ss.map V.int) none (some 8)))
  generalize upd H1 q1 (.lst (cutV (ss.map V.int) none (some 8))) = H2 at L2 ⊢
  refine ⟨_, rfl, _, _, rfl, rfl, _, rfl, _, _, rfl, rfl, two_le, ?_⟩
  intro q2 hq2
  have L3 := L2.new hq2 (.lst [.int (gr + 1), .int (gr + 1)])
  generalize upd H2 q2 (.lst [.int (gr + 1), .int (gr + 1)]) = H3 at L3 ⊢
  refine ⟨_, _, _, _, rfl, rfl, L3.at (q := q1) (by repeat (first | exact List.mem_cons_self | apply List.mem_cons_of_mem)), L3.at (q := q2) (by repeat (first | exact List.mem_cons_self | apply List.mem_cons_of_mem)), (by rw [sizeLine_eq]; show _ + 2 ≤ _; omega), ?_⟩
  intro q3 hq3
  have L4 := L3.new hq3 (.lst (cutV (ss.map V.int) none (some 8) ++ [.int (gr + 1), .int (gr + 1)]))
  generalize upd H3 q3 (.lst (cutV (ss.map V.int) none (some 8) ++ [.int (gr + 1), .int (gr + 1)])) = H4 at L4 ⊢
  refine ⟨two_le, ?_⟩
  intro q4 hq4
  have L5 := L4.new hq4 (.tup [.ref a, .ref q3])
  generalize upd H4 q4 (.tup [.ref a, .ref q3]) = H5 at L5 ⊢
  refine ⟨l, _, _, rfl, rfl, L5.old hx, small1000 (by omega), hN _ _ ⟨rfl, bag_app bg hx L5 ?_⟩⟩
  have tha : Th (msk (S1 l) H5) (.ref a) 900 2 := th_intsW (L5.om ma) (by omega) sn
  have thb : Th (msk (S1 l) H5) (.ref b) 900 2 := th_intsW (L5.om mb) (by omega) sss
  refine np_pairW (L5.m (q := q4) (by repeat (first | exact List.mem_cons_self | apply List.mem_cons_of_mem))) tha (th_w (L5.m (q := q3) (by repeat (first | exact List.mem_cons_self | apply List.mem_cons_of_mem))) (by rw [List.length_append]; show _ + 2 ≤ 25; omega) fun z hz => ?_) (.inr (nr_lst (L5.m (q := q3) (by repeat (first | exact List.mem_cons_self | apply List.mem_cons_of_mem))) fun ms e r _ _ => ?_))
  ·rcases List.mem_append.mp hz with hz | hz
   ·obtain ⟨u, hu, rfl⟩ := List.mem_map.mp (cut_mem hz)
    exact Th.int (sss.abs u hu)
   ·simp only [List.mem_cons, List.not_mem_nil, or_false, or_self] at hz
    rw [hz]
    exact Th.int (by omega)
  ·have := no_last2 ms e r
   omega
 clear bg
 rintro σ1 H1 ⟨rfl, bg⟩
 obtain ⟨gB, nlB, xs, hx, l1, ln, okx⟩ := bg
 obtain ⟨v, hv, mv⟩ := pick_any (xs := xs) (r := cell % (xs.length : Nat)) (Int.emod_nonneg _ (by omega)) (Int.emod_lt_of_pos _ (by omega))
 exact ⟨_, rfl, _, rfl, _, rfl, l, _, rfl, .inl (SqL.of hx), _, _, rfl, rfl, (by show (0 : Int) < (xs.length : Nat); omega), l, _, _, _, rfl, rfl, SqL.of hx, hv, q v _ gB ((okx v mv).same msk_le)⟩
end
abbrev sLaw : Stmt := top 39
structure BtL (mg : Str → Option Value) : Prop extends Bt3 mg where
 abs : mg "abs" = none
 repr : mg "repr" = none
def spLaw (K : PySem.W.Frag) : Sp := fun vs H Q _ => ∃ (a : Addr) (ns : List Int), vs = [.ref a] ∧ SqL K H a (ns.map V.int) ∧ ns.length ≤ 63 ∧ ∀ H', Q (.bl true) H'
theorem rcv_bs {K : PySem.W.Frag} {H : Hp} {a b : Addr} {c : Bool} {z : Str} (h1 : H a = some (.lst [.bl c, .str z])) (h2 : H b = some (.lst [.bl c, .str z])) : RcV K H (.ref a) (.ref b) true :=
 rcv_datL (ds := [.bool c, .str z]) rfl h1 (.cons (.bl c) (.cons (.str z) .nil)) h2 (.cons (.bl c) (.cons (.str z) .nil))
section
variable {f : Addr} {fd : FuncData}
theorem scLaw : FnScope ["script", "k", "cell", "text", "found", "bad", "kept", "odd"] ["script"] (defScope sLaw) := ⟨rfl, rfl, rfl, by decide +kernel, rfl, by decide +kernel, by decide +kernel⟩
set_option maxHeartbeats 0 in
theorem ok_law {ce gi ak wr bd mp mx : Addr} {ced gid akd wrd bdd mpd mxd : FuncData} (F : Fun K "law" "law" sLaw f fd) (B : BtL mg)
  (GC : FnOk P w K mg base CX0 6 ce ced ["script", "k"] (spCell K)) (bC : Binds K ced ["script", "k"] []) (kC : Kee K ce) (mC : mg "_law_cell" = some (.ref ce))
  (GG : FnOk P w K mg base CX0 6 gi gid ["cell"] spGiv) (bG : Binds K gid ["cell"] []) (kG : Kee K gi) (mG : mg "_law_given" = some (.ref gi))
  (GA : FnOk P w K mg base CX0 6 ak akd ["ask", "thing"] spAsk) (bA : Binds K akd ["ask", "thing"] []) (kA : Kee K ak) (mA : mg "_law_asked" = some (.ref ak))
  (GW : FnOk P w K mg base CX0 6 wr wrd ["text"] spLwr) (bW : Binds K wrd ["text"] []) (kW : Kee K wr) (mW : mg "_law_writes" = some (.ref wr))
  (GD : FnOk P w K mg base CX0 6 bd bdd ["plan", "cell"] spBad) (bD : Binds K bdd ["plan", "cell"] []) (kD : Kee K bd) (mD : mg "_law_bad" = some (.ref bd))
  (GM : FnOk P w K mg base CX0 6 mp mpd ["cell", "most"] spMp) (bM : Binds K mpd ["cell", "most"] []) (kM : Kee K mp) (mM : mg "_law_plan" = some (.ref mp))
  (GX : FnOk P w K mg base CX0 6 mx mxd ["cell", "k"] spMix) (bX : Binds K mxd ["cell", "k"] []) (kX : Kee K mx) (mX : mg "_law_mixed" = some (.ref mx)) : FnOk P w K mg base CX0 7 f fd ["script"] (spLaw K) := by
 refine F.ok scLaw (fun vs H Q E h => ?_) (fun cdv A outer s H vs Q E hr h => ?_)
 ·obtain ⟨a, ns, rfl, _⟩ := h
  rfl
 obtain ⟨a0, ns0, rfl, hS, h63, q⟩ := h
 refine ⟨_, (QSs.h (qss_cons (QS.mk (ps_for PassesOwn.never rfl (pi_range1 rfl B.range (QA.h (qa_cons (QE.mk (pe_callB (call_max2 rfl) rfl B.max boot_max (QA.h (qa_cons (QE.mk pe_int) (qa_cons (QE.mk (pe_callB (call_min2 rfl) rfl B.min boot_min (QA.h (qa_cons (QE.mk (pe_callB call_len_seq rfl B.len PySem.boot_len (QA.h (qa_cons (QE.mk (pv 0)) qa_nil)))) (qa_cons (QE.mk pe_int) qa_nil))))) qa_nil))))) qa_nil))) (pg_name (i := 1) scLaw.nd rfl (Or.inl rfl)) (@pss_cons _ _ _ _ _ (ps_set (i := 2) scLaw.nd rfl (Or.inl rfl) (pe_callB call_abs rfl B.abs boot_abs (QA.h (qa_cons (QE.mk (pe_call GC hr rfl mC kC bC .nil pass0 (QA.h (qa_cons (QE.mk (pv 0)) (qa_cons (QE.mk (pv 1)) qa_nil))))) qa_nil)))) (@pss_cons _ _ _ _ _ (ps_set (i := 3) scLaw.nd rfl (Or.inl rfl) (pe_call GG hr rfl mG kG bG .nil pass0 (QA.h (qa_cons (QE.mk (pv 2)) qa_nil)))) (@pss_cons _ _ _ _ _ (ps_set (i := 4) scLaw.nd rfl (Or.inl rfl) (pe_call GA hr rfl mA kA bA .nil pass0 (QA.h (qa_cons (QE.mk pe_int) (qa_cons (QE.mk (pv 3)) qa_nil))))) (@pss_cons _ _ _ _ _ (ps_if (pt_val (pe_call GW hr rfl mW kW bW .nil pass0 (QA.h (qa_cons (QE.mk (pv 3)) qa_nil)))) (@pss_one _ _ _ (ps_if (PW.pt (pw_or (pt_val (pe_ix ix_list (pv 4) pe_int (fun _ _ => rfl))) (pw_or1 (pt_cmpR (op_neD hr.units) (pe_call GA hr rfl mA kA bA .nil pass0 (QA.h (qa_cons (QE.mk pe_int) (qa_cons (QE.mk (pe_ix ix_list (pv 4) pe_int (fun _ _ => rfl))) qa_nil)))) (pe_lst (QA.h (qa_cons (QE.mk pe_bl) (qa_cons (QE.mk (pv 3)) qa_nil)))) (nomark _))))) (@pss_one _ _ _ (ps_ret pe_bl)) pss_nil)) (@pss_one _ _ _ (ps_if (pt_cmpR (op_neD hr.units) (pv 4) (pe_lst (QA.h (qa_cons (QE.mk pe_bl) (qa_cons (QE.mk pe_str) qa_nil)))) (nomark _)) (@pss_one _ _ _ (ps_ret pe_bl)) pss_nil))) (@pss_cons _ _ _ _ _ (ps_set (i := 5) scLaw.nd rfl (Or.inl rfl) (pe_call GD hr rfl mD kD bD .nil pass0 (QA.h (qa_cons (QE.mk (pe_call GM hr rfl mM kM bM .nil pass0 (QA.h (qa_cons (QE.mk (pe_call GX hr rfl mX kX bX .nil pass0 (QA.h (qa_cons (QE.mk (pv 2)) (qa_cons (QE.mk pe_int) qa_nil))))) (qa_cons (QE.mk pe_int) qa_nil))))) (qa_cons (QE.mk (pe_call GX hr rfl mX kX bX .nil pass0 (QA.h (qa_cons (QE.mk (pv 2)) (qa_cons (QE.mk pe_int) qa_nil))))) qa_nil))))) (@pss_cons _ _ _ _ _ (ps_set (i := 6) scLaw.nd rfl (Or.inl rfl) (pe_callB (call_repr hr.units hr.gd) rfl B.repr boot_repr (QA.h (qa_cons (QE.mk (pv 5)) qa_nil)))) (@pss_one _ _ _ (ps_if (PW.pt (pw_or (pt_cmpR (op_neD hr.units) (pe_call GA hr rfl mA kA bA .nil pass0 (QA.h (qa_cons (QE.mk pe_int) (qa_cons (QE.mk (pv 5)) qa_nil)))) (pe_lst (QA.h (qa_cons (QE.mk pe_bl) (qa_cons (QE.mk pe_str) qa_nil)))) (nomark _)) (pw_or1 (pt_cmpR op_ne (pe_callB (call_repr hr.units hr.gd) rfl B.repr boot_repr (QA.h (qa_cons (QE.mk (pv 5)) qa_nil))) (pv 6) (nomark _))))) (@pss_one _ _ _ (ps_ret pe_bl)) pss_nil)))))))))) (qss_cons (qs_for PassesOwn.never rfl (qi_list (qe_lst (qa_cons (QE.mk pe_non) (qa_cons (QE.mk pe_int) (qa_cons (qe_lst (qa_cons (QE.mk pe_str) qa_nil)) (qa_cons (qe_tup (qa_cons (qe_lst (qa_cons (QE.mk pe_int) qa_nil)) (qa_cons (qe_lst qa_nil) qa_nil))) (qa_cons (QE.mk pe_bl) (qa_cons (QE.mk pe_dnewK) (qa_cons (QE.mk pe_int) qa_nil))))))))) (pg_name (i := 7) scLaw.nd rfl (Or.inl rfl)) (@pss_one _ _ _ (ps_if (pt_cmpR (op_neD hr.units) (pe_call GA hr rfl mA kA bA .nil pass0 (QA.h (qa_cons (QE.mk pe_int) (qa_cons (QE.mk (pv 7)) qa_nil)))) (pe_lst (QA.h (qa_cons (QE.mk pe_bl) (qa_cons (QE.mk pe_str) qa_nil)))) (nomark _)) (@pss_one _ _ _ (ps_ret pe_bl)) pss_nil))) (qss_one (QS.mk (ps_ret pe_bl)))))), ?_⟩
 have sml : (ns0.map V.int).length = ns0.length := List.length_map _
 refine seq_postT (fun σ' H' => ∃ (y1 y2 y3 y4 y5 y6 y7 : Option V), σ' = [some (.ref a0), y1, y2, y3, y4, y5, y6, y7]) (fun N hN => ?_) ?_
 ·refine ⟨_, rfl, a0, _, rfl, .inl hS, _, _, rfl, _, _, rfl, _, rfl, by rw [sml]; split <;> split <;> omega, by rw [sml]; split <;> split <;> omega, ?_⟩
  refine for_range (lo := 0) (n := _) (fun i σ H' => ∃ (y1 y2 y3 y4 y5 y6 y7 : Option V), σ = [some (.ref a0), y1, y2, y3, y4, y5, y6, y7] ∧ Same H H') ⟨_, _, _, _, _, _, _, rfl, Same.rfl'⟩ ?_ ?_
  ·rintro i σ HA hi ⟨y1, y2, y3, y4, y5, y6, y7, rfl, gA⟩
   have hi64 : i < 64 := by rw [sml] at hi; split at hi <;> (try split at hi) <;> omega
   refine ⟨_, rfl, _, rfl, a0, ns0, _, rfl, gA.seq hS, by omega, by omega, fun c0 => ⟨c0, rfl, ?_⟩⟩
   have cp : 0 ≤ (if c0 < 0 then -c0 else c0 : Int) := by split <;> omega
   dsimp only [gName, List.set]
   generalize (if c0 < 0 then -c0 else c0 : Int) = cell at cp ⊢
   refine ⟨_, rfl, cell, rfl, cp, fun z HB gB zl => ?_⟩
   obtain ⟨r, rd⟩ := rd_some z
   have wr := rd_wr rd
   have gAB := gA.trans gB
   dsimp only [gName, List.set]
   refine seq_postT (fun σ' H' => ∃ l, σ' = [some (.ref a0), some (.int (0 + (i : Int))), some (.int cell), some (.str z), some (.ref l), y5, y6, y7] ∧ Same H H' ∧ ((r = none ∧ H' l = some (.lst [.bl true, .str "text"])) ∨ ∃ ns ss t a b, r = some (ns, ss) ∧ IsPl H' t a b ns ss ∧ H' l = some (.lst [.bl false, .ref t]))) (fun N2 hN2 => ?_) ?_
   ·refine ⟨_, rfl, 0, .str z, .str z, rfl, .str z, .inl ⟨rfl, fun z' e => ?_, r, rd, fun en l HC gC eC => hN2 _ _ ⟨l, rfl, gAB.trans gC, .inl ⟨en, eC⟩⟩, fun ns ss er l t a b HC gC pl eC => hN2 _ _ ⟨l, rfl, gAB.trans gC, .inr ⟨ns, ss, t, a, b, er, pl, eC⟩⟩⟩⟩
    cases e
    exact zl
   rintro σ2 HC ⟨l, rfl, gC, fd⟩
   refine seq_postT (fun σ' H' => σ' = [some (.ref a0), some (.int (0 + (i : Int))), some (.int cell), some (.str z), some (.ref l), y5, y6, y7] ∧ Same H H') (fun N2 hN2 => ?_) ?_
   ·refine ⟨_, rfl, z, rfl, zl, fun HD gD => ⟨_, rfl, ?_⟩⟩
    rw [wr]
    rcases fd with ⟨er, el⟩ | ⟨ns, ss, t, a, b, er, pl, el⟩
    ·rw [er]
     refine iteF ?_
     refine ⟨_, rfl, two_le, fun l2 hl2 => ?_⟩
     have g2 := Same.new hl2 (.lst [.bl true, .str "text"])
     refine ⟨true, rcv_bs (g2 _ _ (gD _ _ el)) upd_same, _, rfl, iteF ?_⟩
     exact hN2 _ _ ⟨rfl, gC.trans (gD.trans g2)⟩
    ·rw [er]
     refine iteT ?_
     subst er
     obtain ⟨eb, rise⟩ := rd_back rd
     obtain ⟨wn, ws⟩ := rd_wid rd zl
     refine ⟨_, rfl, l, _, 0, _, rfl, rfl, SqL.of (gD _ _ el), rfl, _, rfl, iteF ?_⟩
     refine ⟨_, rfl, l, _, 1, _, rfl, rfl, SqL.of (gD _ _ el), rfl, 1, .ref t, plDt ns ss, rfl, (pl.same gD).dt, .inr ⟨rfl, fun c => ?_, fun ns' ss' e' _ => ?_⟩⟩
     ·rw [planD_rise, rise] at c
      cases c
     obtain ⟨e1, e2⟩ := plDt_inj e'
     subst e1 e2
     refine ⟨wn, ws, fun l2 HE gE eE => ?_⟩
     rw [eb] at eE
     refine ⟨_, rfl, two_le, fun l3 hl3 => ?_⟩
     have g3 := Same.new hl3 (.lst [.bl false, .str z])
     refine ⟨true, rcv_bs (g3 _ _ eE) upd_same, _, rfl, iteF ?_⟩
     exact hN2 _ _ ⟨rfl, gC.trans (gD.trans (gE.trans g3))⟩
   rintro σ3 HD ⟨rfl, gD⟩
   refine seq_postT (fun σ' H' => ∃ v, σ' = [some (.ref a0), some (.int (0 + (i : Int))), some (.int cell), some (.str z), some (.ref l), some v, y6, y7] ∧ Same H H' ∧ NP H' v) (fun N2 hN2 => ?_) ?_
   ·refine ⟨_, rfl, cell, 5, rfl, by decide, by decide, fun r1 HE gE r10 r11 => ⟨r1, rfl, r10, fun t a b ns ss HF gF nt na nb ab pl sn sss => ?_⟩⟩
    refine ⟨_, rfl, cell, 6, rfl, by decide, by decide, fun r2 HG gG r20 r21 => ?_⟩
    exact ⟨t, a, b, ns, ss, r2, rfl, pl.same gG, sn, sss, r20, fun v HI gI np => hN2 _ _ ⟨v, rfl, gD.trans (gE.trans (gF.trans (gG.trans gI))), np⟩⟩
   rintro σ4 HE ⟨v, rfl, gE, d, hd, fine, nopl⟩
   refine ⟨_, rfl, v, d, rfl, hd, fine.show_, Nat.le_trans fine.deep (by decide), fine.len (by decide), ?_⟩
   refine ⟨_, rfl, 1, v, d, rfl, hd, .inr ⟨rfl, fun _ l2 HF gF eF => ?_, fun ns ss e c => ?_⟩⟩
   ·refine ⟨two_le, fun l3 hl3 => ?_⟩
    have g3 := Same.new hl3 (.lst [.bl true, .str "plan"])
    refine ⟨true, rcv_bs (g3 _ _ eF) upd_same, _, rfl, iteF ?_⟩
    refine ⟨_, rfl, v, d, rfl, hd.same (gF.trans g3), fine.show_, Nat.le_trans fine.deep (by decide), fine.len (by decide), _, rfl, rfl, _, rfl, ?_⟩
    rw [show (!decide (V.str d.shown = V.str d.shown)) = false by rw [decide_eq_true rfl]; rfl]
    refine iteF ?_
    exact ⟨_, _, _, _, _, _, _, rfl, gE.trans (gF.trans g3)⟩
   ·rw [nopl] at c
    cases c
  ·rintro σ HA ⟨y1, y2, y3, y4, y5, y6, y7, rfl, _⟩
   exact hN _ _ ⟨_, _, _, _, _, _, _, rfl⟩
 rintro σ1 H1 ⟨y1, y2, y3, y4, y5, y6, y7, rfl⟩
 refine ⟨(by show 1 ≤ sizeLine; decide), fun q1 hq1 => ?_⟩
 have s1 := Same.new hq1 (.lst [.str "1:"])
 have e1 : upd H1 q1 (.lst [.str "1:"]) q1 = some (.lst [.str "1:"]) := upd_same
 generalize upd H1 q1 (.lst [.str "1:"]) = H2 at s1 e1 ⊢
 refine ⟨(by show 1 ≤ sizeLine; decide), fun q2 hq2 => ?_⟩
 have s2 := Same.new hq2 (.lst [.int 1])
 have e2 : upd H2 q2 (.lst [.int 1]) q2 = some (.lst [.int 1]) := upd_same
 generalize upd H2 q2 (.lst [.int 1]) = H3 at s2 e2 ⊢
 refine ⟨(by show 0 ≤ sizeLine; decide), fun q3 hq3 => ?_⟩
 have s3 := Same.new hq3 (.lst [])
 have e3 : upd H3 q3 (.lst []) q3 = some (.lst []) := upd_same
 generalize upd H3 q3 (.lst []) = H4 at s3 e3 ⊢
 refine ⟨two_le, fun q4 hq4 => ?_⟩
 have s4 := Same.new hq4 (.tup [.ref q2, .ref q3])
 have e4 : upd H4 q4 (.tup [.ref q2, .ref q3]) q4 = some (.tup [.ref q2, .ref q3]) := upd_same
 generalize upd H4 q4 (.tup [.ref q2, .ref q3]) = H5 at s4 e4 ⊢
 intro q5 hq5
 have s5 := Same.new hq5 (.dK [])
 have e5 : upd H5 q5 (.dK []) q5 = some (.dK []) := upd_same
 generalize upd H5 q5 (.dK []) = H6 at s5 e5 ⊢
 refine ⟨(by show 7 ≤ sizeLine; decide), fun q6 hq6 => ?_⟩
 have s6 := Same.new hq6 (.lst [.non, .int 0, .ref q1, .ref q4, .bl true, .ref q5, .int 2])
 have e6 : upd H6 q6 (.lst [.non, .int 0, .ref q1, .ref q4, .bl true, .ref q5, .int 2]) q6 = some (.lst [.non, .int 0, .ref q1, .ref q4, .bl true, .ref q5, .int 2]) := upd_same
 generalize upd H6 q6 (.lst [.non, .int 0, .ref q1, .ref q4, .bl true, .ref q5, .int 2]) = H7 at s6 e6 ⊢
 have f5 := s6 _ _ e5
 have f4 := s6 _ _ (s5 _ _ e4)
 have f3 := s6 _ _ (s5 _ _ (s4 _ _ e3))
 have f2 := s6 _ _ (s5 _ _ (s4 _ _ (s3 _ _ e2)))
 have f1 := s6 _ _ (s5 _ _ (s4 _ _ (s3 _ _ (s2 _ _ e1))))
 refine ⟨q6, rfl, ⟨_, SqL.of e6⟩, ?_⟩
 refine for_list (xs := [.non, .int 0, .ref q1, .ref q4, .bl true, .ref q5, .int 2]) (fun i σ H' => ∃ y8 : Option V, σ = [some (.ref a0), y1, y2, y3, y4, y5, y6, y8] ∧ Same H7 H') ⟨_, rfl, Same.rfl'⟩ (fun i σ H' _ ⟨_, _, g⟩ => SqL.of (g _ _ e6)) ?_ ?_
 ·rintro i x σ H8 hxi ⟨y8, rfl, g8⟩
  have mx := List.mem_of_getElem? hxi
  have hx : ∃ d, Dat H8 x d ∧ isS d = false := by
   simp only [List.mem_cons, List.not_mem_nil, or_false] at mx
   rcases mx with e | e | e | e | e | e | e <;> rw [e]
   ·exact ⟨_, .non, rfl⟩
   ·exact ⟨_, .int 0, rfl⟩
   ·exact ⟨_, .lst (g8 _ _ f1) (.cons (.str "1:") .nil), rfl⟩
   ·exact ⟨_, .tup (g8 _ _ f4) (.cons (.lst (g8 _ _ f2) (.cons (.int 1) .nil)) (.cons (.lst (g8 _ _ f3) .nil) .nil)), rfl⟩
   ·exact ⟨_, .bl true, rfl⟩
   ·exact ⟨_, .dct (g8 _ _ f5), rfl⟩
   ·exact ⟨_, .int 2, rfl⟩
  obtain ⟨d, hd, ns⟩ := hx
  refine ⟨_, rfl, 0, x, d, rfl, hd, .inl ⟨rfl, fun z e => ?_, none, ?_, fun _ l2 H9 g9 e9 => ?_, fun _ _ z => nomatch z⟩⟩
  ·rw [e] at ns
   cases ns
  ·cases d <;> first | rfl | cases ns
  refine ⟨two_le, fun l3 hl3 => ?_⟩
  have g3 := Same.new hl3 (.lst [.bl true, .str "text"])
  refine ⟨true, rcv_bs (g3 _ _ e9) upd_same, _, rfl, iteF ?_⟩
  exact ⟨_, rfl, g8.trans (g9.trans g3)⟩
 ·rintro σ H8 ⟨y8, rfl, g8⟩
  exact q _
end
theorem all_mk {l : PySem.W.OpenLaw} {w : World} {K : PySem.W.Frag} {h : Heap} {mg : Str → Option Value} {fa f1 f2 f3 f4 f5 f6 f7 f8 f9 f10 f11 f12 f13 f14 f15 f16 f17 f18 f19 f20 f21  x0 x1 x2 x3 x4 x5 x6 x7 x8 x9 x10 x11 XS : Addr} (X : K.In h) (G : h.Ns mainGlobals mg) (hfa : mg "law" = some (.ref fa))
  {od1 an1 od2 an2 od3 an3 od4 an4 od5 an5 od6 an6 od7 an7 od8 an8 od9 an9 od10 an10 od11 an11 od12 an12 od13 an13 od14 an14 od15 an15 od16 an16 od17 an17 od18 an18 od19 an19 od20 an20 od21 an21 : Option Addr} {sl1 sl2 sl3 sl4 sl5 sl6 sl7 sl8 sl9 sl10 sl11 sl12 sl13 sl14 sl15 sl16 sl17 sl18 sl19 sl20 sl21 : Array (Option Value)} {oc1 kV1 dc1 pm1 cd1 ct1 oc2 kV2 dc2 pm2 cd2 ct2 oc3 kV3 dc3 pm3 cd3 ct3 oc4 kV4 dc4 pm4 cd4 ct4 oc5 kV5 dc5 pm5 cd5 ct5 oc6 kV6 dc6 pm6 cd6 ct6 oc7 kV7 dc7 pm7 cd7 ct7 oc8 kV8 dc8 pm8 cd8 ct8 oc9 kV9 dc9 pm9 cd9 ct9 oc10 kV10 dc10 pm10 cd10 ct10 oc11 kV11 dc11 pm11 cd11 ct11 oc12 kV12 dc12 pm12 cd12 ct12 oc13 kV13 dc13 pm13 cd13 ct13 oc14 kV14 dc14 pm14 cd14 ct14 oc15 kV15 dc15 pm15 cd15 ct15 oc16 kV16 dc16 pm16 cd16 ct16 oc17 kV17 dc17 pm17 cd17 ct17 oc18 kV18 dc18 pm18 cd18 ct18 oc19 kV19 dc19 pm19 cd19 ct19 oc20 kV20 dc20 pm20 cd20 ct20 oc21 kV21 dc21 pm21 cd21 ct21 : Value}
  {t1 t2 : Tok}
  (a1 : PySem.W.nsIn K mainGlobals "is_whole" = some (some (.ref f1))) (l1 : K.lookup f1 = some ⟨oc1, od1, .func (PySem.W.fnOf "is_whole" "is_whole" (defArgs sWhole) (defBody sWhole) (defScope sWhole) .none kV1 dc1 pm1 an1 cd1 ct1), sl1⟩) (c1 : PySem.W.codeIn K cd1 "is_whole" = true) (k1 : PySem.W.keepIn K (.ref f1) = true)
  (a2 : PySem.W.nsIn K mainGlobals "is_rising_list" = some (some (.ref f2))) (l2 : K.lookup f2 = some ⟨oc2, od2, .func (PySem.W.fnOf "is_rising_list" "is_rising_list" (defArgs sRise) (defBody sRise) (defScope sRise) .none kV2 dc2 pm2 an2 cd2 ct2), sl2⟩) (c2 : PySem.W.codeIn K cd2 "is_rising_list" = true) (k2 : PySem.W.keepIn K (.ref f2) = true)
  (a3 : PySem.W.nsIn K mainGlobals "is_plan" = some (some (.ref f3))) (l3 : K.lookup f3 = some ⟨oc3, od3, .func (PySem.W.fnOf "is_plan" "is_plan" (defArgs sIsP) (defBody sIsP) (defScope sIsP) .none kV3 dc3 pm3 an3 cd3 ct3), sl3⟩) (c3 : PySem.W.codeIn K cd3 "is_plan" = true) (k3 : PySem.W.keepIn K (.ref f3) = true)
  (a4 : PySem.W.nsIn K mainGlobals "check_plan" = some (some (.ref f4))) (l4 : K.lookup f4 = some ⟨oc4, od4, .func (PySem.W.fnOf "check_plan" "check_plan" (defArgs sCkP) (defBody sCkP) (defScope sCkP) .none kV4 dc4 pm4 an4 cd4 ct4), sl4⟩) (c4 : PySem.W.codeIn K cd4 "check_plan" = true) (k4 : PySem.W.keepIn K (.ref f4) = true)
  (a5 : PySem.W.nsIn K mainGlobals "is_written_number" = some (some (.ref f5))) (l5 : K.lookup f5 = some ⟨oc5, od5, .func (PySem.W.fnOf "is_written_number" "is_written_number" (defArgs sWr) (defBody sWr) (defScope sWr) .none kV5 dc5 pm5 an5 cd5 ct5), sl5⟩) (c5 : PySem.W.codeIn K cd5 "is_written_number" = true) (k5 : PySem.W.keepIn K (.ref f5) = true)
  (a6 : PySem.W.nsIn K mainGlobals "with_blanks" = some (some (.ref f6))) (l6 : K.lookup f6 = some ⟨oc6, od6, .func (PySem.W.fnOf "with_blanks" "with_blanks" (defArgs sWb) (defBody sWb) (defScope sWb) .none kV6 dc6 pm6 an6 cd6 ct6), sl6⟩) (c6 : PySem.W.codeIn K cd6 "with_blanks" = true) (k6 : PySem.W.keepIn K (.ref f6) = true)
  (a7 : PySem.W.nsIn K mainGlobals "show_plan" = some (some (.ref f7))) (l7 : K.lookup f7 = some ⟨oc7, od7, .func (PySem.W.fnOf "show_plan" "show_plan" (defArgs sShow) (defBody sShow) (defScope sShow) .none kV7 dc7 pm7 an7 cd7 ct7), sl7⟩) (c7 : PySem.W.codeIn K cd7 "show_plan" = true) (k7 : PySem.W.keepIn K (.ref f7) = true)
  (a8 : PySem.W.nsIn K mainGlobals "numbers_in" = some (some (.ref f8))) (l8 : K.lookup f8 = some ⟨oc8, od8, .func (PySem.W.fnOf "numbers_in" "numbers_in" (defArgs sNin) (defBody sNin) (defScope sNin) .none kV8 dc8 pm8 an8 cd8 ct8), sl8⟩) (c8 : PySem.W.codeIn K cd8 "numbers_in" = true) (k8 : PySem.W.keepIn K (.ref f8) = true)
  (a9 : PySem.W.nsIn K mainGlobals "sum_words" = some (some (.ref f9))) (l9 : K.lookup f9 = some ⟨oc9, od9, .func (PySem.W.fnOf "sum_words" "sum_words" (defArgs sSw) (defBody sSw) (defScope sSw) .none kV9 dc9 pm9 an9 cd9 ct9), sl9⟩) (c9 : PySem.W.codeIn K cd9 "sum_words" = true) (k9 : PySem.W.keepIn K (.ref f9) = true)
  (a10 : PySem.W.nsIn K mainGlobals "read_plan" = some (some (.ref f10))) (l10 : K.lookup f10 = some ⟨oc10, od10, .func (PySem.W.fnOf "read_plan" "read_plan" (defArgs sRead) (defBody sRead) (defScope sRead) .none kV10 dc10 pm10 an10 cd10 ct10), sl10⟩) (c10 : PySem.W.codeIn K cd10 "read_plan" = true) (k10 : PySem.W.keepIn K (.ref f10) = true)
  (a11 : PySem.W.nsIn K mainGlobals "_law_cell" = some (some (.ref f11))) (l11 : K.lookup f11 = some ⟨oc11, od11, .func (PySem.W.fnOf "_law_cell" "_law_cell" (defArgs sCell) (defBody sCell) (defScope sCell) .none kV11 dc11 pm11 an11 cd11 ct11), sl11⟩) (c11 : PySem.W.codeIn K cd11 "_law_cell" = true) (k11 : PySem.W.keepIn K (.ref f11) = true)
  (a12 : PySem.W.nsIn K mainGlobals "_law_mixed" = some (some (.ref f12))) (l12 : K.lookup f12 = some ⟨oc12, od12, .func (PySem.W.fnOf "_law_mixed" "_law_mixed" (defArgs sMix) (defBody sMix) (defScope sMix) .none kV12 dc12 pm12 an12 cd12 ct12), sl12⟩) (c12 : PySem.W.codeIn K cd12 "_law_mixed" = true) (k12 : PySem.W.keepIn K (.ref f12) = true)
  (a13 : PySem.W.nsIn K mainGlobals "_law_plan" = some (some (.ref f13))) (l13 : K.lookup f13 = some ⟨oc13, od13, .func (PySem.W.fnOf "_law_plan" "_law_plan" (defArgs sMp) (defBody sMp) (defScope sMp) .none kV13 dc13 pm13 an13 cd13 ct13), sl13⟩) (c13 : PySem.W.codeIn K cd13 "_law_plan" = true) (k13 : PySem.W.keepIn K (.ref f13) = true)
  (a14 : PySem.W.nsIn K mainGlobals "_law_written" = some (some (.ref f14))) (l14 : K.lookup f14 = some ⟨oc14, od14, .func (PySem.W.fnOf "_law_written" "_law_written" (defArgs sWn) (defBody sWn) (defScope sWn) .none kV14 dc14 pm14 an14 cd14 ct14), sl14⟩) (c14 : PySem.W.codeIn K cd14 "_law_written" = true) (k14 : PySem.W.keepIn K (.ref f14) = true)
  (a15 : PySem.W.nsIn K mainGlobals "_law_numbers" = some (some (.ref f15))) (l15 : K.lookup f15 = some ⟨oc15, od15, .func (PySem.W.fnOf "_law_numbers" "_law_numbers" (defArgs sLn) (defBody sLn) (defScope sLn) .none kV15 dc15 pm15 an15 cd15 ct15), sl15⟩) (c15 : PySem.W.codeIn K cd15 "_law_numbers" = true) (k15 : PySem.W.keepIn K (.ref f15) = true)
  (a16 : PySem.W.nsIn K mainGlobals "_law_writes" = some (some (.ref f16))) (l16 : K.lookup f16 = some ⟨oc16, od16, .func (PySem.W.fnOf "_law_writes" "_law_writes" (defArgs sLwr) (defBody sLwr) (defScope sLwr) .none kV16 dc16 pm16 an16 cd16 ct16), sl16⟩) (c16 : PySem.W.codeIn K cd16 "_law_writes" = true) (k16 : PySem.W.keepIn K (.ref f16) = true)
  (a17 : PySem.W.nsIn K mainGlobals "_law_odd" = some (some (.ref f17))) (l17 : K.lookup f17 = some ⟨oc17, od17, .func (PySem.W.fnOf "_law_odd" "_law_odd" (defArgs sOdd) (defBody sOdd) (defScope sOdd) .none kV17 dc17 pm17 an17 cd17 ct17), sl17⟩) (c17 : PySem.W.codeIn K cd17 "_law_odd" = true) (k17 : PySem.W.keepIn K (.ref f17) = true)
  (a18 : PySem.W.nsIn K mainGlobals "_law_given" = some (some (.ref f18))) (l18 : K.lookup f18 = some ⟨oc18, od18, .func (PySem.W.fnOf "_law_given" "_law_given" (defArgs sGiv) (defBody sGiv) (defScope sGiv) .none kV18 dc18 pm18 an18 cd18 ct18), sl18⟩) (c18 : PySem.W.codeIn K cd18 "_law_given" = true) (k18 : PySem.W.keepIn K (.ref f18) = true)
  (a19 : PySem.W.nsIn K mainGlobals "_law_asked" = some (some (.ref f19))) (l19 : K.lookup f19 = some ⟨oc19, od19, .func (PySem.W.fnOf "_law_asked" "_law_asked" (defArgs sAsk) (defBody sAsk) (defScope sAsk) .none kV19 dc19 pm19 an19 cd19 ct19), sl19⟩) (c19 : PySem.W.codeIn K cd19 "_law_asked" = true) (k19 : PySem.W.keepIn K (.ref f19) = true)
  (a20 : PySem.W.nsIn K mainGlobals "_law_bad" = some (some (.ref f20))) (l20 : K.lookup f20 = some ⟨oc20, od20, .func (PySem.W.fnOf "_law_bad" "_law_bad" (defArgs sBad) (defBody sBad) (defScope sBad) .none kV20 dc20 pm20 an20 cd20 ct20), sl20⟩) (c20 : PySem.W.codeIn K cd20 "_law_bad" = true) (k20 : PySem.W.keepIn K (.ref f20) = true)
  (a21 : PySem.W.nsIn K mainGlobals "law" = some (some (.ref f21))) (l21 : K.lookup f21 = some ⟨oc21, od21, .func (PySem.W.fnOf "law" "law" (defArgs sLaw) (defBody sLaw) (defScope sLaw) .none kV21 dc21 pm21 an21 cd21 ct21), sl21⟩) (c21 : PySem.W.codeIn K cd21 "law" = true) (k21 : PySem.W.keepIn K (.ref f21) = true)
  (m1 : PySem.W.nsIn K mainGlobals "MOST" = some (some (.int 10 t1)))
  (m2 : PySem.W.nsIn K mainGlobals "FIGURES" = some (some (.str (Str.ofString "0123456789") t2)))
  (ax0 : PySem.W.nsIn K mainGlobals "NoPlan" = some (some (.ref x0)))
  (ax1 : PySem.W.nsIn K mainGlobals "NoNumber" = some (some (.ref x1)))
  (ax2 : PySem.W.nsIn K mainGlobals "NoKind" = some (some (.ref x2)))
  (ax3 : PySem.W.nsIn K mainGlobals "NoPlace" = some (some (.ref x3)))
  (ax4 : PySem.W.nsIn K mainGlobals "NoRow" = some (some (.ref x4)))
  (ax5 : PySem.W.nsIn K mainGlobals "NoCut" = some (some (.ref x5)))
  (ax6 : PySem.W.nsIn K mainGlobals "NoPart" = some (some (.ref x6)))
  (ax7 : PySem.W.nsIn K mainGlobals "NoSum" = some (some (.ref x7)))
  (ax8 : PySem.W.nsIn K mainGlobals "TooMany" = some (some (.ref x8)))
  (ax9 : PySem.W.nsIn K mainGlobals "NoText" = some (some (.ref x9)))
  (ax10 : PySem.W.nsIn K mainGlobals "NoName" = some (some (.ref x10)))
  (ax11 : PySem.W.nsIn K mainGlobals "NoSaying" = some (some (.ref x11)))
  (axS : PySem.W.nsIn K mainGlobals "SumError" = some (some (.ref XS)))
  (gaP : PySem.W.findIn K (.ref x0) "__getattribute__" = some (some (.builtin "BaseException.__getattribute__")))
  (ghP : PySem.W.findIn K (.ref x0) "__getattr__" = some none)
  (caP : PySem.W.findIn K (.ref x0) "__class__" = some (some (.builtin "object.__class__")))
  (obP : PySem.W.mroIn K x0 (.type "object") = some true)
  (beP : PySem.W.mroIn K x0 (.type "BaseException") = some true)
  (clP : (PySem.W.clsIn K x0).isSome = true)
  (vvP : PySem.W.kitOne K (.ref x0) (.type "ValueError") = some true)
  (emP : PySem.W.exmOne K (.ref x0) (.ref XS) = some true)
  (eiP : PySem.W.excIn K x0 [.type "ValueError", .type "Exception", .type "BaseException", .type "object"] "ValueError.__new__" = true)
  (kkP : [x0, x1, x2, x3, x4, x5, x6, x7, x8, x9, x10, x11].map (fun x => PySem.W.kitOne K (.ref x0) (.ref x)) = (List.range 12).map fun i : Nat => some (decide ((i : Int) = 0)))
  (gaT : PySem.W.findIn K (.ref x9) "__getattribute__" = some (some (.builtin "BaseException.__getattribute__")))
  (ghT : PySem.W.findIn K (.ref x9) "__getattr__" = some none)
  (caT : PySem.W.findIn K (.ref x9) "__class__" = some (some (.builtin "object.__class__")))
  (obT : PySem.W.mroIn K x9 (.type "object") = some true)
  (beT : PySem.W.mroIn K x9 (.type "BaseException") = some true)
  (clT : (PySem.W.clsIn K x9).isSome = true)
  (vvT : PySem.W.kitOne K (.ref x9) (.type "ValueError") = some true)
  (emT : PySem.W.exmOne K (.ref x9) (.ref XS) = some true)
  (eiT : PySem.W.excIn K x9 [.type "ValueError", .type "Exception", .type "BaseException", .type "object"] "ValueError.__new__" = true)
  (kkT : [x0, x1, x2, x3, x4, x5, x6, x7, x8, x9, x10, x11].map (fun x => PySem.W.kitOne K (.ref x9) (.ref x)) = (List.range 12).map fun i : Nat => some (decide ((i : Int) = 9)))
  (hn_ : PySem.W.specialIn K (.builtin "object.__class__") "__get__" = some (some (.builtin "getset_descriptor.__get__"))) (htk_ : PySem.W.takesIn K (.builtin "object.__class__") = some true)
  (z1 : PySem.W.nsIn K mainGlobals "len" = some none)
  (z2 : PySem.W.nsIn K mainGlobals "max" = some none)
  (z3 : PySem.W.nsIn K mainGlobals "min" = some none)
  (z4 : PySem.W.nsIn K mainGlobals "range" = some none)
  (z5 : PySem.W.nsIn K mainGlobals "list" = some none)
  (z6 : PySem.W.nsIn K mainGlobals "int" = some none)
  (z7 : PySem.W.nsIn K mainGlobals "all" = some none)
  (z8 : PySem.W.nsIn K mainGlobals "isinstance" = some none)
  (z9 : PySem.W.nsIn K mainGlobals "bool" = some none)
  (z10 : PySem.W.nsIn K mainGlobals "str" = some none)
  (z11 : PySem.W.nsIn K mainGlobals "tuple" = some none)
  (z12 : PySem.W.nsIn K mainGlobals "sorted" = some none)
  (z13 : PySem.W.nsIn K mainGlobals "enumerate" = some none)
  (z14 : PySem.W.nsIn K mainGlobals "abs" = some none)
  (z15 : PySem.W.nsIn K mainGlobals "set" = some none)
  (z16 : PySem.W.nsIn K mainGlobals "repr" = some none)
  (z17 : PySem.W.nsIn K mainGlobals "ValueError" = some none)
  : ∃ fd : FuncData, (∀ (s : Shared) (v : Value), BindsTo s fd ⟨[v], []⟩ [("script", v)]) ∧ ∀ base : Heap, K.In base → base.Ns mainGlobals mg → FnOk l.prog w K mg base CX0 7 fa fd ["script"] (spLaw K) := by
 have e := hfa.symm.trans (PySem.W.mg_of X G a21)
 cases e
 have M : ∀ (x : Str) (v : Value), PySem.W.nsIn K mainGlobals x = some (some v) → mg x = some v := fun x v h => PySem.W.mg_of X G h
 have zb : ∀ x : Str, PySem.W.nsIn K mainGlobals x = some none → mg x = none := fun x h => PySem.W.mg_none_of X G h
 have F1 := fun_mk (st := sWhole) l1 c1 k1
 have b1 := F1.binds (ps := ["thing"]) fun _ _ _ _ _ _ us hl => match us, hl with | [_], _ => rfl
 have F2 := fun_mk (st := sRise) l2 c2 k2
 have b2 := F2.binds (ps := ["thing", "fewest"]) fun _ _ _ _ _ _ us hl => match us, hl with | [_, _], _ => rfl
 have F3 := fun_mk (st := sIsP) l3 c3 k3
 have b3 := F3.binds (ps := ["thing"]) fun _ _ _ _ _ _ us hl => match us, hl with | [_], _ => rfl
 have F4 := fun_mk (st := sCkP) l4 c4 k4
 have b4 := F4.binds (ps := ["plan"]) fun _ _ _ _ _ _ us hl => match us, hl with | [_], _ => rfl
 have F5 := fun_mk (st := sWr) l5 c5 k5
 have b5 := F5.binds (ps := ["word"]) fun _ _ _ _ _ _ us hl => match us, hl with | [_], _ => rfl
 have F6 := fun_mk (st := sWb) l6 c6 k6
 have b6 := F6.binds (ps := ["numbers"]) fun _ _ _ _ _ _ us hl => match us, hl with | [_], _ => rfl
 have F7 := fun_mk (st := sShow) l7 c7 k7
 have b7 := F7.binds (ps := ["plan"]) fun _ _ _ _ _ _ us hl => match us, hl with | [_], _ => rfl
 have F8 := fun_mk (st := sNin) l8 c8 k8
 have b8 := F8.binds (ps := ["words"]) fun _ _ _ _ _ _ us hl => match us, hl with | [_], _ => rfl
 have F9 := fun_mk (st := sSw) l9 c9 k9
 have b9 := F9.binds (ps := ["text"]) fun _ _ _ _ _ _ us hl => match us, hl with | [_], _ => rfl
 have F10 := fun_mk (st := sRead) l10 c10 k10
 have b10 := F10.binds (ps := ["text"]) fun _ _ _ _ _ _ us hl => match us, hl with | [_], _ => rfl
 have F11 := fun_mk (st := sCell) l11 c11 k11
 have b11 := F11.binds (ps := ["script", "k"]) fun _ _ _ _ _ _ us hl => match us, hl with | [_, _], _ => rfl
 have F12 := fun_mk (st := sMix) l12 c12 k12
 have b12 := F12.binds (ps := ["cell", "k"]) fun _ _ _ _ _ _ us hl => match us, hl with | [_, _], _ => rfl
 have F13 := fun_mk (st := sMp) l13 c13 k13
 have b13 := F13.binds (ps := ["cell", "most"]) fun _ _ _ _ _ _ us hl => match us, hl with | [_, _], _ => rfl
 have F14 := fun_mk (st := sWn) l14 c14 k14
 have b14 := F14.binds (ps := ["plan"]) fun _ _ _ _ _ _ us hl => match us, hl with | [_], _ => rfl
 have F15 := fun_mk (st := sLn) l15 c15 k15
 have b15 := F15.binds (ps := ["words", "least"]) fun _ _ _ _ _ _ us hl => match us, hl with | [_, _], _ => rfl
 have F16 := fun_mk (st := sLwr) l16 c16 k16
 have b16 := F16.binds (ps := ["text"]) fun _ _ _ _ _ _ us hl => match us, hl with | [_], _ => rfl
 have F17 := fun_mk (st := sOdd) l17 c17 k17
 have b17 := F17.binds (ps := ["cell"]) fun _ _ _ _ _ _ us hl => match us, hl with | [_], _ => rfl
 have F18 := fun_mk (st := sGiv) l18 c18 k18
 have b18 := F18.binds (ps := ["cell"]) fun _ _ _ _ _ _ us hl => match us, hl with | [_], _ => rfl
 have F19 := fun_mk (st := sAsk) l19 c19 k19
 have b19 := F19.binds (ps := ["ask", "thing"]) fun _ _ _ _ _ _ us hl => match us, hl with | [_, _], _ => rfl
 have F20 := fun_mk (st := sBad) l20 c20 k20
 have b20 := F20.binds (ps := ["plan", "cell"]) fun _ _ _ _ _ _ us hl => match us, hl with | [_, _], _ => rfl
 have F21 := fun_mk (st := sLaw) l21 c21 k21
 have b21 := F21.binds (ps := ["script"]) fun _ _ _ _ _ _ us hl => match us, hl with | [_], _ => rfl
 refine ⟨PySem.W.fnOf "law" "law" (defArgs sLaw) (defBody sLaw) (defScope sLaw) .none kV21 dc21 pm21 an21 cd21 ct21, fun s v => .of_eq rfl, fun base _ _ => ?_⟩
 have exP : ExD K [x0, x1, x2, x3, x4, x5, x6, x7, x8, x9, x10, x11] XS x0 0 := ⟨kkP, vvP, ⟨gaP, ghP, caP, obP, beP, clP, hn_, htk_⟩, emP, eiP, by decide⟩
 have exT : ExD K [x0, x1, x2, x3, x4, x5, x6, x7, x8, x9, x10, x11] XS x9 9 := ⟨kkT, vvT, ⟨gaT, ghT, caT, obT, beT, clT, hn_, htk_⟩, emT, eiT, by decide⟩
 have B3 : Bt3 mg := { len := zb "len" z1, max := zb "max" z2, min := zb "min" z3, range := zb "range" z4, list := zb "list" z5, int := zb "int" z6, all := zb "all" z7, isinstance := zb "isinstance" z8, bool := zb "bool" z9, str := zb "str" z10, tuple := zb "tuple" z11, sorted := zb "sorted" z12, enumerate := zb "enumerate" z13 }
 have B := B3.toBt2
 have BL : BtL mg := { B3 with abs := zb "abs" z14, repr := zb "repr" z16 }
 have T : ExT mg x0 x1 x2 x3 x4 x5 x6 x7 x8 x9 x10 x11 XS := ⟨M _ _ ax0, M _ _ ax1, M _ _ ax2, M _ _ ax3, M _ _ ax4, M _ _ ax5, M _ _ ax6, M _ _ ax7, M _ _ ax8, M _ _ ax9, M _ _ ax10, M _ _ ax11, M _ _ axS, zb "ValueError" z17⟩
 have OW := ok_wholeD (P := l.prog) (w := w) (base := base) F1 B
 have OR := ok_riseD F2 B (M _ _ m1) OW b1 k1 (M _ _ a1)
 have OI := ok_isPD F3 B OR b2 k2 (M _ _ a2)
 have OCX := ok_ckX F4 exP.i T.m0 OI b3 k3 (M _ _ a3)
 have OWR := ok_wr (P := l.prog) (w := w) (base := base) F5 B (M _ _ m2)
 have OWB := ok_wbW (P := l.prog) (w := w) (base := base) F6 B
 have OSH := ok_showX F7 B OCX b4 k4 (M _ _ a4) (OWB.mono (by decide)) b6 k6 (M _ _ a6)
 have ONI := ok_ninX F8 B exT.i T.m9 OWR b5 k5 (M _ _ a5)
 have OSW := ok_swX (P := l.prog) (w := w) (base := base) F9 exT.i T.m9
 have ORD := ok_readX F10 B exT.i T.m9 (ONI.mono (by decide)) b8 k8 (M _ _ a8) (OSW.mono (by decide)) b9 k9 (M _ _ a9) (OI.mono (by decide)) b3 k3 (M _ _ a3)
 have OCE := ok_cell (P := l.prog) (w := w) (base := base) F11 B3
 have OMX := ok_mix (P := l.prog) (w := w) (mg := mg) (base := base) F12
 have OMP := ok_mp F13 B (zb "set" z15) OMX b12 k12 (M _ _ a12)
 have OWN := ok_wn (P := l.prog) (w := w) (base := base) F14 B
 have OAK := ok_ask F19 B T T.mS exP exT ORD b10 k10 (M _ _ a10) OSH b7 k7 (M _ _ a7)
 have OLN := ok_ln (P := l.prog) (w := w) (base := base) F15 B (zb "set" z15)
 have OLW := ok_lwr F16 B OLN b15 k15 (M _ _ a15)
 have OOD := ok_odd (P := l.prog) (w := w) (mg := mg) (base := base) F17
 have OGI := ok_giv F18 B (OOD.mono (by decide)) b17 k17 (M _ _ a17) (OWN.mono (by decide)) b14 k14 (M _ _ a14) (OMP.mono (by decide)) b13 k13 (M _ _ a13) (OMX.mono (by decide)) b12 k12 (M _ _ a12)
 have OBD := ok_bad (P := l.prog) (w := w) (base := base) F20 B
 exact ok_law F21 BL (OCE.mono (by decide)) b11 k11 (M _ _ a11) (OGI.mono (by decide)) b18 k18 (M _ _ a18) OAK b19 k19 (M _ _ a19) (OLW.mono (by decide)) b16 k16 (M _ _ a16) (OBD.mono (by decide)) b20 k20 (M _ _ a20) (OMP.mono (by decide)) b13 k13 (M _ _ a13) (OMX.mono (by decide)) b12 k12 (M _ _ a12)
theorem walk {l : PySem.W.OpenLaw} {q : Program} {loose : List Str} {XP : (Str → Option Value) → Heap → Prop} {YP : World → Heap → Prop} {d : DefRec} {K : Params → PySem.W.Frag} (hn : l.most = some 63) (hdf : d.params.defaults = [])
  (hY : ∀ (w : World) (h : Heap), YP w h → (K w.params).In h)
  (F : ∀ (w : World) (mg : Str → Option Value) (fa : Addr) (h : Heap), (K w.params).In h → h.Ns mainGlobals mg → mg d.name = some (.ref fa) →
   ∃ fd : FuncData, (∀ (s : Shared) (u : Value), BindsTo s fd ⟨[u], []⟩ [("script", u)]) ∧ ∀ base : Heap, (K w.params).In base → base.Ns mainGlobals mg → FnOk l.prog w (K w.params) mg base CX0 7 fa fd ["script"] (spLaw (K w.params))) :
  PySem.W.WalkO q loose XP YP l.row.toRowW d [] (fun f vs => PySem.call f vs) :=
 L2.walk_of (n := 63) (k := 7) (x := "script") (CX := fun _ => CX0) (sp := fun w => spLaw (K w.params)) hn (by decide) hdf ⟨rfl, by decide, by decide, rfl⟩ hY F (fun _ _ a ns hl _ hS => ⟨a, ns, rfl, hS, hl, fun _ => rfl⟩) fun _ _ _ _ _ z => z
end N46
def PySem.W.Fast.tw12897150611771765037 : Nat := 0
def PySem.W.Fast.tw14629282161508021356 : Nat := 0
def PySem.W.Fast.tw6129137129184707647 : Nat := 0
def PySem.W.Fast.tw8308381778366746954 : Nat := 0
def PySem.W.Fast.tw13356272588351780852 : Nat := 0
def PySem.W.Fast.tw12987966172620679054 : Nat := 0
def PySem.W.Fast.tw10348286397294906605 : Nat := 0
def PySem.W.Fast.tw4909312553539576737 : Nat := 0
def PySem.W.Fast.tw5965695740623453795 : Nat := 0
def PySem.W.Fast.tw14792696252711973395 : Nat := 0
def PySem.W.Fast.tw13975851202922560799 : Nat := 0
def PySem.W.Fast.tw22667723436569062 : Nat := 0
def PySem.W.Fast.tw10713739594469060591 : Nat := 0
def PySem.W.Fast.tw7245141935580366341 : Nat := 0
def PySem.W.Fast.tw10797464993430947463 : Nat := 0
def PySem.W.Fast.tw5101858353331936642 : Nat := 0
def PySem.W.Fast.tw9787802456792901245 : Nat := 0
def PySem.W.Fast.tw9494880508128238000 : Nat := 0
open PySem PySem.W PyProof.Rows
set_option maxRecDepth 100000 in
set_option maxHeartbeats 0 in
theorem PySem.Challenge.cw_nearsums_k46_texts_that_write_no_plan_holds : PySem.Challenge.rw_nearsums_k46_texts_that_write_no_plan.Holds := by
 w_on; o_law; k_head; (case hw => w_witness2)
 k_fill
 refine N46.walk (l := PySem.Challenge.rw_nearsums_k46_texts_that_write_no_plan) rfl rfl (fun w h Y => PySem.W.kIn_of Y) ?F
 case F =>
  intro w mg fa h KX G hmg
  refine' N46.all_mk KX G hmg ?a1 ?l1 ?c1 ?k1 ?a2 ?l2 ?c2 ?k2 ?a3 ?l3 ?c3 ?k3 ?a4 ?l4 ?c4 ?k4 ?a5 ?l5 ?c5 ?k5 ?a6 ?l6 ?c6 ?k6 ?a7 ?l7 ?c7 ?k7 ?a8 ?l8 ?c8 ?k8 ?a9 ?l9 ?c9 ?k9 ?a10 ?l10 ?c10 ?k10 ?a11 ?l11 ?c11 ?k11 ?a12 ?l12 ?c12 ?k12 ?a13 ?l13 ?c13 ?k13 ?a14 ?l14 ?c14 ?k14 ?a15 ?l15 ?c15 ?k15 ?a16 ?l16 ?c16 ?k16 ?a17 ?l17 ?c17 ?k17 ?a18 ?l18 ?c18 ?k18 ?a19 ?l19 ?c19 ?k19 ?a20 ?l20 ?c20 ?k20 ?a21 ?l21 ?c21 ?k21 ?m1 ?m2 ?ax0 ?ax1 ?ax2 ?ax3 ?ax4 ?ax5 ?ax6 ?ax7 ?ax8 ?ax9 ?ax10 ?ax11 ?axS ?gaP ?ghP ?caP ?obP ?beP ?clP ?vvP ?emP ?eiP ?kkP ?gaT ?ghT ?caT ?obT ?beT ?clT ?vvT ?emT ?eiT ?kkT ?hn_ ?htk_ ?z1 ?z2 ?z3 ?z4 ?z5 ?z6 ?z7 ?z8 ?z9 ?z10 ?z11 ?z12 ?z13 ?z14 ?z15 ?z16 ?z17
  (case a1 => k_is)
  (case l1 => k_is)
  (case c1 => k_is)
  (case k1 => k_is)
  (case a2 => k_is)
  (case l2 => k_is)
  (case c2 => k_is)
  (case k2 => k_is)
  (case a3 => k_is)
  (case l3 => k_is)
  (case c3 => k_is)
  (case k3 => k_is)
  (case a4 => k_is)
  (case l4 => k_is)
  (case c4 => k_is)
  (case k4 => k_is)
  (case a5 => k_is)
  (case l5 => k_is)
  (case c5 => k_is)
  (case k5 => k_is)
  (case a6 => k_is)
  (case l6 => k_is)
  (case c6 => k_is)
  (case k6 => k_is)
  (case a7 => k_is)
  (case l7 => k_is)
  (case c7 => k_is)
  (case k7 => k_is)
  (case a8 => k_is)
  (case l8 => k_is)
  (case c8 => k_is)
  (case k8 => k_is)
  (case a9 => k_is)
  (case l9 => k_is)
  (case c9 => k_is)
  (case k9 => k_is)
  (case a10 => k_is)
  (case l10 => k_is)
  (case c10 => k_is)
  (case k10 => k_is)
  (case a11 => k_is)
  (case l11 => k_is)
  (case c11 => k_is)
  (case k11 => k_is)
  (case a12 => k_is)
  (case l12 => k_is)
  (case c12 => k_is)
  (case k12 => k_is)
  (case a13 => k_is)
  (case l13 => k_is)
  (case c13 => k_is)
  (case k13 => k_is)
  (case a14 => k_is)
  (case l14 => k_is)
  (case c14 => k_is)
  (case k14 => k_is)
  (case a15 => k_is)
  (case l15 => k_is)
  (case c15 => k_is)
  (case k15 => k_is)
  (case a16 => k_is)
  (case l16 => k_is)
  (case c16 => k_is)
  (case k16 => k_is)
  (case a17 => k_is)
  (case l17 => k_is)
  (case c17 => k_is)
  (case k17 => k_is)
  (case a18 => k_is)
  (case l18 => k_is)
  (case c18 => k_is)
  (case k18 => k_is)
  (case a19 => k_is)
  (case l19 => k_is)
  (case c19 => k_is)
  (case k19 => k_is)
  (case a20 => k_is)
  (case l20 => k_is)
  (case c20 => k_is)
  (case k20 => k_is)
  (case a21 => k_is)
  (case l21 => k_is)
  (case c21 => k_is)
  (case k21 => k_is)
  (case m1 => k_is)
  (case m2 => k_is)
  (case ax0 => k_is)
  (case ax1 => k_is)
  (case ax2 => k_is)
  (case ax3 => k_is)
  (case ax4 => k_is)
  (case ax5 => k_is)
  (case ax6 => k_is)
  (case ax7 => k_is)
  (case ax8 => k_is)
  (case ax9 => k_is)
  (case ax10 => k_is)
  (case ax11 => k_is)
  (case axS => k_is)
  (case gaP => k_is)
  (case ghP => k_is)
  (case caP => k_is)
  (case obP => k_is)
  (case beP => k_is)
  (case clP => kernel_rfl)
  (case vvP => kernel_rfl)
  (case emP => kernel_rfl)
  (case eiP => kernel_rfl)
  (case kkP => kernel_rfl)
  (case gaT => k_is)
  (case ghT => k_is)
  (case caT => k_is)
  (case obT => k_is)
  (case beT => k_is)
  (case clT => kernel_rfl)
  (case vvT => kernel_rfl)
  (case emT => kernel_rfl)
  (case eiT => kernel_rfl)
  (case kkT => kernel_rfl)
  (case hn_ => k_is)
  (case htk_ => k_is)
  (case z1 => k_is)
  (case z2 => k_is)
  (case z3 => k_is)
  (case z4 => k_is)
  (case z5 => k_is)
  (case z6 => k_is)
  (case z7 => k_is)
  (case z8 => k_is)
  (case z9 => k_is)
  (case z10 => k_is)
  (case z11 => k_is)
  (case z12 => k_is)
  (case z13 => k_is)
  (case z14 => k_is)
  (case z15 => k_is)
  (case z16 => k_is)
  (case z17 => k_is)
