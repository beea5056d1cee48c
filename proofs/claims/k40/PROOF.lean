import PyProof.Rows.All
import Wide.All
import OpenK.AllK
import Wide.FinOn
import Lean
import PyProof.EqAt
import PyProof.EqKinds
import PyProof.TupleCall
import PyProof.NeKinds
import PyProof.EnumStmt
import PyProof.WalkInts
import PyProof.ZipIter
import PyProof.Rows.ZipGen
import PyProof.Rows.SumAny
import PyProof.ReprBulk
import PyProof.FitsInt
import PyProof.CallStr
import PyProof.Draws
import KE.KSortAsk
import PyProof.FactsAll.list_4
import PyProof.Rows.Range3
import KE.KStateDown
import KE.KTryMore
import PyProof.NsDelKeeps
import PyProof.ExcArgsOwn
import PyProof.ExcBaseAll.ValueError
import PySem.Challenge.RW_nearsums_k40_what_a_keeper_refuses
set_option Elab.async false
set_option linter.all false
set_option maxRecDepth 100000
namespace L2
open PySem PySem.Spec PyProof.Rows
abbrev Key := Sum Int Str
def keyIs : Key → Value → Bool
 | .inl k, v => Value.isInt k v
 | .inr x, v => Value.isStrOf x v
def keyH (w : World) : Key → Int
 | .inl k => hashInt k
 | .inr x => hashStr w x
theorem keyIs_shape : ∀ {k : Key} {v : Value}, keyIs k v = true → (∃ i t, k = Sum.inl i ∧ v = Value.int i t) ∨ (∃ x t, k = Sum.inr x ∧ v = Value.str x t)
 | .inl i, v, h => by
  obtain ⟨t, e⟩ := Value.isInt_shape (k := i) (v := v) h
  exact .inl ⟨i, t, rfl, e⟩
 | .inr x, v, h => by
  obtain ⟨t, e⟩ := Value.isStrOf_shape (x := x) (v := v) h
  exact .inr ⟨x, t, rfl, e⟩
theorem keyIs_int (i : Int) (t : Tok) : keyIs (.inl i) (.int i t) = true := by simp [keyIs, Value.isInt]
theorem keyIs_str (x : Str) (t : Tok) : keyIs (.inr x) (.str x t) = true := by simp [keyIs, Value.isStrOf]
theorem key_ll (a b : Int) : decide ((Sum.inl a : Key) = Sum.inl b) = (a == b) := by
 by_cases e : a = b
 ·subst e; simp
 ·have h : ¬ (Sum.inl a : Key) = Sum.inl b := fun q => e (Sum.inl.inj q)
  rw [decide_eq_false h]
  exact (beq_eq_false_iff_ne.mpr e).symm
theorem key_rr (a b : Str) : decide ((Sum.inr a : Key) = Sum.inr b) = decide (a = b) := by
 by_cases e : a = b
 ·subst e; simp
 ·have h : ¬ (Sum.inr a : Key) = Sum.inr b := fun q => e (Sum.inr.inj q)
  rw [decide_eq_false h, decide_eq_false e]
theorem key_lr (a : Int) (b : Str) : decide ((Sum.inl a : Key) = Sum.inr b) = false := decide_eq_false (fun q => nomatch q)
theorem key_rl (a : Str) (b : Int) : decide ((Sum.inr a : Key) = Sum.inl b) = false := decide_eq_false (fun q => nomatch q)
def mixKind (prog : Program) (w : World) : PySem.KeyKind prog w Key where
 is := keyIs
 hash := keyH w
 inj := fun v a b ha hb => by
  rcases keyIs_shape ha with ⟨i, t, rfl, rfl⟩ | ⟨x, t, rfl, rfl⟩
  ·rcases keyIs_shape hb with ⟨j, u, rfl, e⟩ | ⟨y, u, rfl, e⟩
   ·injection e with e1 _; rw [e1]
   ·exact nomatch e
  ·rcases keyIs_shape hb with ⟨j, u, rfl, e⟩ | ⟨y, u, rfl, e⟩
   ·exact nomatch e
   ·injection e with e1 _; rw [e1]
 byValue := fun k v h => by
  rcases keyIs_shape h with ⟨i, t, rfl, rfl⟩ | ⟨x, t, rfl, rfl⟩ <;> rfl
 pyHash := fun hv h => by
  rcases keyIs_shape hv with ⟨i, t, rfl, rfl⟩ | ⟨x, t, rfl, rfl⟩
  ·exact wpAny_pyHash_int h
  ·exact wpAny_pyHash_str h
 eqBool := fun hu hv h => by
  rcases keyIs_shape hu with ⟨i, t, rfl, rfl⟩ | ⟨x, t, rfl, rfl⟩
  ·rcases keyIs_shape hv with ⟨j, u, rfl, rfl⟩ | ⟨y, u, rfl, rfl⟩
   ·rw [key_ll] at h; exact wpAny_eqBool_int h
   ·rw [key_lr] at h; exact SeqAt.EqAt.int_str i t y u _ _ _ _ h
  ·rcases keyIs_shape hv with ⟨j, u, rfl, rfl⟩ | ⟨y, u, rfl, rfl⟩
   ·rw [key_rl] at h; exact SeqAt.EqAt.str_int x t j u _ _ _ _ h
   ·rw [key_rr] at h; exact wpAny_eqBool_str h
 «strs» := fun k x t v h => by
  rcases keyIs_shape h with ⟨i, u, rfl, e⟩ | ⟨y, u, rfl, e⟩
  ·exact nomatch e
  ·injection e with e1 _
   subst e1
   cases v <;> rfl
theorem mixKind_int (prog : Program) (w : World) (i : Int) (t : Tok) : (mixKind prog w).is (.inl i) (.int i t) = true := keyIs_int i t
theorem mixKind_str (prog : Program) (w : World) (x : Str) (t : Tok) : (mixKind prog w).is (.inr x) (.str x t) = true := keyIs_str x t
end L2
namespace L2
open PySem PySem.Spec PyProof.Rows
inductive V where
 | non | bl (b : Bool) | int (i : Int) | str (x : Str) | byt (b : Array UInt8) | flt (b : UInt64) | ref (a : Addr) | ty (n : String)
 deriving DecidableEq
def RelV : V → Value → Prop
 | .non, u => u = Value.none
 | .bl b, u => u = Value.bool b
 | .int i, u => ∃ t, u = Value.int i t
 | .str x, u => ∃ t, u = Value.str x t
 | .byt b, u => ∃ t, u = Value.bytes b t
 | .flt b, u => ∃ t, u = Value.float b t
 | .ref a, u => u = Value.ref a
 | .ty n, u => u = Value.type n
abbrev Vals : List V → List Value → Prop := Paired RelV
theorem Vals.length {xs : List V} {us : List Value} (r : Vals xs us) : xs.length = us.length := Paired.length r
theorem Vals.get : ∀ {xs : List V} {us : List Value} {i : Nat} {x : V}, Vals xs us → xs[i]? = some x → ∃ u, us[i]? = some u ∧ RelV x u
 | _, _, _, _, .nil, e => by simp at e
 | _, _, 0, _, .cons r _, e => by simp at e; subst e; exact ⟨_, rfl, r⟩
 | _, _, i + 1, x, .cons _ t, e => by
  obtain ⟨u, h1, h2⟩ := Vals.get (i := i) (x := x) t (by simpa using e)
  exact ⟨u, by simpa using h1, h2⟩
theorem Vals.set {x : V} {u : Value} (r : RelV x u) : ∀ {xs : List V} {us : List Value} (i : Nat), Vals xs us → Vals (xs.set i x) (us.set i u)
 | _, _, _, .nil => .nil
 | _, _, 0, .cons _ t => .cons r t
 | _, _, i + 1, .cons q t => .cons q (Vals.set r i t)
theorem Vals.append : ∀ {xs ys : List V} {us ws : List Value}, Vals xs us → Vals ys ws → Vals (xs ++ ys) (us ++ ws)
 | _, _, _, _, .nil, s => s
 | _, _, _, _, .cons r t, s => .cons r (Vals.append t s)
theorem Vals.take : ∀ {xs : List V} {us : List Value} (n : Nat), Vals xs us → Vals (xs.take n) (us.take n)
 | _, _, 0, _ => .nil
 | _, _, _ + 1, .nil => .nil
 | _, _, n + 1, .cons r t => .cons r (Vals.take n t)
theorem Vals.drop : ∀ {xs : List V} {us : List Value} (n : Nat), Vals xs us → Vals (xs.drop n) (us.drop n)
 | _, _, 0, r => r
 | _, _, _ + 1, .nil => .nil
 | _, _, n + 1, .cons _ t => Vals.drop n t
def RelO : Option V → Option Value → Prop
 | some v, some u => RelV v u
 | none, none => True
 | _, _ => False
def KV {κ : Type} : List (κ × V) → List (κ × Value) → Prop := Paired fun (p : κ × V) (q : κ × Value) => p.1 = q.1 ∧ RelV p.2 q.2
def kV : Key → V
 | .inl i => .int i
 | .inr x => .str x
inductive HO where
  | lst (xs : List V)
  | tup (xs : List V)
  | dK (kvs : List (Key × V)) | dT (kvs : List (List Key × V))
  | set (S : Int → Bool) (n : Nat)
  | ins (C dx : Addr) (fs : List (Str × V))
  | own (x : Addr)
  | xd (fs : List (Str × V))
  | met (f x : Addr)
  | rng (lo hi : Int)
  | frz (o : Obj) (u : HO)
  | tbl (ps : Array Value)
  | ext (φ : Heap → Prop)
abbrev Hp := Addr → Option HO
def upd (H : Hp) (a : Addr) (o : HO) : Hp := fun b => if b = a then some o else H b
theorem upd_same {H : Hp} {a : Addr} {o : HO} : upd H a o a = some o := by unfold upd; rw [if_pos rfl]
theorem upd_ne {H : Hp} {a b : Addr} {o : HO} (h : b ≠ a) : upd H a o b = H b := by unfold upd; rw [if_neg h]
theorem upd_upd {H : Hp} {a : Addr} {o u : HO} : upd (upd H a o) a u = upd H a u := by
 funext b; unfold upd; split <;> rfl
theorem ne_of {H : Hp} {a b : Addr} {o u : HO} (h : H a = some o) (h' : H b = some u) (d : o ≠ u) : a ≠ b := by
 intro e; subst e; rw [h] at h'; exact d (Option.some.inj h')
theorem ne_of_none {H : Hp} {a b : Addr} {o : HO} (h : H a = some o) (h' : H b = none) : a ≠ b := by
 intro e; subst e; rw [h] at h'; cases h'
section
variable (P : Program) (w : World)
def ObjOk (H : Hp) (h : Heap) (a : Addr) : HO → Prop
 | .lst xs => xs.length ≤ sizeLine ∧ ∃ (its : List Value) (n : Nat), Vals xs its ∧ h.get? a = some { cls := .type "list", data := .seq its.toArray n }
 | .tup xs => xs.length ≤ sizeLine ∧ ∃ its : List Value, Vals xs its ∧ IsTup h a its.toArray
 | .dK kvs => kvs.length ≤ sizeLine ∧ (a == sysModules) = false ∧ ∃ vs, KV kvs vs ∧ h.DictOf (mixKind P w) a vs
 | .dT kvs => kvs.length ≤ sizeLine ∧ (a == sysModules) = false ∧ ∃ xs : List (List Key × Addr × Value),
   Paired (fun (p : List Key × V) (q : List Key × Addr × Value) => p.1 = q.1 ∧ H q.2.1 = some (.tup (p.1.map kV)) ∧ RelV p.2 q.2.2) kvs xs ∧
   ∃ o es ep, h.get? a = some o ∧ o.ExactDict ∧ o.data = .dict es ep ∧ es.toList = xs.map (entryOfKey (tupleKind (mixKind P w))) ∧ (xs.map (·.1)).Nodup
 | .set S n => h.SetOf (intKind P w) a S n
 | .ins C dx fs => H dx = some (.own a) ∧ fs.length ≤ 1000 ∧ dx ≠ a ∧ h.get? a = some (PySem.W.instObj C dx) ∧
   ∃ mA, h.Ns1 dx mA ∧ (∀ f, RelO (fs.lookup f) (mA f)) ∧ PySem.Within mA (fs.map (·.1))
 | .own _ => ∃ o, h.get? a = some o
 | .xd fs => ∃ mA, h.Ns1 a mA ∧ ∀ f, RelO (fs.lookup f) (mA f)
 | .rng lo hi => ∃ t u v, h.get? a = some { cls := .type "range", data := .fields #[.int lo t, .int hi u, .int 1 v] }
 | .frz o u => h.get? a = some o ∧ ObjOk H h a u
 | .tbl ps => h.get? a = some { cls := .none, data := .fields ps }
 | .met f x => h.get? a = some (PySem.W.methodObj (.ref f) (.ref x))
 | .ext φ => φ h ∧ (∃ o, h.get? a = some o) ∧ ∀ h1 h2 : Heap, φ h1 → (∀ o, h1.get? a = some o → h2.get? a = some o) → φ h2
def HOk (H : Hp) (h : Heap) : Prop := ∀ a o, H a = some o → ObjOk P w H h a o
end
section
variable {P : Program} {w : World} {H H' : Hp} {h h' : Heap} {a : Addr} {o : HO}
theorem ObjOk.lt (x : ObjOk P w H h a o) : a < h.objs.size := by
 cases o with
 | lst xs => obtain ⟨_, _, _, _, e⟩ := x; exact Heap.lt_size e
 | tup xs => obtain ⟨_, _, _, p⟩ := x; exact p.lt
 | dK kvs => obtain ⟨_, _, _, _, o, _, _, e, _⟩ := x; exact Heap.lt_size e
 | dT kvs => obtain ⟨_, _, _, _, o, _, _, e, _⟩ := x; exact Heap.lt_size e
 | set S n => obtain ⟨o, _, _, _, e, _⟩ := x; exact Heap.lt_size e
 | ins C dx fs => obtain ⟨_, _, _, e, _⟩ := x; exact Heap.lt_size e
 | own y => obtain ⟨_, e⟩ := x; exact Heap.lt_size e
 | xd fs => obtain ⟨_, ⟨_, _, _, e, _⟩, _⟩ := x; exact Heap.lt_size e
 | rng lo hi => obtain ⟨_, _, _, e⟩ := x; exact Heap.lt_size e
 | frz ob u => obtain ⟨e, _⟩ := x; exact Heap.lt_size e
 | tbl ps => exact Heap.lt_size (show h.get? a = some _ from x)
 | met f y => exact Heap.lt_size (show h.get? a = some _ from x)
 | ext φ => obtain ⟨_, ⟨_, e⟩, _⟩ := x; exact Heap.lt_size e
theorem Paired.mapP {α β : Type} {F G : α → β → Prop} : ∀ {l₁ : List α} {l₂ : List β}, Paired F l₁ l₂ → (∀ a b, F a b → G a b) → Paired G l₁ l₂
 | _, _, .nil, _ => .nil
 | _, _, .cons r t, f => .cons (f _ _ r) (Paired.mapP t f)
theorem ObjOk.stay (x : ObjOk P w H h a o) (k : ∀ b u, (b = a ∨ H b = some (.own a)) → h.get? b = some u → h'.get? b = some u)
  (ho : ∀ b, H b = some (.own a) → H' b = some (.own a)) (ht : ∀ b xs, H b = some (.tup xs) → H' b = some (.tup xs)) : ObjOk P w H' h' a o := by
 induction o with
 | lst xs => obtain ⟨z, its, n, r, e⟩ := x; exact ⟨z, its, n, r, k _ _ (.inl rfl) e⟩
 | tup xs => obtain ⟨z, its, r, ob, e, c⟩ := x; exact ⟨z, its, r, ob, k _ _ (.inl rfl) e, c⟩
 | dK kvs => obtain ⟨z, y, vs, r, ob, es, ep, e, c⟩ := x; exact ⟨z, y, vs, r, ob, es, ep, k _ _ (.inl rfl) e, c⟩
 | dT kvs =>
  obtain ⟨z, y, xs, r, ob, es, ep, e, c⟩ := x
  exact ⟨z, y, xs, Paired.mapP r fun p q z => ⟨z.1, ht _ _ z.2.1, z.2.2⟩, ob, es, ep, k _ _ (.inl rfl) e, c⟩
 | set S n => obtain ⟨ob, es, ep, t, e, c⟩ := x; exact ⟨ob, es, ep, t, k _ _ (.inl rfl) e, c⟩
 | ins C dx fs =>
  obtain ⟨d, z, ne, e, mA, ⟨od, es, ep, e2, c⟩, r⟩ := x
  exact ⟨ho _ d, z, ne, k _ _ (.inl rfl) e, mA, ⟨od, es, ep, k _ _ (.inr d) e2, c⟩, r⟩
 | own y => obtain ⟨ob, e⟩ := x; exact ⟨ob, k _ _ (.inl rfl) e⟩
 | xd fs => obtain ⟨mA, ⟨od, es, ep, e, c⟩, r⟩ := x; exact ⟨mA, ⟨od, es, ep, k _ _ (.inl rfl) e, c⟩, r⟩
 | rng lo hi => obtain ⟨t, u, v, e⟩ := x; exact ⟨t, u, v, k _ _ (.inl rfl) e⟩
 | frz ob u ih => obtain ⟨e, q⟩ := x; exact ⟨k _ _ (.inl rfl) e, ih q⟩
 | tbl ps =>
  have e : h.get? a = some { cls := .none, data := .fields ps } := x
  show h'.get? a = some { cls := .none, data := .fields ps }
  exact k a _ (.inl rfl) e
 | met f y =>
  have e : h.get? a = some (PySem.W.methodObj (.ref f) (.ref y)) := x
  show h'.get? a = some (PySem.W.methodObj (.ref f) (.ref y))
  exact k a _ (.inl rfl) e
 | ext φ => obtain ⟨p, ⟨o, e⟩, st⟩ := x; exact ⟨st _ _ p fun o q => k _ _ (.inl rfl) q, ⟨o, k _ _ (.inl rfl) e⟩, st⟩
theorem HOk.lt (x : HOk P w H h) (e : H a = some o) : a < h.objs.size := (x a o e).lt
theorem HOk.fresh (x : HOk P w H h) (e : h.objs.size ≤ a) : H a = none := by
 cases q : H a with
 | none => rfl
 | some u => exact absurd (Nat.lt_of_lt_of_le (x.lt q) e) (Nat.lt_irrefl _)
theorem HOk.kept (x : HOk P w H h) (k : ∀ b u, h.get? b = some u → h'.get? b = some u) : HOk P w H h' := fun a o e =>
 (x a o e).stay (fun b u _ q => k b u q) (fun _ q => q) fun _ _ q => q
theorem HOk.laid (x : HOk P w H h) (k : ∀ b u, h.get? b = some u → h'.get? b = some u) (hp : h.objs.size ≤ a) (new : ObjOk P w (upd H a o) h' a o) : HOk P w (upd H a o) h' := fun b u e => by
 have hn := x.fresh hp
 by_cases hb : b = a
 ·subst hb; rw [upd_same] at e; cases e; exact new
 ·rw [upd_ne hb] at e
  exact (x b u e).stay (fun c v _ q => k c v q) (fun c q => by rw [upd_ne (ne_of_none q hn)]; exact q) fun c xs q => by rw [upd_ne (ne_of_none q hn)]; exact q
end
def Rd (H : Hp) (a : Addr) (u : HO) : Prop := H a = some u ∨ ∃ o, H a = some (.frz o u)
theorem Rd.ok {P : Program} {w : World} {H : Hp} {h : Heap} {a : Addr} {u : HO} (r : Rd H a u) (x : HOk P w H h) : ObjOk P w H h a u := by
 rcases r with r | ⟨o, r⟩
 ·exact x a u r
 ·obtain ⟨_, q⟩ := x a _ r
  exact q
def Mut : Option HO → Prop
 | some (.lst _) => True
 | some (.dK _) => True
 | some (.dT _) => True
 | some (.set _ _) => True
 | some (.ins _ _ _) => True
 | some (.ext _) => True
 | _ => False
section
variable {P : Program} {w : World} {H : Hp} {h h' : Heap} {x e : Addr} {o' : HO}
theorem HOk.write (ok : HOk P w H h) (mu : Mut (H x)) (he : e = x ∨ H e = some (.own x)) (k : ∀ b u, b ≠ e → h.get? b = some u → h'.get? b = some u) (heo : ∃ u, h'.get? e = some u)
  (new : ObjOk P w (upd H x o') h' x o') : HOk P w (upd H x o') h' := fun b u q => by
 have nown : ∀ c y, H c = some (.own y) → c ≠ x := fun c y r z => by subst z; rw [r] at mu; exact mu
 have ntup : ∀ c xs, H c = some (.tup xs) → c ≠ x := fun c xs r z => by subst z; rw [r] at mu; exact mu
 by_cases hb : b = x
 ·subst hb; rw [upd_same] at q; cases q; exact new
 ·rw [upd_ne hb] at q
  by_cases hbe : b = e
  ·have q' : H b = some (.own x) := by
    rcases he with z | z
    ·exact absurd (hbe.trans z) hb
    ·rw [hbe]; exact z
   rw [q] at q'; cases q'
   obtain ⟨v, hv⟩ := heo
   exact ⟨v, by rw [hbe]; exact hv⟩
  ·refine (ok b u q).stay (fun c v hc r => k c v ?_ r) (fun c r => by rw [upd_ne (nown c b r)]; exact r) fun c xs r => by rw [upd_ne (ntup c xs r)]; exact r
   rcases hc with rfl | hc
   ·exact hbe
   ·rintro rfl
    rcases he with z | z
    ·exact nown c b hc z
    ·rw [hc] at z; cases z; exact hb rfl
end
structure Un (fs ex : List Addr) (H H' : Hp) (h h' : Heap) : Prop where
 keep : ∀ b o, h.get? b = some o → H b = none → b ∉ fs → b ∉ ex → h'.get? b = some o
 slot : ∀ b o, h.get? b = some o → H b = none → b ∈ fs → b ∉ ex → ∃ sl, h'.get? b = some { o with slots := sl }
 free : ∀ b o, h.get? b = some o → H b = none → b ∉ ex → H' b = none
 there : ∀ b o, h.get? b = some o → b ∉ ex → ∃ o', h'.get? b = some o'
 tups : ∀ b xs, H b = some (.tup xs) → H' b = some (.tup xs)
 frzs : ∀ b o u, H b = some (.frz o u) → H' b = some (.frz o u)
 tbls : ∀ b ps, H b = some (.tbl ps) → ∃ more, H' b = some (.tbl (ps ++ more))
section
variable {fs fs' ex ex' : List Addr} {H H1 H2 : Hp} {h h1 h2 h' : Heap} {a x e : Addr} {o : HO}
theorem Un.any (u : Un fs ex H H1 h h1) {b : Addr} {ob : Obj} (q : h.get? b = some ob) (n : H b = none) (hx : b ∉ ex) : ∃ sl, h1.get? b = some { ob with slots := sl } := by
 by_cases hb : b ∈ fs
 ·exact u.slot b ob q n hb hx
 ·exact ⟨ob.slots, u.keep b ob q n hb hx⟩
theorem Un.trans (a : Un fs ex H H1 h h1) (b : Un fs ex H1 H2 h1 h2) : Un fs ex H H2 h h2 where
 keep := fun c ob q n hc hx => b.keep c ob (a.keep c ob q n hc hx) (a.free c ob q n hx) hc hx
 slot := fun c ob q n hc hx => by
  obtain ⟨sl, e1⟩ := a.slot c ob q n hc hx
  obtain ⟨sl', e2⟩ := b.slot c _ e1 (a.free c ob q n hx) hc hx
  exact ⟨sl', e2⟩
 free := fun c ob q n hx => by
  obtain ⟨o', e1⟩ := a.there c ob q hx
  exact b.free c o' e1 (a.free c ob q n hx) hx
 there := fun c ob q hx => by
  obtain ⟨o', e1⟩ := a.there c ob q hx
  exact b.there c o' e1 hx
 tups := fun c xs q => b.tups c xs (a.tups c xs q)
 frzs := fun c ob xs q => b.frzs c ob xs (a.frzs c ob xs q)
 tbls := fun c ps q => by
  obtain ⟨m1, e1⟩ := a.tbls c ps q
  obtain ⟨m2, e2⟩ := b.tbls c _ e1
  exact ⟨m1 ++ m2, by rw [e2, Array.append_assoc]⟩
theorem Un.kept (k : ∀ b u, h.get? b = some u → h'.get? b = some u) : Un fs ex H H h h' :=
 ⟨fun b ob q _ _ _ => k b ob q, fun b ob q _ _ _ => ⟨ob.slots, k b ob q⟩, fun _ _ _ n _ => n, fun b ob q _ => ⟨ob, k b ob q⟩, fun _ _ q => q, fun _ _ _ q => q, fun _ ps q => ⟨#[], by rw [q]; simp⟩⟩
theorem Un.refl : Un fs ex H H h h := Un.kept fun _ _ q => q
theorem Un.laid (k : ∀ b u, h.get? b = some u → h'.get? b = some u) (hp : h.objs.size ≤ a) (hn : H a = none) : Un fs ex H (upd H a o) h h' where
 keep := fun b u q _ _ _ => k b u q
 slot := fun b u q _ _ _ => ⟨u.slots, k b u q⟩
 free := fun b u q n _ => by rw [upd_ne (Nat.ne_of_lt (Nat.lt_of_lt_of_le (Heap.lt_size q) hp))]; exact n
 there := fun b u q _ => ⟨u, k b u q⟩
 tups := fun b xs q => by rw [upd_ne (ne_of_none q hn)]; exact q
 frzs := fun b u xs q => by rw [upd_ne (ne_of_none q hn)]; exact q
 tbls := fun b ps q => ⟨#[], by rw [upd_ne (ne_of_none q hn), q]; simp⟩
theorem Un.write (mu : Mut (H x)) (he : e = x ∨ H e = some (.own x)) (k : ∀ b u, b ≠ e → h.get? b = some u → h'.get? b = some u) (heo : ∃ u, h'.get? e = some u) : Un fs ex H (upd H x o) h h' := by
 have hx : ∀ b, H b = none → b ≠ x := fun b n z => by subst z; rw [n] at mu; exact mu
 have hb : ∀ b, H b = none → b ≠ e := fun b n z => by
  subst z
  rcases he with r | r
  ·exact hx b n r
  ·rw [n] at r; cases r
 have hm : ∀ b u, H b = some u → ¬ Mut (some u) → b ≠ x := fun b u q nm z => by subst z; rw [q] at mu; exact nm mu
 refine ⟨fun b u q n _ _ => k b u (hb b n) q, fun b u q n _ _ => ⟨u.slots, k b u (hb b n) q⟩, fun b u q n _ => by rw [upd_ne (hx b n)]; exact n, fun b u q _ => ?_,
  fun b xs q => by rw [upd_ne (hm b _ q fun z => z)]; exact q, fun b u xs q => by rw [upd_ne (hm b _ q fun z => z)]; exact q, fun b ps q => ⟨#[], by rw [upd_ne (hm b _ q fun z => z), q]; simp⟩⟩
 by_cases hbe : b = e
 ·subst hbe; exact heo
 ·exact ⟨u, k b u hbe q⟩
end
def trk (h : Heap) (H : Hp) : List Addr := (List.range h.objs.size).filter fun a => (H a).isSome
def hidT (h : Heap) (H : Hp) : Heap := PySem.W.hideAll h (trk h H)
theorem hidT_size (h : Heap) (H : Hp) : (hidT h H).objs.size = h.objs.size := PySem.W.hideAll_size _ _
theorem hidT_get {h : Heap} {H : Hp} {b : Addr} {o : Obj} (e : h.get? b = some o) (n : H b = none) : (hidT h H).get? b = some o :=
 PySem.W.hideAll_get _ e fun hm => by
  have q : (H b).isSome = true := (List.mem_filter.mp hm).2
  rw [n] at q; simp at q
theorem of_hidT {h : Heap} {H : Hp} {b : Addr} {o : Obj} (e : (hidT h H).get? b = some o) : h.get? b = some o ∧ H b = none := by
 have e' : h.get? b = some o := PySem.W.of_hideAll (trk h H) e
 refine ⟨e', ?_⟩
 cases q : H b with
 | none => rfl
 | some x =>
  have hm : b ∈ trk h H := List.mem_filter.mpr ⟨List.mem_range.mpr (Heap.lt_size e'), by simp [q]⟩
  have z : (hidT h H).get? b = none := PySem.W.hideAll_none (trk h H) hm
  rw [z] at e; cases e
end L2
namespace L2
open PySem PySem.Spec PyProof.Rows
structure Mod (K : PySem.W.Frag) (mg : Str → Option Value) (base : Heap) : Prop where
 kin : K.In base
 glob : base.Ns mainGlobals mg
 blt : ∃ mb, base.Ns builtinsNs mb ∧ ∀ x : Str, x ≠ "__name__" → mb x = bootBuiltins x
 nolimit : base.NoLimit
structure Cx where
 prog : Program
 w : World
 K : PySem.W.Frag
 mg : Str → Option Value
 base : Heap
 A : Around
 N : List Str
 s₀ : Shared
 H₀ : Hp
 env : Env
 outer : List Env
 stack : List Env
 ex : List Addr
 fn : Str → Bool
 calm : Bool
 pn : List (Addr × Obj)
 xe : Value → Shared → Prop
def frs (l : List Env) : List Addr := l.filterMap (·.frame)
abbrev Cx.fs (X : Cx) : List Addr := frs X.outer
def Vis (sc : Scope) (x : Str) : Prop := sc.names.lookup x = some .local ∨ sc.names.lookup x = some .cell ∨ sc.names.lookup x = some .free
def Loc (sc : Scope) (x : Str) : Prop := sc.names.lookup x = some .local ∨ sc.names.lookup x = some .cell
def Look (env : Env) (h : Heap) (m : Str → Option Value) (x : Str) (u : Value) : Prop :=
 (env.kindOf x = some .local ∧ m x = some u) ∨ ((env.kindOf x = some .cell ∨ env.kindOf x = some .free) ∧ ∃ c, env.cells.lookup x = some c ∧ h.IsCell c (some u))
structure Cx.Ok (X : Cx) : Prop where
 mod : Mod X.K X.mg X.base
 kind : X.env.scope.kind = .function
 glob : X.env.globals = mainGlobals
 blt : X.env.builtins = builtinsNs
 above : X.s₀.heap.objs.size ≤ X.env.locals
 inj : ∀ x y c, X.env.cells.lookup x = some c → X.env.cells.lookup y = some c → x = y
 has : ∀ x, (X.env.kindOf x = some .cell ∨ X.env.kindOf x = some .free) → ∃ c, X.env.cells.lookup x = some c
 cab : ∀ x c, X.fn x = true → X.env.cells.lookup x = some c → X.s₀.heap.objs.size ≤ c
 hd : X.calm = true → X.A.handled = none
 frames : X.A.frames = some X.stack
 stk : X.stack = X.outer ∨ (X.stack = X.env :: X.outer ∧ X.env.frame = some X.env.locals)
 exf : ∀ b ∈ X.ex, b ≠ X.env.locals ∧ ∀ x c, X.env.cells.lookup x = some c → c ≠ b
 bs : ∀ b o, X.base.get? b = some o → X.s₀.heap.get? b = some o ∧ X.H₀ b = none
 bsz : X.base.objs.size ≤ X.s₀.heap.objs.size
 noex : ∀ b o, X.base.get? b = some o → b ∉ X.ex
 exfs : ∀ b ∈ X.ex, b ∉ X.fs
 funs : X.s₀.heap.FunFrames X.base X.outer
 frf : ∀ b ∈ X.fs, X.H₀ b = none
structure Inv (X : Cx) (pins : List (Addr × Obj)) (σ : List (Option V)) (H : Hp) (s : Shared) : Prop where
 ok : X.Ok
 os : s.os = X.s₀.os
 bare : AllBare s.gens
 base : Un X.fs X.ex X.H₀ H X.s₀.heap s.heap
 loc : ∃ m, s.heap.Ns X.env.locals m ∧ ∀ (i : Nat) (x : Str) (v : V), X.N[i]? = some x → σ[i]? = some (some v) → Vis X.env.scope x → ∃ u, RelV v u ∧ Look X.env s.heap m x u
 cell : ∀ x c, X.env.cells.lookup x = some c → ∃ v, s.heap.IsCell c v
 free : H X.env.locals = none
 freeC : ∀ x c, X.env.cells.lookup x = some c → H c = none
 pin : ∀ p ∈ X.pn ++ pins, s.heap.get? p.1 = some p.2 ∧ H p.1 = none ∧ p.1 ≠ X.env.locals ∧ p.1 ∉ X.fs ∧ ∀ v, p.2.data ≠ .cell v
 hok : HOk X.prog X.w H s.heap
 len : σ.length = X.N.length
section
variable {X : Cx} {pins : List (Addr × Obj)} {σ : List (Option V)} {H H' : Hp} {s : Shared} {h' : Heap}
theorem Cx.Ok.nofr (ok : X.Ok) {b : Addr} {o : Obj} (e : X.base.get? b = some o) : b ∉ X.fs := fun hb => by
 have := (ok.funs.mem hb).1
 rw [e] at this; cases this
theorem Inv.bs (I : Inv X pins σ H s) : ∀ b o, X.base.get? b = some o → s.heap.get? b = some o ∧ H b = none := fun b o e =>
 ⟨I.base.keep b o (I.ok.bs b o e).1 (I.ok.bs b o e).2 (I.ok.nofr e) (I.ok.noex b o e), I.base.free b o (I.ok.bs b o e).1 (I.ok.bs b o e).2 (I.ok.noex b o e)⟩
theorem Inv.bk (I : Inv X pins σ H s) : ∀ b o, X.base.get? b = some o → s.heap.get? b = some o := fun b o e => (I.bs b o e).1
theorem Inv.mod (I : Inv X pins σ H s) : Mod X.K X.mg X.base := I.ok.mod
theorem Inv.kIn (I : Inv X pins σ H s) : X.K.In s.heap := I.ok.mod.kin.keeps I.bk
theorem Inv.lt (I : Inv X pins σ H s) : X.env.locals < s.heap.objs.size := let ⟨_, hn, _⟩ := I.loc; hn.lt
theorem Inv.sz (I : Inv X pins σ H s) : X.s₀.heap.objs.size ≤ s.heap.objs.size := Nat.le_trans I.ok.above (Nat.le_of_lt I.lt)
theorem Inv.nofs (I : Inv X pins σ H s) {a : Addr} (h : s.heap.objs.size ≤ a) : a ∉ X.fs := fun hb => by
 obtain ⟨_, o, ho, _⟩ := I.ok.funs.mem hb
 exact absurd (Nat.lt_of_lt_of_le (Heap.lt_size ho) (Nat.le_trans I.sz h)) (Nat.lt_irrefl _)
theorem Inv.cne (I : Inv X pins σ H s) : ∀ x c, X.env.cells.lookup x = some c → c ≠ X.env.locals := fun x c e z => by
 obtain ⟨v, o, ho, hd⟩ := I.cell x c e
 obtain ⟨m, ⟨o', es, ep, ho', hd', _⟩, _⟩ := I.loc
 rw [z, ho'] at ho; cases ho; rw [hd'] at hd; cases hd
theorem Inv.funs (I : Inv X pins σ H s) : s.heap.FunFrames X.base X.outer := by
 have all : ∀ (l : List Env), (∀ b ∈ frs l, b ∈ X.fs) → X.s₀.heap.FunFrames X.base l → s.heap.FunFrames X.base l := by
  intro l
  induction l with
  | nil => intro _ _; trivial
  | cons env r ih =>
   intro hs hl
   obtain ⟨hk, ⟨L, o, hf, hn, ho, hd⟩, hr⟩ := hl
   have hL : L ∈ X.fs := hs L (by unfold frs; rw [List.filterMap_cons, hf]; exact List.mem_cons_self)
   obtain ⟨sl, e⟩ := I.base.slot L o ho (I.ok.frf L hL) hL fun z => I.ok.exfs L z hL
   exact ⟨hk, ⟨L, _, hf, hn, e, hd⟩, ih (fun b hb => hs b (by unfold frs; rw [List.filterMap_cons, hf]; exact List.mem_cons_of_mem _ hb)) hr⟩
 exact all X.outer (fun _ hb => hb) I.ok.funs
theorem Inv.stack (I : Inv X pins σ H s) : s.heap.FunFrames X.base X.stack := by
 rcases I.ok.stk with e | ⟨e, hf⟩
 ·rw [e]; exact I.funs
 ·rw [e]
  obtain ⟨m, hn, _⟩ := I.loc
  refine .cons (by rw [I.ok.kind]; decide) hf hn ?_ I.funs
  exact Heap.get?_none_of_le (Nat.le_trans I.ok.bsz I.ok.above)
theorem Inv.stkSub (I : Inv X pins σ H s) : ∀ b ∈ frs X.stack, b ∈ X.env.locals :: X.fs := fun b hb => by
 rcases I.ok.stk with e | ⟨e, hf⟩
 ·rw [e] at hb; exact List.mem_cons_of_mem _ hb
 ·rw [e] at hb
  unfold frs at hb
  rw [List.filterMap_cons, hf] at hb
  exact hb
theorem Inv.stkFree (I : Inv X pins σ H s) : ∀ b ∈ frs X.stack, H b = none := fun b hb => by
 rcases List.mem_cons.mp (I.stkSub b hb) with e | hb
 ·rw [e]; exact I.free
 ·obtain ⟨_, o, ho, _⟩ := I.ok.funs.mem hb
  exact I.base.free b o ho (I.ok.frf b hb) fun z => I.ok.exfs b z hb
theorem Inv.step {g' : Array GenState} {t' : Nat} {d' : Drawn} {ch : List Addr} (I : Inv X pins σ H s)
  (hch : ∀ b ∈ ch, (b ∈ X.ex ∨ X.s₀.heap.objs.size ≤ b) ∧ b ≠ X.env.locals ∧ (∀ x c, X.env.cells.lookup x = some c → c ≠ b) ∧ ∀ p ∈ X.pn ++ pins, p.1 ≠ b)
  (keep : ∀ b o, b ≠ X.env.locals → b ∉ X.fs → b ∉ ch → s.heap.get? b = some o → H b = none → h'.get? b = some o)
  (slot : ∀ b o, b ≠ X.env.locals → b ∈ X.fs → b ∉ ch → s.heap.get? b = some o → H b = none → ∃ sl, h'.get? b = some { o with slots := sl }) (free : ∀ b o, b ∉ ch → s.heap.get? b = some o → H b = none → H' b = none)
  (there : ∀ b o, b ∉ ch → s.heap.get? b = some o → ∃ o', h'.get? b = some o')
  (tups : ∀ b xs, H b = some (.tup xs) → H' b = some (.tup xs)) (frzs : ∀ b o u, H b = some (.frz o u) → H' b = some (.frz o u)) (tbls : ∀ b ps, H b = some (.tbl ps) → ∃ more, H' b = some (.tbl (ps ++ more)))
  (ns : ∀ m, s.heap.Ns X.env.locals m → h'.Ns X.env.locals m) (hok : HOk X.prog X.w H' h') (hg : AllBare g') :
  Inv X pins σ H' { s with heap := h', gens := g', drawn := d', toks := t' } := by
 have neL : ∀ b o, X.s₀.heap.get? b = some o → b ≠ X.env.locals := fun b o e => Nat.ne_of_lt (Nat.lt_of_lt_of_le (Heap.lt_size e) I.ok.above)
 have neC : ∀ b o, X.s₀.heap.get? b = some o → b ∉ X.ex → b ∉ ch := fun b o e hx hb => by
  rcases (hch b hb).1 with z | z
  ·exact hx z
  ·exact absurd (Nat.lt_of_lt_of_le (Heap.lt_size e) z) (Nat.lt_irrefl _)
 have cellK : ∀ x c, X.env.cells.lookup x = some c → ∀ v, s.heap.IsCell c v → h'.IsCell c v := fun x c e v ⟨o, ho, hd⟩ => by
  have nch : c ∉ ch := fun z => (hch c z).2.2.1 x c e rfl
  by_cases hc : c ∈ X.fs
  ·obtain ⟨sl, q⟩ := slot c o (I.cne x c e) hc nch ho (I.freeC x c e)
   exact ⟨_, q, hd⟩
  ·exact ⟨o, keep c o (I.cne x c e) hc nch ho (I.freeC x c e), hd⟩
 refine ⟨I.ok, I.os, hg, ⟨fun b o e n hb hx => ?_, fun b o e n hb hx => ?_, fun b o e n hx => ?_, fun b o e hx => ?_, fun b xs e => tups b xs (I.base.tups b xs e), fun b o xs e => frzs b o xs (I.base.frzs b o xs e), fun b ps e => ?_⟩, ?_, fun x c e => ?_, ?_, fun x c e => ?_, fun p hp => ?_, hok, I.len⟩
 ·exact keep b o (neL b o e) hb (neC b o e hx) (I.base.keep b o e n hb hx) (I.base.free b o e n hx)
 ·obtain ⟨sl, e1⟩ := I.base.slot b o e n hb hx
  obtain ⟨sl', e2⟩ := slot b _ (neL b o e) hb (neC b o e hx) e1 (I.base.free b o e n hx)
  exact ⟨sl', e2⟩
 ·obtain ⟨o', e1⟩ := I.base.there b o e hx
  exact free b o' (neC b o e hx) e1 (I.base.free b o e n hx)
 ·obtain ⟨o', e1⟩ := I.base.there b o e hx
  exact there b o' (neC b o e hx) e1
 ·obtain ⟨m1, e1⟩ := I.base.tbls b ps e
  obtain ⟨m2, e2⟩ := tbls b _ e1
  exact ⟨m1 ++ m2, by rw [e2, Array.append_assoc]⟩
 ·obtain ⟨m, hn, hl⟩ := I.loc
  refine ⟨m, ns m hn, fun i x v e1 e2 e3 => ?_⟩
  obtain ⟨u, r, l⟩ := hl i x v e1 e2 e3
  refine ⟨u, r, ?_⟩
  rcases l with l | ⟨k, c, e, z⟩
  ·exact .inl l
  ·exact .inr ⟨k, c, e, cellK x c e _ z⟩
 ·obtain ⟨v, z⟩ := I.cell x c e
  exact ⟨v, cellK x c e v z⟩
 ·obtain ⟨m, ⟨o, _, _, ho, _⟩, _⟩ := I.loc
  exact free _ o (fun z => (hch _ z).2.1 rfl) ho I.free
 ·obtain ⟨v, o, ho, hd⟩ := I.cell x c e
  exact free c o (fun z => (hch c z).2.2.1 x c e rfl) ho (I.freeC x c e)
 ·obtain ⟨e, n, ne, nf, d⟩ := I.pin p hp
  have nch : p.1 ∉ ch := fun z => (hch p.1 z).2.2.2 p hp rfl
  exact ⟨keep p.1 p.2 ne nf nch e n, free p.1 p.2 nch e n, ne, nf, d⟩
theorem Inv.un {t' : Nat} (I : Inv X pins σ H s) (u : Un X.fs [] H H' s.heap h') (hok : HOk X.prog X.w H' h') : Inv X pins σ H' { s with heap := h', toks := t' } := by
 obtain ⟨m, ⟨o, es, ep, ho, r⟩, _⟩ := id I.loc
 obtain ⟨sl, hL⟩ := u.any ho I.free (by simp)
 exact I.step (g' := s.gens) (d' := s.drawn) (ch := []) (fun _ z => nomatch z) (fun b o _ hb _ e n => u.keep b o e n hb (by simp)) (fun b o _ hb _ e n => u.slot b o e n hb (by simp)) (fun b o _ e n => u.free b o e n (by simp)) (fun b o _ e => u.there b o e (by simp)) u.tups u.frzs u.tbls (fun m' hm => by
  obtain ⟨o', es', ep', ho', r'⟩ := hm
  rw [ho] at ho'; cases ho'
  exact ⟨_, es', ep', hL, r'⟩) hok I.bare
theorem Inv.call {g' : Array GenState} {t' : Nat} {d' : Drawn} {ch : List Addr} (I : Inv X pins σ H s) (u : Un (frs X.stack) ch H H' s.heap h') (hok : HOk X.prog X.w H' h') (hg : AllBare g')
  (hch : ∀ b ∈ ch, (b ∈ X.ex ∨ X.s₀.heap.objs.size ≤ b) ∧ b ≠ X.env.locals ∧ (∀ x c, X.env.cells.lookup x = some c → c ≠ b) ∧ ∀ p ∈ X.pn ++ pins, p.1 ≠ b) :
  Inv X pins σ H' { s with heap := h', gens := g', drawn := d', toks := t' } := by
 obtain ⟨m, ⟨o, es, ep, ho, r⟩, _⟩ := id I.loc
 obtain ⟨sl, hL⟩ := u.any ho I.free fun z => (hch _ z).2.1 rfl
 exact I.step (ch := ch) hch (fun b o hL hb hc e n => u.keep b o e n (fun z => (List.mem_cons.mp (I.stkSub b z)).elim hL hb) hc) (fun b o _ _ hc e n => u.any e n hc) (fun b o hc e n => u.free b o e n hc) (fun b o hc e => u.there b o e hc) u.tups u.frzs u.tbls (fun m' hm => by
  obtain ⟨o', es', ep', ho', r'⟩ := hm
  rw [ho] at ho'; cases ho'
  exact ⟨_, es', ep', hL, r'⟩) hok hg
theorem Inv.turned {t' : Nat} {it : Addr} (I : Inv X pins σ H s) (k : ∀ b o, b ≠ it → s.heap.get? b = some o → h'.get? b = some o) (hn : H it = none) (hL : it ≠ X.env.locals)
  (h1 : it ∈ X.ex ∨ X.s₀.heap.objs.size ≤ it) (h2 : ∀ x c, X.env.cells.lookup x = some c → c ≠ it) (h3 : ∀ p ∈ X.pn ++ pins, p.1 ≠ it) : Inv X pins σ H { s with heap := h', toks := t' } := by
 have nit : ∀ b u, H b = some u → b ≠ it := fun b u e z => by rw [z, hn] at e; cases e
 refine I.step (g' := s.gens) (d' := s.drawn) (ch := [it]) (fun b hb => ?_) (fun b o _ _ hc e _ => k b o (fun z => hc (by simp [z])) e) (fun b o _ _ hc e _ => ⟨o.slots, k b o (fun z => hc (by simp [z])) e⟩) (fun _ _ _ _ n => n)
  (fun b o hc e => ⟨o, k b o (fun z => hc (by simp [z])) e⟩) (fun _ _ e => e) (fun _ _ _ e => e) (fun b ps e => ⟨#[], by rw [e]; simp⟩) (fun m hm => ?_) (fun b u e => ?_) I.bare
 ·have e : b = it := by simpa using hb
  subst e
  exact ⟨h1, hL, h2, h3⟩
 ·obtain ⟨o, es, ep, ho, r⟩ := hm
  exact ⟨o, es, ep, k _ o (Ne.symm hL) ho, r⟩
 ·refine (I.hok b u e).stay (fun c v hc q => k c v ?_ q) (fun _ q => q) fun _ _ q => q
  rcases hc with z | z
  ·rw [z]; exact nit b u e
  ·exact nit c _ z
theorem Inv.tok (I : Inv X pins σ H s) (t : Nat) : Inv X pins σ H { s with toks := t } := I.un (h' := s.heap) (t' := t) Un.refl I.hok
theorem Inv.kept {t' : Nat} (I : Inv X pins σ H s) (k : ∀ b u, s.heap.get? b = some u → h'.get? b = some u) : Inv X pins σ H { s with heap := h', toks := t' } := I.un (Un.kept k) (I.hok.kept k)
theorem Inv.laid {a : Addr} {o : HO} {t' : Nat} (I : Inv X pins σ H s) (k : ∀ b u, s.heap.get? b = some u → h'.get? b = some u) (hp : s.heap.objs.size ≤ a) (new : ObjOk X.prog X.w (upd H a o) h' a o) :
  Inv X pins σ (upd H a o) { s with heap := h', toks := t' } := I.un (Un.laid k hp (I.hok.fresh hp)) (I.hok.laid k hp new)
theorem Inv.write {x e : Addr} {o : HO} {t' : Nat} (I : Inv X pins σ H s) (mu : Mut (H x)) (he : e = x ∨ H e = some (.own x)) (k : ∀ b u, b ≠ e → s.heap.get? b = some u → h'.get? b = some u) (heo : ∃ u, h'.get? e = some u)
  (new : ObjOk X.prog X.w (upd H x o) h' x o) : Inv X pins σ (upd H x o) { s with heap := h', toks := t' } := I.un (Un.write mu he k heo) (I.hok.write mu he k heo new)
theorem Inv.pins_of {pins' : List (Addr × Obj)} (I : Inv X pins σ H s) (h : ∀ p ∈ pins', s.heap.get? p.1 = some p.2 ∧ H p.1 = none ∧ p.1 ≠ X.env.locals ∧ p.1 ∉ X.fs ∧ ∀ v, p.2.data ≠ .cell v) : Inv X pins' σ H s :=
 ⟨I.ok, I.os, I.bare, I.base, I.loc, I.cell, I.free, I.freeC, fun p hp => (List.mem_append.mp hp).elim (fun z => I.pin p (List.mem_append_left _ z)) (h p), I.hok, I.len⟩
theorem nodup_ix {N : List Str} (hN : N.Nodup) {i j : Nat} {x : Str} (a : N[i]? = some x) (b : N[j]? = some x) : i = j := by
 obtain ⟨h1, e1⟩ := List.getElem?_eq_some_iff.mp a
 obtain ⟨h2, e2⟩ := List.getElem?_eq_some_iff.mp b
 exact (List.getElem_inj hN).mp (e1.trans e2.symm)
theorem store_ok2 {M : Model} {A : Around} {E : Value → Shared → Prop} {i : Nat} {x : Str} {v : V} {u : Value} {Q : Unit → Shared → Prop} (I : Inv X pins σ H s) (hN : X.N.Nodup) (hi : X.N[i]? = some x) (hx : Loc X.env.scope x) (r : RelV v u)
  (h : ∀ s', Inv X pins (σ.set i (some v)) H s' → (∃ a, Heap.SameBut a s.heap s'.heap ∧ (a = X.env.locals ∨ X.env.cells.lookup x = some a)) → Q () s') (hf : X.fn x = true ∨ X.env.scope.names.lookup x = some .local := by first | exact .inl rfl | exact .inr rfl | assumption) : wpAny M A (storeName X.env x u) Q E s := by
 obtain ⟨m, hn, hl⟩ := id I.loc
 have hcls : (X.env.scope.kind == .class || (X.env.scope.kind == .module && X.env.locals != X.env.globals)) = false := by rw [I.ok.kind]; rfl
 have hiσ : i < σ.length := by rw [I.len]; exact (List.getElem?_eq_some_iff.mp hi).1
 have cne := I.cne
 have tracked : ∀ {a : Addr} {h' : Heap}, (∃ o, s.heap.get? a = some o ∧ H a = none) → Heap.SameBut a s.heap h' → HOk X.prog X.w H h' := fun {a h'} ha hs b ob e => by
  obtain ⟨_, _, hfree⟩ := ha
  refine (I.hok b ob e).stay (fun c w' hc q => (hs.2 c ?_).trans q) (fun _ q => q) fun _ _ q => q
  rintro rfl
  rcases hc with rfl | hc
  ·rw [hfree] at e; cases e
  ·rw [hfree] at hc; cases hc
 rcases hx with hk | hk
 ·refine wpAny_storeName_local hk hn (fun h' hn' hs => ?_) hcls
  obtain ⟨oL, _, _, hoL, _⟩ := id hn
  refine h _ ⟨I.ok, I.os, I.bare, ⟨fun b o e n hb hx => ?_, fun b o e n hb hx => ?_, I.base.free, fun b o e hx => ?_, I.base.tups, I.base.frzs, I.base.tbls⟩, ⟨_, hn', fun j y v' e1 e2 e3 => ?_⟩, fun y c e => ?_, I.free, I.freeC, fun p hp => ?_, tracked ⟨oL, hoL, I.free⟩ hs, by simpa using I.len⟩ ⟨_, hs, .inl rfl⟩
  ·exact (hs.2 b (Nat.ne_of_lt (Nat.lt_of_lt_of_le (Heap.lt_size e) I.ok.above))).trans (I.base.keep b o e n hb hx)
  ·obtain ⟨sl, e1⟩ := I.base.slot b o e n hb hx
   exact ⟨sl, (hs.2 b (Nat.ne_of_lt (Nat.lt_of_lt_of_le (Heap.lt_size e) I.ok.above))).trans e1⟩
  ·obtain ⟨o', e1⟩ := I.base.there b o e hx
   exact ⟨o', (hs.2 b (Nat.ne_of_lt (Nat.lt_of_lt_of_le (Heap.lt_size e) I.ok.above))).trans e1⟩
  ·by_cases hj : j = i
   ·subst hj
    rw [hi] at e1; cases e1
    rw [List.getElem?_set_self hiσ] at e2
    cases e2
    exact ⟨u, r, .inl ⟨hk, by simp⟩⟩
   ·rw [List.getElem?_set_ne (Ne.symm hj)] at e2
    obtain ⟨u', r', q⟩ := hl j y v' e1 e2 e3
    refine ⟨u', r', ?_⟩
    rcases q with ⟨k, e⟩ | ⟨k, c, e, z⟩
    ·refine .inl ⟨k, ?_⟩
     have : y ≠ x := fun e => hj (nodup_ix hN e1 (e ▸ hi))
     simp [this, e]
    ·exact .inr ⟨k, c, e, z.sameBut hs (cne y c e)⟩
  ·obtain ⟨w', z⟩ := I.cell y c e
   exact ⟨w', z.sameBut hs (cne y c e)⟩
  ·obtain ⟨e, n, ne, nf, d⟩ := I.pin p hp
   exact ⟨(hs.2 p.1 ne).trans e, n, ne, nf, d⟩
 ·have hfn : X.fn x = true := by
   rcases hf with z | z
   ·exact z
   ·rw [z] at hk; cases hk
  obtain ⟨c, hc⟩ := I.ok.has x (.inl hk)
  obtain ⟨w', z⟩ := I.cell x c hc
  refine wpAny_storeName_cell I.ok.kind hk hc z (fun h' hc' hs => ?_)
  obtain ⟨oc, hoc, hocd⟩ := id z
  refine h { s with heap := h' } ⟨I.ok, I.os, I.bare, ⟨fun b o e n hb hx => ?_, fun b o e n hb hx => ?_, I.base.free, fun b o e hx => ?_, I.base.tups, I.base.frzs, I.base.tbls⟩, ⟨m, hn.sameBut hs (Ne.symm (cne x c hc)), fun j y v' e1 e2 e3 => ?_⟩, fun y c' e => ?_, I.free, I.freeC, fun p hp => ?_, tracked ⟨oc, hoc, I.freeC x c hc⟩ hs, by simpa using I.len⟩ ⟨c, hs, .inr hc⟩
  ·exact (hs.2 b (Nat.ne_of_lt (Nat.lt_of_lt_of_le (Heap.lt_size e) (I.ok.cab x c hfn hc)))).trans (I.base.keep b o e n hb hx)
  ·obtain ⟨sl, e1⟩ := I.base.slot b o e n hb hx
   exact ⟨sl, (hs.2 b (Nat.ne_of_lt (Nat.lt_of_lt_of_le (Heap.lt_size e) (I.ok.cab x c hfn hc)))).trans e1⟩
  ·obtain ⟨o', e1⟩ := I.base.there b o e hx
   exact ⟨o', (hs.2 b (Nat.ne_of_lt (Nat.lt_of_lt_of_le (Heap.lt_size e) (I.ok.cab x c hfn hc)))).trans e1⟩
  ·by_cases hj : j = i
   ·subst hj
    rw [hi] at e1; cases e1
    rw [List.getElem?_set_self hiσ] at e2
    cases e2
    exact ⟨u, r, .inr ⟨.inl hk, c, hc, hc'⟩⟩
   ·rw [List.getElem?_set_ne (Ne.symm hj)] at e2
    obtain ⟨u', r', q⟩ := hl j y v' e1 e2 e3
    refine ⟨u', r', ?_⟩
    rcases q with q | ⟨k, c', e, z'⟩
    ·exact .inl q
    ·refine .inr ⟨k, c', e, z'.sameBut hs ?_⟩
     rintro rfl
     exact hj (nodup_ix hN e1 (I.ok.inj _ _ _ e hc ▸ hi))
  ·by_cases hcc : c' = c
   ·subst hcc; exact ⟨_, hc'⟩
   ·obtain ⟨w2, z2⟩ := I.cell y c' e
    exact ⟨w2, z2.sameBut hs hcc⟩
  ·obtain ⟨e, n, ne, nf, d⟩ := I.pin p hp
   refine ⟨(hs.2 p.1 ?_).trans e, n, ne, nf, d⟩
   intro q
   rw [q, hoc] at e
   have q' : oc = p.2 := Option.some.inj e
   exact d w' (by rw [← q']; exact hocd)
theorem store_ok {M : Model} {A : Around} {E : Value → Shared → Prop} {i : Nat} {x : Str} {v : V} {u : Value} {Q : Unit → Shared → Prop} (I : Inv X pins σ H s) (hN : X.N.Nodup) (hi : X.N[i]? = some x) (hx : Loc X.env.scope x) (r : RelV v u)
  (h : ∀ s', Inv X pins (σ.set i (some v)) H s' → Q () s') (hf : X.fn x = true ∨ X.env.scope.names.lookup x = some .local := by first | exact .inl rfl | exact .inr rfl | assumption) : wpAny M A (storeName X.env x u) Q E s :=
 store_ok2 I hN hi hx r (fun s' I' _ => h s' I') hf
theorem Inv.call' {s' : Shared} {ch : List Addr} (I : Inv X pins σ H s) (ho : s'.os = s.os) (u : Un (frs X.stack) ch H H' s.heap s'.heap) (hok : HOk X.prog X.w H' s'.heap) (hg : AllBare s'.gens)
  (hch : ∀ b ∈ ch, (b ∈ X.ex ∨ X.s₀.heap.objs.size ≤ b) ∧ b ≠ X.env.locals ∧ (∀ x c, X.env.cells.lookup x = some c → c ≠ b) ∧ ∀ p ∈ X.pn ++ pins, p.1 ≠ b) : Inv X pins σ H' s' := by
 obtain ⟨h', g', d', t', o'⟩ := s'
 have e : o' = s.os := ho
 subst e
 exact I.call (g' := g') (t' := t') (d' := d') u hok hg hch
end
abbrev XK := Value → Option Addr → Hp → Prop
abbrev St := List (Option V)
abbrev VK := V → Hp → Prop
abbrev TE := St → Hp → VK → Prop
abbrev TT := St → Hp → (Bool → Hp → Prop) → Prop
abbrev TA := St → Hp → (List V → Hp → Prop) → Prop
structure Ends where
 nx : St → Hp → Prop
 rt : VK
 bk : St → Hp → Prop := fun _ _ => False
 ct : St → Hp → Prop := fun _ _ => False
abbrev TS := Ends → St → Hp → Prop
def EP (X : Cx) (pins : List (Addr × Obj)) (σ : St) (Q : VK) (u : Value) (s' : Shared) : Prop := ∃ v H', Inv X pins σ H' s' ∧ RelV v u ∧ Q v H'
def TP (X : Cx) (pins : List (Addr × Obj)) (σ : St) (Q : Bool → Hp → Prop) (b : Bool) (s' : Shared) : Prop := ∃ H', Inv X pins σ H' s' ∧ Q b H'
def AP (X : Cx) (pins : List (Addr × Obj)) (σ : St) (Q : List V → Hp → Prop) (us : List Value) (s' : Shared) : Prop := ∃ vs H', Inv X pins σ H' s' ∧ Vals vs us ∧ Q vs H'
def SP (X : Cx) (pins : List (Addr × Obj)) (D : Ends) (f : Flow) (s' : Shared) : Prop :=
 match f with
 | .next => ∃ σ' H', Inv X pins σ' H' s' ∧ D.nx σ' H'
 | .brk => ∃ σ' H', Inv X pins σ' H' s' ∧ D.bk σ' H'
 | .cont => ∃ σ' H', Inv X pins σ' H' s' ∧ D.ct σ' H'
 | .ret u => ∃ v σ' H', Inv X pins σ' H' s' ∧ RelV v u ∧ D.rt v H'
def PE (X : Cx) (e : Expr) (t : TE) : Prop :=
 ∀ (pins : List (Addr × Obj)) (s : Shared) (σ : St) (H : Hp) (Q : VK), Inv X pins σ H s → t σ H Q → wpAny (model X.prog X.w) X.A (eval e X.env) (EP X pins σ Q) X.xe s
def PT (X : Cx) (e : Expr) (t : TT) : Prop :=
 ∀ (pins : List (Addr × Obj)) (s : Shared) (σ : St) (H : Hp) (Q : Bool → Hp → Prop), Inv X pins σ H s → t σ H Q → wpAny (model X.prog X.w) X.A (isTrue e X.env (eval e X.env)) (TP X pins σ Q) X.xe s
def PW (X : Cx) (e : Expr) (t : TT) : Prop :=
 ∀ (whole : Sem Value) (pins : List (Addr × Obj)) (s : Shared) (σ : St) (H : Hp) (Q : Bool → Hp → Prop), Inv X pins σ H s → t σ H Q → wpAny (model X.prog X.w) X.A (isTrue e X.env whole) (TP X pins σ Q) X.xe s
theorem PW.pt {X : Cx} {e : Expr} {t : TT} (h : PW X e t) : PT X e t := h _
def PA (X : Cx) (es : List Expr) (t : TA) : Prop :=
 ∀ (pos : Pos) (pins : List (Addr × Obj)) (s : Shared) (σ : St) (H : Hp) (Q : List V → Hp → Prop), Inv X pins σ H s → t σ H Q → wpAny (model X.prog X.w) X.A (spliced (backTo pos (starEach es X.env))) (AP X pins σ Q) X.xe s
def PS (X : Cx) (st : Stmt) (t : TS) : Prop :=
 ∀ (pins : List (Addr × Obj)) (s : Shared) (σ : St) (H : Hp) (D : Ends), Inv X pins σ H s → t D σ H → wpAny (model X.prog X.w) X.A (exec st X.env) (SP X pins D) X.xe s
def PSs (X : Cx) (st : List Stmt) (t : TS) : Prop :=
 ∀ (pins : List (Addr × Obj)) (s : Shared) (σ : St) (H : Hp) (D : Ends), Inv X pins σ H s → t D σ H → wpAny (model X.prog X.w) X.A (execs st X.env) (SP X pins D) X.xe s
theorem thn {α : Type} {t : Sem α} {Q Q' : α → Shared → Prop} {M : Model} {A : Around} {E : Value → Shared → Prop} {s : Shared} (h : wpAny M A t Q E s) (hQ : ∀ a s, Q a s → Q' a s) : wpAny M A t Q' E s := wpAny_mono h hQ fun _ _ x => x
end L2
namespace L2
open PySem PySem.Spec PyProof.Rows
section
variable {X : Cx}
def tVar (i : Nat) : TE := fun σ H Q => ∃ v, σ[i]? = some (some v) ∧ Q v H
def tC (v : V) : TE := fun _ H Q => Q v H
theorem pe_var {i : Nat} {x : Str} {pos : Pos} (hN : X.N[i]? = some x) (hv : Vis X.env.scope x) (hd : (x == ("__debug__" : Str)) = false := by decide) (hcd : (x == ("__classdict__" : Str)) = false := by decide) : PE X (.Name x pos) (tVar i) := by
 intro pins s σ H Q I h
 obtain ⟨v, e, h⟩ := h
 obtain ⟨m, hn, hl⟩ := I.loc
 obtain ⟨u, r, l⟩ := hl i x v hN e hv
 have fin : EP X pins σ Q u s := ⟨v, H, I, r, h⟩
 rcases l with ⟨hk, hm⟩ | ⟨hk, c, hc, hcell⟩
 ·exact wpAny_Name (wpAny_loadName_local I.ok.kind hk hn hm fin) hd
 ·rcases hk with hk | hk
  ·exact wpAny_Name (wpAny_loadName_cell I.ok.kind hk hc hcell fin) hd
  ·exact wpAny_Name (wpAny_loadName_free I.ok.kind hk hc hcell fin hcd) hd
theorem pe_int {i j pos} : PE X (.Constant (.int i) j pos) (tC (.int i)) := fun _ _ _ H _ I h => wpAny_Constant_int ⟨.int i, H, I.tok _, ⟨_, rfl⟩, h⟩
theorem pe_bl {b j pos} : PE X (.Constant (.bool b) j pos) (tC (.bl b)) := fun _ _ _ H _ I h => Constant_bool ⟨.bl b, H, I, rfl, h⟩
theorem pe_non {j pos} : PE X (.Constant .none j pos) (tC .non) := fun _ _ _ H _ I h => Constant_none ⟨.non, H, I, rfl, h⟩
theorem pe_str {x j pos} : PE X (.Constant (.str x) j pos) (tC (.str x)) := fun _ _ _ H _ I h => Calls.Constant_str ⟨.str x, H, I.tok _, ⟨_, rfl⟩, h⟩
def Gl (X : Cx) (x : Str) : Prop := X.env.kindOf x = some .globalImplicit
theorem ld_glob {E : Value → Shared → Prop} {pins : List (Addr × Obj)} {s : Shared} {σ : St} {H : Hp} {x : Str} {u : Value} {pos : Pos} {Q : Value → Shared → Prop} (I : Inv X pins σ H s) (hg : Gl X x) (hm : X.mg x = some u) (h : Q u s)
  (hd : (x == ("__debug__" : Str)) = false := by decide) : wpAny (model X.prog X.w) X.A (eval (.Name x pos) X.env) Q E s :=
 Calls.Name_function_global I.ok.kind hg (Calls.loadGlobal_global (by rw [I.ok.glob]; exact I.mod.glob.keeps I.bk) hm h) hd
theorem ld_blt {E : Value → Shared → Prop} {pins : List (Addr × Obj)} {s : Shared} {σ : St} {H : Hp} {x : Str} {u : Value} {pos : Pos} {Q : Value → Shared → Prop} (I : Inv X pins σ H s) (hg : Gl X x) (hm : X.mg x = none) (hv : bootBuiltins x = some u) (h : Q u s)
  (hn : x ≠ "__name__" := by decide) (hd : (x == ("__debug__" : Str)) = false := by decide) : wpAny (model X.prog X.w) X.A (eval (.Name x pos) X.env) Q E s := by
 obtain ⟨mb, h1, h2⟩ := I.mod.blt
 exact Calls.Name_function_global I.ok.kind hg (Calls.loadGlobal_builtin (by rw [I.ok.glob]; exact I.mod.glob.keeps I.bk) hm (by rw [I.ok.blt]; exact h1.keeps I.bk) ((h2 x hn).trans hv) h) hd
theorem pe_glob {x : Str} {v : V} {u : Value} {pos : Pos} (hg : Gl X x) (hm : X.mg x = some u) (r : RelV v u) (hd : (x == ("__debug__" : Str)) = false := by decide) : PE X (.Name x pos) (tC v) :=
 fun _ _ _ H _ I h => ld_glob I hg hm ⟨v, H, I, r, h⟩ hd
theorem pe_bltn {x : Str} {v : V} {u : Value} {pos : Pos} (hg : Gl X x) (hm : X.mg x = none) (hv : bootBuiltins x = some u) (r : RelV v u) (hn : x ≠ "__name__" := by decide) (hd : (x == ("__debug__" : Str)) = false := by decide) : PE X (.Name x pos) (tC v) :=
 fun _ _ _ H _ I h => ld_blt I hg hm hv ⟨v, H, I, r, h⟩ hn hd
variable {a b : Expr} {ta tb : TE} {pos : Pos}
def PC (X : Cx) (op : CmpOp) (a b : Expr) (t : TE) : Prop :=
 ∀ (pins : List (Addr × Obj)) (s : Shared) (σ : St) (H : Hp) (Q : VK), Inv X pins σ H s → t σ H Q →
  wpAny (model X.prog X.w) X.A (eval a X.env) (fun v s₁ => wpAny (model X.prog X.w) X.A (eval b X.env) (fun u s₂ => wpAny (model X.prog X.w) X.A (compareOp op v u) (EP X pins σ Q) X.xe s₂) X.xe s₁) X.xe s
def tB (t : TE) : TT := fun σ H Q => t σ H fun x H1 => ∃ c, x = .bl c ∧ Q c H1
theorem pt_cmp {op : CmpOp} {t : TE} (h : PC X op a b t) (h1 : behindInMarks op b = false := by first | exact nobehind _ (by decide) (by decide) | rfl) : PT X (.Compare a [op] [b] pos) (tB t) := by
 intro pins s σ H Q I hw
 refine wpAny_isTrue_Compare1 (thn (h pins s σ H _ I hw) fun v s1 h1 => thn h1 fun u s2 h2 => thn h2 fun c s3 ⟨x, H1, I1, r1, q1⟩ => ?_) h1
 obtain ⟨d, rfl, q⟩ := q1
 cases r1
 exact wpAny_truthy_bool ⟨H1, I1, q⟩
theorem pt_val {e : Expr} {t : TE} (h : PE X e t) (he : ∀ whole, isTrue e X.env whole = (do let v ← whole; standAt e.pos; holding [v] (truthy v)) := by intro _; rfl) : PT X e (tB t) := by
 intro pins s σ H Q I hw
 refine isTrue_plain (thn (h pins s σ H _ I hw) fun v s1 ⟨x, H1, I1, r1, q1⟩ => ?_) (he _)
 obtain ⟨d, rfl, q⟩ := q1
 cases r1
 exact wpAny_truthy_bool ⟨H1, I1, q⟩
variable {tA tB' : TT} {rest : List Expr}
def tAnd (t u : TT) : TT := fun σ H Q => t σ H fun c H1 => if c = true then u σ H1 Q else Q false H1
def tOr (t u : TT) : TT := fun σ H Q => t σ H fun c H1 => if c = true then Q true H1 else u σ H1 Q
def tNot (t : TT) : TT := fun σ H Q => t σ H fun c H1 => Q (!c) H1
theorem pw_and1 (ha : PT X a tA) : PW X (.BoolOp .And [a] pos) tA := by
 intro wh pins s σ H Q I h
 refine isTrue_and (thn (ha pins s σ H Q I h) fun c s1 e => ?_)
 cases c with
 | true => exact isTrue_and_nil e
 | false => exact e
theorem pw_or1 (ha : PT X a tA) : PW X (.BoolOp .Or [a] pos) tA := by
 intro wh pins s σ H Q I h
 refine isTrue_or (thn (ha pins s σ H Q I h) fun c s1 e => ?_)
 cases c with
 | false => exact isTrue_or_nil e
 | true => exact e
theorem pw_and (ha : PT X a tA) (hb : PW X (.BoolOp .And (b :: rest) pos) tB') : PW X (.BoolOp .And (a :: b :: rest) pos) (tAnd tA tB') := by
 intro wh pins s σ H Q I h
 refine isTrue_and (thn (ha pins s σ H _ I h) fun c s1 ⟨H1, I1, q1⟩ => ?_)
 cases c with
 | true => exact hb wh pins s1 σ H1 Q I1 q1
 | false => exact ⟨H1, I1, q1⟩
theorem pw_or (ha : PT X a tA) (hb : PW X (.BoolOp .Or (b :: rest) pos) tB') : PW X (.BoolOp .Or (a :: b :: rest) pos) (tOr tA tB') := by
 intro wh pins s σ H Q I h
 refine isTrue_or (thn (ha pins s σ H _ I h) fun c s1 ⟨H1, I1, q1⟩ => ?_)
 cases c with
 | true => exact ⟨H1, I1, q1⟩
 | false => exact hb wh pins s1 σ H1 Q I1 q1
theorem pt_not (ha : PT X a tA) : PT X (.UnaryOp .Not a pos) (tNot tA) := by
 intro pins s σ H Q I h
 exact isTrue_not (ha pins s σ H (fun c H1 => Q (!c) H1) I h)
def tAndV (ta tb : TE) : TE := fun σ H Q => ta σ H fun x H1 => ∃ c, x = .bl c ∧ if c = true then tb σ H1 Q else Q (.bl false) H1
def tNotV (ta : TE) : TE := fun σ H Q => ta σ H fun x H1 => ∃ c, x = .bl c ∧ Q (.bl (!c)) H1
theorem pe_one {op} {t : TE} (h : PE X a t) : PE X (.BoolOp op [a] pos) t := fun pins s σ H Q I hw => BoolOp_one (h pins s σ H Q I hw)
theorem pe_and (ha : PE X a ta) (hb : PE X (.BoolOp .And (b :: rest) pos) tb) : PE X (.BoolOp .And (a :: b :: rest) pos) (tAndV ta tb) := by
 intro pins s σ H Q I h
 refine BoolOp_and (thn (ha pins s σ H _ I h) fun v s1 ⟨x, H1, I1, r1, q1⟩ => ?_)
 obtain ⟨c, rfl, q1⟩ := q1
 cases r1
 refine wpAny_truthy_bool ?_
 cases c with
 | true => exact hb pins s1 σ H1 Q I1 q1
 | false => exact ⟨.bl false, H1, I1, rfl, q1⟩
theorem pe_not (ha : PE X a ta) : PE X (.UnaryOp .Not a pos) (tNotV ta) := by
 intro pins s σ H Q I h
 refine UnaryOp_ (thn (ha pins s σ H _ I h) fun v s1 ⟨x, H1, I1, r1, q1⟩ => ?_)
 obtain ⟨c, rfl, q1⟩ := q1
 cases r1
 exact not_of (wpAny_truthy_bool ⟨.bl (!c), H1, I1, rfl, q1⟩)
def tIf (t : TT) (ta tb : TE) : TE := fun σ H Q => t σ H fun c H1 => if c = true then ta σ H1 Q else tb σ H1 Q
theorem pe_ifExp {c : Expr} (hc : PT X c tA) (ha : PE X a ta) (hb : PE X b tb) : PE X (.IfExp c a b pos) (tIf tA ta tb) := by
 intro pins s σ H Q I h
 refine wpAny_IfExp (thn (hc pins s σ H _ I h) fun d s1 ⟨H1, I1, q1⟩ => ?_)
 cases d with
 | true => exact ha pins s1 σ H1 Q I1 q1
 | false => exact hb pins s1 σ H1 Q I1 q1
end
end L2
namespace L2
open PySem PySem.Spec PyProof.Rows
def SqL (K : PySem.W.Frag) (H : Hp) (a : Addr) (xs : List V) : Prop :=
 Rd H a (.lst xs) ∨
  ∃ (o : Obj) (its : Array Value) (n : Nat), K.lookup a = some o ∧ o.cls = .type "list" ∧ o.dict = none ∧ o.data = .seq its n ∧ its.size ≤ sizeLine ∧ Vals xs its.toList
def SqT (K : PySem.W.Frag) (H : Hp) (a : Addr) (xs : List V) : Prop :=
 Rd H a (.tup xs) ∨
  ∃ (o : Obj) (its : Array Value) (n : Nat), K.lookup a = some o ∧ o.cls = .type "tuple" ∧ o.data = .seq its n ∧ its.size ≤ sizeLine ∧ Vals xs its.toList
def absV : Value → Option V
 | .none => some .non
 | .bool b => some (.bl b)
 | .int i _ => some (.int i)
 | .str x _ => some (.str x)
 | .bytes b _ => some (.byt b)
 | .float b _ => some (.flt b)
 | .ref a => some (.ref a)
 | .type n => some (.ty n)
 | _ => none
theorem RelV.abs {x : V} {u : Value} (r : RelV x u) : absV u = some x := by
 cases x with
 | non => cases r; rfl
 | bl _ => cases r; rfl
 | int _ => obtain ⟨t, rfl⟩ := r; rfl
 | str _ => obtain ⟨t, rfl⟩ := r; rfl
 | byt _ => obtain ⟨t, rfl⟩ := r; rfl
 | flt _ => obtain ⟨t, rfl⟩ := r; rfl
 | ref _ => cases r; rfl
 | ty _ => cases r; rfl
theorem RelV.inj {x y : V} {u : Value} (r : RelV x u) (q : RelV y u) : x = y := Option.some.inj (r.abs.symm.trans q.abs)
theorem Vals.inj : ∀ {xs ys : List V} {us : List Value}, Vals xs us → Vals ys us → xs = ys
 | _, _, _, .nil, .nil => rfl
 | _, _, _, .cons r t, .cons r' t' => by rw [r.inj r', Vals.inj t t']
section
variable {X : Cx} {pins : List (Addr × Obj)} {σ : St} {H : Hp} {s : Shared} {a : Addr} {xs ys : List V}
theorem SqL.of {K : PySem.W.Frag} (h : H a = some (.lst xs)) : SqL K H a xs := .inl (.inl h)
theorem SqT.of {K : PySem.W.Frag} (h : H a = some (.tup xs)) : SqT K H a xs := .inl (.inl h)
theorem Inv.list (I : Inv X pins σ H s) (h : SqL X.K H a xs) : ∃ its : List Value, Vals xs its ∧ PlainL s.heap a its.toArray ∧ xs.length ≤ sizeLine := by
 rcases h with h | ⟨o, its, n, hk, hc, hd, hs, hz, r⟩
 ·obtain ⟨z, its, n, r, e⟩ := h.ok I.hok
  exact ⟨its, r, ⟨_, n, e, rfl, rfl, rfl⟩, z⟩
 ·refine ⟨its.toList, r, ⟨o, n, I.kIn a o hk, hc, hd, by simpa using hs⟩, ?_⟩
  have e := r.length
  simp only [Array.length_toList] at e
  omega
theorem Inv.tuple (I : Inv X pins σ H s) (h : SqT X.K H a xs) : ∃ its : List Value, Vals xs its ∧ IsTup s.heap a its.toArray ∧ xs.length ≤ sizeLine := by
 rcases h with h | ⟨o, its, n, hk, hc, hs, hz, r⟩
 ·obtain ⟨z, its, r, p⟩ := h.ok I.hok
  exact ⟨its, r, p, z⟩
 ·refine ⟨its.toList, r, ⟨o, I.kIn a o hk, hc, n, by simpa using hs⟩, ?_⟩
  have e := r.length
  simp only [Array.length_toList] at e
  omega
theorem Inv.list_inj (I : Inv X pins σ H s) (h : SqL X.K H a xs) (h' : SqL X.K H a ys) : xs = ys := by
 obtain ⟨its, r, ⟨o, n, e, _, _, d⟩, _⟩ := I.list h
 obtain ⟨its', r', ⟨o', n', e', _, _, d'⟩, _⟩ := I.list h'
 rw [e] at e'; cases e'
 rw [d] at d'
 injection d' with d1 _
 have : its = its' := by simpa using congrArg Array.toList d1
 subst this
 exact r.inj r'
end
abbrev Cx.wish (X : Cx) (E : Value → Shared → Prop) : Cx := { X with xe := E }
abbrev Cx.nox (X : Cx) : Cx := X.wish fun _ _ => False
theorem Cx.Ok.wish {X : Cx} (ok : X.Ok) (E : Value → Shared → Prop) : (X.wish E).Ok :=
 ⟨ok.mod, ok.kind, ok.glob, ok.blt, ok.above, ok.inj, ok.has, ok.cab, ok.hd, ok.frames, ok.stk, ok.exf, ok.bs, ok.bsz, ok.noex, ok.exfs, ok.funs, ok.frf⟩
theorem Cx.Ok.unwish {X : Cx} {E : Value → Shared → Prop} (ok : (X.wish E).Ok) : X.Ok :=
 ⟨ok.mod, ok.kind, ok.glob, ok.blt, ok.above, ok.inj, ok.has, ok.cab, ok.hd, ok.frames, ok.stk, ok.exf, ok.bs, ok.bsz, ok.noex, ok.exfs, ok.funs, ok.frf⟩
section
variable {X : Cx} {pins : List (Addr × Obj)} {σ : St} {H : Hp} {s : Shared} {E : Value → Shared → Prop}
theorem Inv.wish (I : Inv X pins σ H s) (E : Value → Shared → Prop) : Inv (X.wish E) pins σ H s := ⟨I.ok.wish E, I.os, I.bare, I.base, I.loc, I.cell, I.free, I.freeC, I.pin, I.hok, I.len⟩
theorem Inv.unwish (I : Inv (X.wish E) pins σ H s) : Inv X pins σ H s := ⟨I.ok.unwish, I.os, I.bare, I.base, I.loc, I.cell, I.free, I.freeC, I.pin, I.hok, I.len⟩
theorem SP.unwish {D : Ends} {f : Flow} {s' : Shared} (h : SP (X.wish E) pins D f s') : SP X pins D f s' := by
 cases f with
 | next => obtain ⟨σ', H', I, q⟩ := h; exact ⟨σ', H', I.unwish, q⟩
 | brk => obtain ⟨σ', H', I, q⟩ := h; exact ⟨σ', H', I.unwish, q⟩
 | cont => obtain ⟨σ', H', I, q⟩ := h; exact ⟨σ', H', I.unwish, q⟩
 | ret u => obtain ⟨v, σ', H', I, r, q⟩ := h; exact ⟨v, σ', H', I.unwish, r, q⟩
theorem PSs.nox {st : List Stmt} {t : TS} (h : PSs X.nox st t) : PSs X st t := fun pins s σ H D I hw =>
 wpAny_mono (h pins s σ H D (I.wish _) hw) (fun _ _ q => q.unwish) fun _ _ z => False.elim z
end
section
variable {X : Cx} {st : Stmt} {rest : List Stmt} {t u : TS} {e : Expr} {te : TE} {pos : Pos}
def tNext : TS := fun D σ H => D.nx σ H
def tSeq (t u : TS) : TS := fun D σ H => t { D with nx := u D } σ H
theorem pss_nil : PSs X [] tNext := fun _ _ σ H _ I h => wpAny_execs_nil ⟨σ, H, I, h⟩
theorem pss_cons (h1 : PS X st t) (h2 : PSs X rest u) : PSs X (st :: rest) (tSeq t u) := by
 intro pins s σ H D I h
 refine wpAny_execs_cons (thn (h1 pins s σ H { D with nx := u D } I h) fun f s1 q => ?_)
 cases f with
 | next =>
  obtain ⟨σ', H', I', q⟩ := q
  exact h2 pins s1 σ' H' D I' q
 | ret v => exact q
 | brk => exact q
 | cont => exact q
theorem pss_one (h1 : PS X st t) : PSs X [st] t := by
 intro pins s σ H D I h
 refine wpAny_execs_cons (thn (h1 pins s σ H D I h) fun f s1 q => ?_)
 cases f with
 | next => exact wpAny_execs_nil q
 | ret v => exact q
 | brk => exact q
 | cont => exact q
theorem Inv.quiet {pins : List (Addr × Obj)} {σ : St} {H : Hp} {s : Shared} (I : Inv X pins σ H s) : interactive X.env = false := by simp [interactive, I.ok.kind]
def tDrop (te : TE) : TS := fun D σ H => te σ H fun _ H1 => D.nx σ H1
theorem ps_expr (he : PE X e te) (hs : swapsWith e none pos.line X.env = pure false := by rfl) : PS X (.Expr e pos) (tDrop te) := by
 intro pins s σ H D I h
 exact wpAny_Expr_any (thn (he pins s σ H _ I h) fun v s1 ⟨x, H1, I1, r1, q1⟩ => ⟨σ, H1, I1, q1⟩) I.quiet hs
def tRet (te : TE) : TS := fun D σ H => te σ H D.rt
theorem ps_ret (he : PE X e te) : PS X (.Return (some e) pos) (tRet te) := by
 intro pins s σ H D I h
 exact wpAny_Return_some (thn (he pins s σ H _ I h) fun v s1 ⟨x, H1, I1, r1, q1⟩ => ⟨x, σ, H1, I1, r1, q1⟩)
def tIfS (c : TT) (t u : TS) : TS := fun D σ H => c σ H fun b H1 => if b = true then t D σ H1 else u D σ H1
theorem ps_if {c : Expr} {a b : List Stmt} {tc : TT} (hc : PT X c tc) (ha : PSs X a t) (hb : PSs X b u) : PS X (.If c a b pos) (tIfS tc t u) := by
 intro pins s σ H D I h
 refine wpAny_If (thn (hc pins s σ H _ I h) fun d s1 ⟨H1, I1, q1⟩ => ?_)
 cases d with
 | true => exact ha pins s1 σ H1 D I1 q1
 | false => exact hb pins s1 σ H1 D I1 q1
def tNever : TS := fun _ _ _ => False
theorem ps_never : PS X st tNever := fun _ _ _ _ _ _ h => h.elim
end
abbrev TG := V → St → Hp → (St → Hp → Prop) → Prop
abbrev TGs := List V → St → Hp → (St → Hp → Prop) → Prop
def PG (X : Cx) (target : Expr) (t : TG) : Prop :=
 ∀ (pins : List (Addr × Obj)) (s : Shared) (σ : St) (H : Hp) (v : V) (u : Value) (Q : St → Hp → Prop), Inv X pins σ H s → RelV v u → t v σ H Q →
  wpAny (model X.prog X.w) X.A (assign target X.env u) (fun _ s' => ∃ σ' H', Inv X pins σ' H' s' ∧ Q σ' H') X.xe s
def PGs (X : Cx) (ts : List Expr) (t : TGs) : Prop :=
 ∀ (pins : List (Addr × Obj)) (s : Shared) (σ : St) (H : Hp) (vs : List V) (us : List Value) (Q : St → Hp → Prop), Inv X pins σ H s → Vals vs us → t vs σ H Q →
  wpAny (model X.prog X.w) X.A (assignInOrder ((assignEach ts X.env).map (·.2)) us) (fun _ s' => ∃ σ' H', Inv X pins σ' H' s' ∧ Q σ' H') X.xe s
abbrev TSet := V → V → V → Hp → (Hp → Prop) → Prop
def PSet (X : Cx) (t : TSet) : Prop :=
 ∀ (pins : List (Addr × Obj)) (s : Shared) (σ : St) (H : Hp) (o i v : V) (ov iv u : Value) (Q : Hp → Prop), Inv X pins σ H s → RelV o ov → RelV i iv → RelV v u → t o i v H Q →
  wpAny (model X.prog X.w) X.A (setItem ov iv u) (fun _ s' => ∃ H', Inv X pins σ H' s' ∧ Q H') X.xe s
section
variable {X : Cx} {pos : Pos}
def gName (i : Nat) : TG := fun v σ H Q => Q (σ.set i (some v)) H
theorem pg_name {i : Nat} {x : Str} (hN : X.N.Nodup) (hi : X.N[i]? = some x) (hx : Loc X.env.scope x) (hf : X.fn x = true ∨ X.env.scope.names.lookup x = some .local := by first | exact .inl rfl | exact .inr rfl | assumption) : PG X (.Name x pos) (gName i) := by
 intro pins s σ H v u Q I r h
 exact wpAny_assign_Name (store_ok I hN hi hx r (fun s' I' => ⟨_, H, I', h⟩) hf)
def gNil : TGs := fun vs σ H Q => vs = [] ∧ Q σ H
def gCons (t : TG) (u : TGs) : TGs := fun vs σ H Q => ∃ v r, vs = v :: r ∧ t v σ H fun σ' H' => u r σ' H' Q
theorem pgs_nil : PGs X [] gNil := by
 intro pins s σ H vs us Q I r h
 obtain ⟨e, h⟩ := h
 subst e
 cases r
 exact assignInOrder_nil ⟨σ, H, I, h⟩
theorem pgs_cons {e : Expr} {es : List Expr} {t : TG} {u : TGs} (h1 : PG X e t) (h2 : PGs X es u)
  (hs : (assignEach (e :: es) X.env).map (·.2) = assign e X.env :: (assignEach es X.env).map (·.2) := by rfl) : PGs X (e :: es) (gCons t u) := by
 intro pins s σ H vs us Q I r h
 obtain ⟨v, vr, e1, h⟩ := h
 subst e1
 cases r with
 | cons r rr =>
  rw [hs]
  refine assignInOrder_cons (thn (h1 pins s σ H _ _ _ I r h) fun _ s1 ⟨σ1, H1, I1, q1⟩ => ?_)
  exact h2 pins s1 σ1 H1 _ _ Q I1 rr q1
def gTup (K : PySem.W.Frag) (n : Nat) (t : TGs) : TG := fun v σ H Q => ∃ a xs, v = .ref a ∧ SqT K H a xs ∧ xs.length = n ∧ t xs σ H Q
theorem pg_tup {es : List Expr} {k : Nat} {t : TGs} {n : Nat} (hc : X.calm = true) (h : PGs X es t)
  (hn : (assignEach es X.env).length = n := by rfl) (hst : (assignEach es X.env).findIdx? (·.1) = none := by rfl) : PG X (.Tuple es k pos) (gTup X.K n t) := by
 intro pins s σ H v u Q I r hw
 obtain ⟨a, xs, e1, hq, hl, hw⟩ := hw
 subst e1
 cases r
 obtain ⟨its, rv, ht, hz⟩ := I.tuple hq
 refine assign_Tuple_tuple (I.ok.hd hc) ht (by simp [hn, ← hl, rv.length]) hst fun h' hx => ?_
 have I1 : Inv X pins σ H { s with heap := h' } := I.kept (t' := s.toks) fun b o e => hx b o (Nat.ne_of_lt (Heap.lt_size e)) e
 exact h pins _ σ H xs _ Q I1 (by simpa using rv) hw
def gSub (to ti : TE) (t : TSet) : TG := fun v σ H Q => to σ H fun o H1 => ti σ H1 fun i H2 => t o i v H2 fun H3 => Q σ H3
theorem pg_sub {o i : Expr} {to ti : TE} {t : TSet} (ho : PE X o to) (hi : PE X i ti) (hs : PSet X t)
  (ha : ∀ v, assign (.Subscript o i pos) X.env v = (do
   let ov ← holding [v] (eval o X.env)
   let iv ← holding [v, ov] (eval i X.env)
   standAt pos
   holding [v, ov, iv] (setItem ov iv v)
   release [v, ov, iv] []) := by intro _; rfl) : PG X (.Subscript o i pos) (gSub to ti t) := by
 intro pins s σ H v u Q I r h
 rw [ha]
 refine wpAny_bind (wpAny_holding (thn (ho pins s σ H _ I h) fun ov s1 ⟨x, H1, I1, r1, q1⟩ => ?_))
 refine wpAny_bind (wpAny_holding (thn (hi pins s1 σ H1 _ I1 q1) fun iv s2 ⟨y, H2, I2, r2, q2⟩ => ?_))
 refine wpAny_bind (wpAny_standAt (wpAny_bind (wpAny_holding (thn (hs pins s2 σ H2 x y v ov iv u _ I2 r1 r2 r q2) fun _ s3 ⟨H3, I3, q3⟩ => ?_))))
 exact wpAny_release ⟨σ, H3, I3, q3⟩
def tAsg (te : TE) (g : TG) : TS := fun D σ H => te σ H fun x H1 => g x σ H1 D.nx
theorem ps_asg {tg e : Expr} {te : TE} {g : TG} (he : PE X e te) (hg : PG X tg g) (hs : swapsWithSole [tg] e pos.line X.env = pure false := by rfl) (hw : swappedStores [tg] e X.env = pure none := by rfl)
  (h1 : (assignEach [tg] X.env).map (·.2) = [assign tg X.env] := by rfl) : PS X (.Assign [tg] e pos) (tAsg te g) := by
 intro pins s σ H D I h
 refine wpAny_Assign_stores (thn (he pins s σ H _ I h) fun v s1 ⟨x, H1, I1, r1, q1⟩ => ?_) hs hw
 rw [h1]
 exact thn (hg pins s1 σ H1 x v _ I1 r1 q1) fun _ s2 q => q
theorem ps_set {i : Nat} {x : Str} {e : Expr} {te : TE} {pos' : Pos} (hN : X.N.Nodup) (hi : X.N[i]? = some x) (hx : Loc X.env.scope x) (he : PE X e te) (hs : swapsWith e (some (.Name x pos')) pos.line X.env = pure false := by rfl) (hf : X.fn x = true ∨ X.env.scope.names.lookup x = some .local := by first | exact .inl rfl | exact .inr rfl | assumption) :
  PS X (.Assign [.Name x pos'] e pos) (tAsg te (gName i)) := by
 intro pins s σ H D I h
 refine wpAny_Assign_Name (thn (he pins s σ H _ I h) fun v s1 ⟨y, H1, I1, r1, q1⟩ => ?_) hs
 exact store_ok I1 hN hi hx r1 (fun s2 I2 => ⟨_, H1, I2, q1⟩) hf
end
section
variable {X : Cx} {pos : Pos}
def tWhile (c : TT) (tb : TS) : TS := fun D σ H => ∃ W : Nat → St → Hp → Prop, (∃ m, W m σ H) ∧ ∀ m σ H, W m σ H →
 c σ H fun b H1 => if b = true then ∃ N : St → Hp → Prop, (∀ σ' H', N σ' H' → ∃ m', m' < m ∧ W m' σ' H') ∧ tb { D with nx := N, ct := N, bk := D.nx } σ H1 else D.nx σ H1
theorem ps_while {c : Expr} {body : List Stmt} {tc : TT} {tb : TS} (hp : PassesOwn (model X.prog X.w) X.A X.env X.xe) (hc : PT X c tc) (hb : PSs X body tb) : PS X (.While c body [] pos) (tWhile tc tb) := by
 intro pins s σ H D I h
 obtain ⟨W, ⟨m0, w0⟩, turn⟩ := h
 refine wpAny_While (codeAny_whileLoop (fun n s' => ∃ σ' H', Inv X pins σ' H' s' ∧ W n σ' H') ?_ m0 ⟨σ, H, I, w0⟩)
 rintro n s1 ⟨σ1, H1, I1, w1⟩
 refine wpAny_passesOwn hp (thn (hc pins s1 σ1 H1 _ I1 (turn n σ1 H1 w1)) fun b s2 ⟨H2, I2, q2⟩ => ?_)
 cases b with
 | true =>
  obtain ⟨N, hN, q2⟩ := q2
  rw [if_pos rfl]
  refine wpAny_passesOwn hp (thn (hb pins s2 σ1 H2 _ I2 q2) fun f s3 q3 => ?_)
  cases f with
  | next =>
   obtain ⟨σ3, H3, I3, n3⟩ := q3
   obtain ⟨m', hm, w3⟩ := hN σ3 H3 n3
   exact ⟨m', hm, σ3, H3, I3, w3⟩
  | cont =>
   obtain ⟨σ3, H3, I3, n3⟩ := q3
   obtain ⟨m', hm, w3⟩ := hN σ3 H3 n3
   exact ⟨m', hm, σ3, H3, I3, w3⟩
  | brk => exact q3
  | ret v => exact q3
 | false =>
  rw [if_neg Bool.false_ne_true]
  exact wpAny_execs_nil ⟨σ1, H2, I2, q2⟩
end
structure It where
 go : Nat → Hp → Prop
 yld : Nat → Hp → V → Hp → Prop
 stop : Nat → Hp → Prop
def FpOk (X : Cx) (pins : List (Addr × Obj)) (H : Hp) (b : Addr) : Prop :=
 H b = none ∧ b ≠ X.env.locals ∧ b ∉ X.fs ∧ (b ∈ X.ex ∨ X.s₀.heap.objs.size ≤ b) ∧ (∀ x c, X.env.cells.lookup x = some c → c ≠ b) ∧ ∀ p ∈ X.pn ++ pins, p.1 ≠ b
theorem Inv.fpOk {X : Cx} {pins : List (Addr × Obj)} {σ : St} {H H' : Hp} {s : Shared} {b : Addr} (I : Inv X pins σ H s) (hb : s.heap.objs.size ≤ b) (hn : H' b = none) : FpOk X pins H' b := by
 refine ⟨hn, Nat.ne_of_gt (Nat.lt_of_lt_of_le I.lt hb), I.nofs hb, .inr (Nat.le_trans I.sz hb), fun x c e z => ?_, fun p hp z => ?_⟩
 ·obtain ⟨v, q⟩ := I.cell x c e
  exact absurd (Nat.lt_of_lt_of_le q.lt (by rw [z]; exact hb)) (Nat.lt_irrefl _)
 ·exact absurd (Nat.lt_of_lt_of_le (Heap.lt_size (I.pin p hp).1) (by rw [z]; exact hb)) (Nat.lt_irrefl _)
structure Turn (P : Program) (w : World) (K : PySem.W.Frag) (tg : Expr) (J : It) (fp : List Addr) (it : Addr) (tn : Nat → Heap → Prop) : Prop where
 mem : it ∈ fp
 obj : ∀ i h, tn i h → ∀ b ∈ fp, ∃ o, h.get? b = some o ∧ ∀ v, o.data ≠ .cell v
 keep : ∀ i h h', tn i h → (∀ b ∈ fp, ∀ o, h.get? b = some o → h'.get? b = some o) → tn i h'
 item : ∀ (X : Cx), X.prog = P → X.w = w → X.K = K → X.calm = true → ∀ (i : Nat) (pins : List (Addr × Obj)) (s : Shared) (σ : St) (H : Hp) (E : Value → Shared → Prop), Inv X pins σ H s → (∀ b ∈ fp, FpOk X pins H b) → tn i s.heap → J.go i H →
  wpAny (model P w) X.A (pyNext (.ref it)) (fun r s1 => ∃ u, r = some u ∧
   wpAny (model P w) X.A (letOwnedTupleGo tg (.ref it) u) (fun _ s2 => ∃ x H', Inv X pins σ H' s2 ∧ RelV x u ∧ J.yld i H x H' ∧ tn (i + 1) s2.heap ∧ ∀ b ∈ fp, H' b = none) E s1) E s
 done : ∀ (X : Cx), X.prog = P → X.w = w → X.K = K → X.calm = true → ∀ (i : Nat) (pins : List (Addr × Obj)) (s : Shared) (σ : St) (H : Hp) (E : Value → Shared → Prop), Inv X pins σ H s → (∀ b ∈ fp, FpOk X pins H b) → tn i s.heap → J.stop i H →
  wpAny (model P w) X.A (pyNext (.ref it)) (fun r s1 => r = none ∧ Inv X pins σ H s1) E s
 self : ∀ (A : Around) (i : Nat) (s : Shared) (Q : Value → Shared → Prop) (E : Value → Shared → Prop), tn i s.heap → Q (.ref it) s → wpAny (model P w) A (pyIter (.ref it)) Q E s
abbrev TI := St → Hp → (It → Hp → Prop) → Prop
def PIE (X : Cx) (pins : List (Addr × Obj)) (σ : St) (tg : Expr) (R : It → Hp → Prop) (itv : Value) (s2 : Shared) : Prop :=
 ∃ (it : Addr) (fp : List Addr) (tn : Nat → Heap → Prop) (J : It) (H' : Hp), itv = .ref it ∧ Inv X pins σ H' s2 ∧ Turn X.prog X.w X.K tg J fp it tn ∧ tn 0 s2.heap ∧ (∀ b ∈ fp, FpOk X pins H' b) ∧ R J H'
def PI (X : Cx) (tg iter : Expr) (wi : TI) : Prop :=
 ∀ (pins : List (Addr × Obj)) (s : Shared) (σ : St) (H : Hp) (R : It → Hp → Prop), Inv X pins σ H s → wi σ H R →
  wpAny (model X.prog X.w) X.A (eval iter X.env) (fun v s1 => wpAny (model X.prog X.w) X.A (pyIter v) (PIE X pins σ tg R) X.xe s1) X.xe s
theorem go_of {M : Model} {A : Around} {E : Value → Shared → Prop} {s : Shared} {tg : Expr} {it : Addr} {u : Value} {o : Obj} {n : String} {vs : Array Value} {Q : Unit → Shared → Prop} (ho : s.heap.get? it = some o) (hc : o.cls = .type n) (hd : o.data = .fields vs)
    (hn : ["enumerate", "zip", "dict_itemiterator", "dict_reverseitemiterator", "odict_iterator", "itertools.zip_longest", "itertools.pairwise"].contains n = false) (hQ : Q () s) : wpAny M A (letOwnedTupleGo tg (.ref it) u) Q E s := by
  unfold letOwnedTupleGo
  cases tg <;> first
    | exact wpAny_pure hQ
    | (cases u <;> first
        | exact wpAny_pure hQ
        | (refine wpAny_bind (wpAny_load ho ?_)
           rw [hc, hd]
           show wpAny M A (if (["enumerate", "zip", "dict_itemiterator", "dict_reverseitemiterator", "odict_iterator", "itertools.zip_longest", "itertools.pairwise"].contains n && vs[0]? == some (rawInt _)) = true then _ else _) Q E s
           rw [if_neg (by intro h; rw [hn, Bool.false_and] at h; cases h)]
           exact wpAny_pure hQ))
def Itl (K : PySem.W.Frag) (a : Addr) : It :=
 ⟨fun i H => ∃ xs x, SqL K H a xs ∧ xs[i]? = some x, fun i H x H' => H' = H ∧ ∀ xs, SqL K H a xs → xs[i]? = some x, fun i H => ∃ xs, SqL K H a xs ∧ xs.length ≤ i⟩
def Itr (lo : Int) (n : Nat) : It := ⟨fun i _ => i < n, fun i H x H' => H' = H ∧ x = .int (lo + i), fun i _ => n ≤ i⟩
theorem turn_list {P : Program} {w : World} {K : PySem.W.Frag} {tg : Expr} (a it : Addr) : Turn P w K tg (Itl K a) [it] it (fun i h => h.IsListIter it a i) where
 mem := by simp
 obj := fun i h st b hb => by
  have e : b = it := by simpa using hb
  subst e
  obtain ⟨o, e, c, d⟩ := st
  exact ⟨o, e, fun v z => by rw [d] at z; cases z⟩
 keep := fun i h h' st k => st.at fun o e => k it (by simp) o e
 item := by
  intro X hP hw hK hc i pins s σ H E I hf st hg
  subst hP hw hK
  obtain ⟨xs, x, hq, hx⟩ := hg
  obtain ⟨its, rv, p, hz⟩ := I.list hq
  obtain ⟨u, hu, ru⟩ := rv.get hx
  obtain ⟨f0, f1, f2, f3, f4, f5⟩ := hf it (by simp)
  refine wpAny_pyNext_list_item st p.isList (x := u) (by simpa using hu) fun h' st' sb => ?_
  have I1 : Inv X pins σ H { s with heap := h' } := I.turned (t' := s.toks) (fun b o hb e => (sb.2 b hb).trans e) f0 f1 f3 f4 f5
  obtain ⟨o, e, c, d⟩ := id st'
  exact ⟨u, rfl, go_of (s := { s with heap := h' }) e c d (by decide) ⟨x, H, I1, ru, ⟨rfl, fun ys hy => by rw [I.list_inj hy hq]; exact hx⟩, st', fun b hb => (hf b hb).1⟩⟩
 done := by
  intro X hP hw hK hc i pins s σ H E I hf st hg
  subst hP hw hK
  obtain ⟨xs, hq, hx⟩ := hg
  obtain ⟨its, rv, p, hz⟩ := I.list hq
  obtain ⟨f0, f1, f2, f3, f4, f5⟩ := hf it (by simp)
  have hl := rv.length
  exact wpAny_pyNext_list_end (I.ok.hd hc) st p.isList (by simp; omega) fun h' eb => ⟨rfl, I.turned (t' := s.toks) (fun b o hb e => eb b o hb e) f0 f1 f3 f4 f5⟩
 self := fun _ _ _ _ _ st h => wpAny_pyIter_listiter st h
theorem turn_range {P : Program} {w : World} {K : PySem.W.Frag} {tg : Expr} (it : Addr) (lo : Int) (n : Nat) : Turn P w K tg (Itr lo n) [it] it (fun i h => IsRangeIter h it (lo + (i : Nat) * 1) ((n : Int) - (i : Nat)) 1) where
 mem := by simp
 obj := fun i h st b hb => by
  have e : b = it := by simpa using hb
  subst e
  exact ⟨_, st, fun v z => by
   have z' : Data.fields _ = Data.cell v := z
   cases z'⟩
 keep := fun i h h' st k => k it (by simp) _ st
 item := by
  intro X hP hw hK hc i pins s σ H E I hf st hg
  subst hP hw hK
  obtain ⟨f0, f1, f2, f3, f4, f5⟩ := hf it (by simp)
  have W := Walks.range (prog := X.prog) (w := X.w) (I.ok.hd hc) it lo 1 n
  refine W.item i s _ _ hg st fun v h' tk hv st' kk => ?_
  obtain ⟨t, rfl⟩ := hv
  have I1 : Inv X pins σ H { s with heap := h', toks := tk } := I.turned (fun b o hb e => kk b o (by simpa using hb) e) f0 f1 f3 f4 f5
  refine ⟨_, rfl, go_of (s := { s with heap := h', toks := tk }) (n := "range_iterator") st' rfl rfl (by decide) ⟨.int (lo + i), H, I1, ⟨t, ?_⟩, ⟨rfl, rfl⟩, st', fun b hb => (hf b hb).1⟩⟩
  rw [Int.mul_one]
 done := by
  intro X hP hw hK hc i pins s σ H E I hf st hg
  subst hP hw hK
  obtain ⟨f0, f1, f2, f3, f4, f5⟩ := hf it (by simp)
  exact wpAny_pyNext_range_end (I.ok.hd hc) st (by have : n ≤ i := hg; omega) fun h' eb => ⟨rfl, I.turned (t' := s.toks) (fun b o hb e => eb b o hb e) f0 f1 f3 f4 f5⟩
 self := fun _ _ _ _ _ st h => wpAny_pyIter_rangeiter st h
end L2
namespace L2
open PySem PySem.Spec PyProof.Rows
section
variable {X : Cx} {tg : Expr}
def iList (K : PySem.W.Frag) (tl : TE) : TI := fun σ H R => tl σ H fun x H1 => ∃ a, x = .ref a ∧ (∃ xs, SqL K H1 a xs) ∧ R (Itl K a) H1
theorem pi_list {l : Expr} {tl : TE} (hl : PE X l tl) : PI X tg l (iList X.K tl) := by
 intro pins s σ H R I h
 refine thn (hl pins s σ H _ I h) fun v s1 ⟨x, H1, I1, r1, q1⟩ => ?_
 obtain ⟨a, e, ⟨xs, hq⟩, q⟩ := q1
 subst e
 cases r1
 obtain ⟨its, rv, p, hz⟩ := I1.list hq
 refine wpAny_pyIter_list p.isList ?_
 refine ⟨s1.heap.objs.size, [s1.heap.objs.size], _, _, H1, rfl, I1.kept (t' := s1.toks) fun b o e => Heap.get?_push_of_some _ e, turn_list a _, ⟨_, Heap.get?_push_size _ rfl, rfl, rfl⟩, fun b hb => ?_, q⟩
 have e : b = s1.heap.objs.size := by simpa using hb
 subst e
 exact I1.fpOk (Nat.le_refl _) (I1.hok.fresh (Nat.le_refl _))
theorem range_it {pins : List (Addr × Obj)} {σ : St} {H : Hp} {s : Shared} {R : It → Hp → Prop} {E : Value → Shared → Prop} {lo hi : Int} {t u v : Tok} {tk : Nat} (I : Inv X pins σ H s) (h1 : -(2 ^ 62) ≤ lo) (h2 : lo < 2 ^ 62) (h3 : -(2 ^ 62) ≤ hi) (h4 : hi < 2 ^ 62)
  (q : R (Itr lo (hi - lo).toNat) H) : wpAny (model X.prog X.w) X.A (pyIter (.ref s.heap.objs.size)) (PIE X pins σ tg R) E { s with heap := s.heap.push { cls := .type "range", data := .fields #[.int lo t, .int hi u, .int 1 v] }, toks := tk } := by
 refine wpAny_pyIter_range (IsRange.new ..) (small_one h1 h2 h3 h4) ?_
 have I1 : Inv X pins σ H { s with heap := s.heap.push { cls := .type "range", data := .fields #[.int lo t, .int hi u, .int 1 v] }, toks := tk } := I.kept fun b o e => Heap.get?_push_of_some _ e
 refine ⟨(s.heap.push { cls := .type "range", data := .fields #[.int lo t, .int hi u, .int 1 v] }).objs.size, [(s.heap.push { cls := .type "range", data := .fields #[.int lo t, .int hi u, .int 1 v] }).objs.size], _, _, H, rfl,
  I1.kept (t' := tk) fun b o e => Heap.get?_push_of_some _ e, turn_range _ lo (hi - lo).toNat, ?_, fun b hb => ?_, q⟩
 ·have e1 : lo + ((0 : Nat) : Int) * 1 = lo := by simp
  have e2 : (((hi - lo).toNat : Nat) : Int) - ((0 : Nat) : Int) = Builtin.Range.rangeSize lo hi 1 := by rw [rangeSize_one]; split <;> omega
  show IsRangeIter _ _ (lo + ((0 : Nat) : Int) * 1) ((((hi - lo).toNat : Nat) : Int) - ((0 : Nat) : Int)) 1
  rw [e1, e2]
  exact Heap.get?_push_size _ rfl
 ·have e : b = (s.heap.push { cls := .type "range", data := .fields #[.int lo t, .int hi u, .int 1 v] }).objs.size := by simpa using hb
  subst e
  exact I1.fpOk (Nat.le_refl _) (I1.hok.fresh (Nat.le_refl _))
def iRng1 (ta : TA) : TI := fun σ H R => ta σ H fun vs H1 => ∃ j : Int, vs = [.int j] ∧ -(2 ^ 62) ≤ j ∧ j < 2 ^ 62 ∧ R (Itr 0 j.toNat) H1
theorem pi_range1 {a : Expr} {ta : TA} {p pos : Pos} (hg : Gl X "range") (hm : X.mg "range" = none) (ha : PA X [a] ta) (hs : starEach [a] X.env = [(false, eval a X.env)] := by rfl) : PI X tg (.Call (.Name "range" p) [a] [] pos) (iRng1 ta) := by
 intro pins s σ H R I h
 refine Call_ (ld_blt I hg hm boot_range (PyProof.Rows.callWith_type1 (thn (ha pos pins s σ H _ I h) fun us s1 ⟨vs, H1, I1, r1, q1⟩ => ?_) hs rfl))
 obtain ⟨j, e, q1, q2, q⟩ := q1
 subst e
 cases r1 with
 | cons r rr =>
  cases rr
  obtain ⟨t, rfl⟩ := r
  exact call_range_1 (range_it I1 (by omega) (by omega) q1 q2 (by simpa using q))
def tFor (wi : TI) (g : TG) (tb : TS) : TS := fun D σ H => wi σ H fun J H1 => ∃ W : Nat → Nat → St → Hp → Prop, (∃ m, W 0 m σ H1) ∧ ∀ i m σ H, W i m σ H →
 (J.stop i H ∧ D.nx σ H) ∨ (J.go i H ∧ ∃ N : St → Hp → Prop, (∀ σ' H', N σ' H' → ∃ m', m' < m ∧ W (i + 1) m' σ' H') ∧ ∀ x H', J.yld i H x H' → g x σ H' fun σ2 H2 => tb { D with nx := N, ct := N, bk := D.nx } σ2 H2)
def pinsAt (fp : List Addr) (h : Heap) : List (Addr × Obj) := fp.filterMap fun b => (h.get? b).map fun o => (b, o)
theorem mem_pinsAt {fp : List Addr} {h : Heap} {b : Addr} {o : Obj} (hb : b ∈ fp) (e : h.get? b = some o) : (b, o) ∈ pinsAt fp h := List.mem_filterMap.mpr ⟨b, hb, by rw [e]; rfl⟩
theorem of_pinsAt {fp : List Addr} {h : Heap} {p : Addr × Obj} (hp : p ∈ pinsAt fp h) : p.1 ∈ fp ∧ h.get? p.1 = some p.2 := by
 obtain ⟨b, hb, e⟩ := List.mem_filterMap.mp hp
 cases q : h.get? b with
 | none => rw [q] at e; cases e
 | some o =>
  rw [q] at e
  have e' : (b, o) = p := Option.some.inj e
  subst e'
  exact ⟨hb, q⟩
theorem Inv.pinned {pins : List (Addr × Obj)} {σ : St} {H : Hp} {s : Shared} {fp : List Addr} (I : Inv X pins σ H s) (hf : ∀ b ∈ fp, FpOk X pins H b) (ho : ∀ b ∈ fp, ∃ o, s.heap.get? b = some o ∧ ∀ v, o.data ≠ .cell v) : Inv X (pins ++ pinsAt fp s.heap) σ H s :=
 I.pins_of fun p hp => (List.mem_append.mp hp).elim (fun z => I.pin p (List.mem_append_right _ z)) fun z => by
  obtain ⟨hb, e⟩ := of_pinsAt z
  obtain ⟨f0, f1, f2, _⟩ := hf p.1 hb
  obtain ⟨o, e', d⟩ := ho p.1 hb
  rw [e] at e'; cases e'
  exact ⟨e, f0, f1, f2, d⟩
theorem Inv.unpinned {pins pl : List (Addr × Obj)} {σ : St} {H : Hp} {s : Shared} (I : Inv X (pins ++ pl) σ H s) : Inv X pins σ H s := I.pins_of fun p hp => I.pin p (List.mem_append_right _ (List.mem_append_left _ hp))
theorem ps_for {iter : Expr} {body : List Stmt} {wi : TI} {g : TG} {tb : TS} {pos : Pos} (hp : PassesOwn (model X.prog X.w) X.A X.env X.xe) (hc : X.calm = true) (hi : PI X tg iter wi) (hg : PG X tg g) (hb : PSs X body tb)
  (hs : ∀ x, foldedSetIterable iter X.env x = pure x := by intro _; rfl) : PS X (.For tg iter body [] pos) (tFor wi g tb) := by
 intro pins s σ H D I h
 refine wpAny_For (thn (hi pins s σ H _ I h) fun v s1 h1 => thn h1 fun itv s2 h2 => ?_) hs
 obtain ⟨it, fp, tn, J, H2, e, I2, T, st2, f2, W, ⟨m0, w0⟩, turn⟩ := h2
 subst e
 have stat : ∀ {H' : Hp}, (∀ b ∈ fp, H' b = none) → ∀ b ∈ fp, FpOk X pins H' b := fun hn b hb => ⟨hn b hb, (f2 b hb).2⟩
 refine codeAny_forLoop_any (fun n s' => ∃ i σ' H', Inv X pins σ' H' s' ∧ tn i s'.heap ∧ (∀ b ∈ fp, H' b = none) ∧ W i n σ' H') ?_ m0 ⟨0, σ, H2, I2, st2, fun b hb => (f2 b hb).1, w0⟩
 rintro n s3 ⟨i, σ3, H3, I3, st3, fr3, w3⟩
 rcases turn i n σ3 H3 w3 with ⟨stop, qn⟩ | ⟨go, N, hN, step⟩
 ·refine wpAny_passesOwn hp (thn (T.done X rfl rfl rfl hc i pins s3 σ3 H3 X.xe I3 (stat fr3) st3 stop) fun r s4 ⟨hr, I4⟩ => ?_)
  subst hr
  exact wpAny_execs_nil ⟨σ3, H3, I4, qn⟩
 ·refine wpAny_passesOwn hp (thn (T.item X rfl rfl rfl hc i pins s3 σ3 H3 X.xe I3 (stat fr3) st3 go) fun r s4 ⟨u, hr, h4⟩ => ?_)
  subst hr
  refine wpAny_passesOwn hp (thn h4 fun _ s5 ⟨x, H5, I5, r5, y5, st5, fr5⟩ => ?_)
  have I5' := I5.pinned (stat fr5) (T.obj _ _ st5)
  refine wpAny_passesOwn hp (thn (hg _ s5 σ3 H5 x u _ I5' r5 (step x H5 y5)) fun _ s6 ⟨σ6, H6, I6, q6⟩ => ?_)
  refine wpAny_passesOwn hp (thn (hb _ s6 σ6 H6 _ I6 q6) fun f s7 q7 => ?_)
  have again : ∀ {σ7 : St} {H7 : Hp}, Inv X (pins ++ pinsAt fp s5.heap) σ7 H7 s7 → N σ7 H7 → ∃ m, m < n ∧ ∃ i σ' H', Inv X pins σ' H' s7 ∧ tn i s7.heap ∧ (∀ b ∈ fp, H' b = none) ∧ W i m σ' H' := fun {σ7 H7} I7 n7 => by
   obtain ⟨m', hm, w7⟩ := hN σ7 H7 n7
   refine ⟨m', hm, i + 1, σ7, H7, I7.unpinned, T.keep _ _ _ st5 fun b hb o e => (I7.pin (b, o) (List.mem_append_right _ (List.mem_append_right _ (mem_pinsAt hb e)))).1, fun b hb => ?_, w7⟩
   obtain ⟨o, e, d⟩ := T.obj _ _ st5 b hb
   exact (I7.pin (b, o) (List.mem_append_right _ (List.mem_append_right _ (mem_pinsAt hb e)))).2.1
  cases f with
  | next => obtain ⟨σ7, H7, I7, n7⟩ := q7; exact again I7 n7
  | cont => obtain ⟨σ7, H7, I7, n7⟩ := q7; exact again I7 n7
  | brk => obtain ⟨σ7, H7, I7, q7⟩ := q7; exact ⟨σ7, H7, I7.unpinned, q7⟩
  | ret v => obtain ⟨x7, σ7, H7, I7, r7, q7⟩ := q7; exact ⟨x7, σ7, H7, I7.unpinned, r7, q7⟩
end
theorem for_list {K : PySem.W.Frag} {a : Addr} {xs : List V} {g : TG} {tb : TS} {D : Ends} {σ : St} {H : Hp} (Pv : Nat → St → Hp → Prop) (h0 : Pv 0 σ H) (hl : ∀ i σ H, i ≤ xs.length → Pv i σ H → SqL K H a xs)
  (hs : ∀ i x σ H, xs[i]? = some x → Pv i σ H → g x σ H fun σ2 H2 => tb { D with nx := Pv (i + 1), ct := Pv (i + 1), bk := D.nx } σ2 H2) (hd : ∀ σ H, Pv xs.length σ H → D.nx σ H) :
  ∃ W : Nat → Nat → St → Hp → Prop, (∃ m, W 0 m σ H) ∧ ∀ i m σ H, W i m σ H →
   ((Itl K a).stop i H ∧ D.nx σ H) ∨ ((Itl K a).go i H ∧ ∃ N : St → Hp → Prop, (∀ σ' H', N σ' H' → ∃ m', m' < m ∧ W (i + 1) m' σ' H') ∧ ∀ x H', (Itl K a).yld i H x H' → g x σ H' fun σ2 H2 => tb { D with nx := N, ct := N, bk := D.nx } σ2 H2) := by
 refine ⟨fun i m σ H => m = xs.length - i ∧ i ≤ xs.length ∧ Pv i σ H, ⟨xs.length, by simp, Nat.zero_le _, h0⟩, ?_⟩
 rintro i m σ H ⟨rfl, hi, p⟩
 have q := hl i σ H hi p
 by_cases hlt : i < xs.length
 ·refine .inr ⟨⟨xs, xs[i], q, by simp [hlt]⟩, Pv (i + 1), fun σ' H' p' => ⟨xs.length - (i + 1), by omega, rfl, hlt, p'⟩, fun x H' y => ?_⟩
  obtain ⟨e, y⟩ := y
  subst e
  exact hs i x σ _ (y xs q) p
 ·have e : i = xs.length := by omega
  subst e
  exact .inl ⟨⟨xs, q, Nat.le_refl _⟩, hd σ H p⟩
theorem for_range {lo : Int} {n : Nat} {g : TG} {tb : TS} {D : Ends} {σ : St} {H : Hp} (Pv : Nat → St → Hp → Prop) (h0 : Pv 0 σ H)
  (hs : ∀ i σ H, i < n → Pv i σ H → g (.int (lo + i)) σ H fun σ2 H2 => tb { D with nx := Pv (i + 1), ct := Pv (i + 1), bk := D.nx } σ2 H2) (hd : ∀ σ H, Pv n σ H → D.nx σ H) :
  ∃ W : Nat → Nat → St → Hp → Prop, (∃ m, W 0 m σ H) ∧ ∀ i m σ H, W i m σ H →
   ((Itr lo n).stop i H ∧ D.nx σ H) ∨ ((Itr lo n).go i H ∧ ∃ N : St → Hp → Prop, (∀ σ' H', N σ' H' → ∃ m', m' < m ∧ W (i + 1) m' σ' H') ∧ ∀ x H', (Itr lo n).yld i H x H' → g x σ H' fun σ2 H2 => tb { D with nx := N, ct := N, bk := D.nx } σ2 H2) := by
 refine ⟨fun i m σ H => m = n - i ∧ i ≤ n ∧ Pv i σ H, ⟨n, by simp, Nat.zero_le _, h0⟩, ?_⟩
 rintro i m σ H ⟨rfl, hi, p⟩
 by_cases hlt : i < n
 ·refine .inr ⟨hlt, Pv (i + 1), fun σ' H' p' => ⟨n - (i + 1), by omega, rfl, hlt, p'⟩, fun x H' y => ?_⟩
  obtain ⟨e, y⟩ := y
  subst e y
  exact hs i σ _ hlt p
 ·have e : i = n := by omega
  subst e
  exact .inl ⟨Nat.le_refl _, hd σ H p⟩
end L2
namespace L2
open PySem PySem.Spec PyProof.Rows
abbrev R2 := V → V → Hp → VK → Prop
def OpR (X : Cx) (f : Value → Value → Sem Value) (r : R2) : Prop :=
 ∀ (pins : List (Addr × Obj)) (s : Shared) (σ : St) (H : Hp) (x y : V) (v u : Value) (Q : VK), Inv X pins σ H s → RelV x v → RelV y u → r x y H Q →
  wpAny (model X.prog X.w) X.A (f v u) (EP X pins σ Q) X.xe s
def UnR (X : Cx) (f : Value → Sem Value) (r : V → Hp → VK → Prop) : Prop :=
 ∀ (pins : List (Addr × Obj)) (s : Shared) (σ : St) (H : Hp) (x : V) (v : Value) (Q : VK), Inv X pins σ H s → RelV x v → r x H Q →
  wpAny (model X.prog X.w) X.A (f v) (EP X pins σ Q) X.xe s
def CallR (X : Cx) (f : Value) (r : List V → Hp → VK → Prop) : Prop :=
 ∀ (pins : List (Addr × Obj)) (s : Shared) (σ : St) (H : Hp) (xs : List V) (us : List Value) (Q : VK), Inv X pins σ H s → Vals xs us → r xs H Q →
  wpAny (model X.prog X.w) X.A (call f us) (EP X pins σ Q) X.xe s
def tOp (r : R2) (ta tb : TE) : TE := fun σ H Q => ta σ H fun x H1 => tb σ H1 fun y H2 => r x y H2 Q
def tUn (r : V → Hp → VK → Prop) (ta : TE) : TE := fun σ H Q => ta σ H fun x H1 => r x H1 Q
def rI (C : Int → Int → Prop) (g : Int → Int → V) : R2 := fun x y H Q => ∃ i j, x = .int i ∧ y = .int j ∧ C i j ∧ Q (g i j) H
def rI0 (g : Int → Int → V) : R2 := fun x y H Q => ∃ i j, x = .int i ∧ y = .int j ∧ Q (g i j) H
def rU (g : Int → V) : V → Hp → VK → Prop := fun x H Q => ∃ i, x = .int i ∧ Q (g i) H
section
variable {X : Cx} {a b c : Expr} {ta tb tc : TE} {pos : Pos}
theorem binT (ha : PE X a ta) (hb : PE X b tb) {pins : List (Addr × Obj)} {s : Shared} {σ : St} {H : Hp} {R : V → V → Hp → Prop} (I : Inv X pins σ H s)
  (h : ta σ H fun x H1 => tb σ H1 fun y H2 => R x y H2) {Q : Value → Shared → Prop} {f : Value → Value → Sem Value}
  (hf : ∀ v u s2 x y H2, Inv X pins σ H2 s2 → RelV x v → RelV y u → R x y H2 → wpAny (model X.prog X.w) X.A (f v u) Q X.xe s2) :
  wpAny (model X.prog X.w) X.A (eval a X.env) (fun v s₁ => wpAny (model X.prog X.w) X.A (eval b X.env) (fun u s₂ => wpAny (model X.prog X.w) X.A (f v u) Q X.xe s₂) X.xe s₁) X.xe s := by
 refine thn (ha pins s σ H _ I h) fun v s1 ⟨x, H1, I1, r1, q1⟩ => ?_
 refine thn (hb pins s1 σ H1 _ I1 q1) fun u s2 ⟨y, H2, I2, r2, q2⟩ => ?_
 exact hf v u s2 x y H2 I2 r1 r2 q2
theorem pe_op {op : Operator} {r : R2} (ho : OpR X (binaryOp op) r) (ha : PE X a ta) (hb : PE X b tb) : PE X (.BinOp a op b pos) (tOp r ta tb) := by
 intro pins s σ H Q I h
 exact wpAny_BinOp (binT ha hb I h fun v u s2 x y H2 I2 rx ry q => ho pins s2 σ H2 x y v u Q I2 rx ry q)
theorem pe_un {op : UnaryOp} {r : V → Hp → VK → Prop} (ho : UnR X (unaryOp op) r) (ha : PE X a ta) : PE X (.UnaryOp op a pos) (tUn r ta) := by
 intro pins s σ H Q I h
 exact UnaryOp_ (thn (ha pins s σ H _ I h) fun v s1 ⟨x, H1, I1, r1, q1⟩ => ho pins s1 σ H1 x v Q I1 r1 q1)
theorem opI {f : Value → Value → Sem Value} {C : Int → Int → Prop} {g : Int → Int → Int}
  (rule : ∀ (i j : Int) (t u : Tok) (s : Shared) (Q : Value → Shared → Prop) (E : Value → Shared → Prop), C i j → Q (.int (g i j) s.toks) { s with toks := s.toks + 1 } → wpAny (model X.prog X.w) X.A (f (.int i t) (.int j u)) Q E s) :
  OpR X f (rI C fun i j => .int (g i j)) := by
 intro pins s σ H x y v u Q I rx ry h
 obtain ⟨i, j, rfl, rfl, hc, q⟩ := h
 obtain ⟨t, rfl⟩ := rx
 obtain ⟨t', rfl⟩ := ry
 exact rule i j t t' s _ _ hc ⟨.int (g i j), H, I.tok _, ⟨_, rfl⟩, q⟩
theorem opI0 {f : Value → Value → Sem Value} {g : Int → Int → Int}
  (rule : ∀ (i j : Int) (t u : Tok) (s : Shared) (Q : Value → Shared → Prop) (E : Value → Shared → Prop), Q (.int (g i j) s.toks) { s with toks := s.toks + 1 } → wpAny (model X.prog X.w) X.A (f (.int i t) (.int j u)) Q E s) :
  OpR X f (rI0 fun i j => .int (g i j)) := by
 intro pins s σ H x y v u Q I rx ry h
 obtain ⟨i, j, rfl, rfl, q⟩ := h
 obtain ⟨t, rfl⟩ := rx
 obtain ⟨t', rfl⟩ := ry
 exact rule i j t t' s _ _ ⟨.int (g i j), H, I.tok _, ⟨_, rfl⟩, q⟩
theorem opB0 {f : Value → Value → Sem Value} {g : Int → Int → Bool}
  (rule : ∀ (i j : Int) (t u : Tok) (s : Shared) (Q : Value → Shared → Prop) (E : Value → Shared → Prop), Q (.bool (g i j)) s → wpAny (model X.prog X.w) X.A (f (.int i t) (.int j u)) Q E s) :
  OpR X f (rI0 fun i j => .bl (g i j)) := by
 intro pins s σ H x y v u Q I rx ry h
 obtain ⟨i, j, rfl, rfl, q⟩ := h
 obtain ⟨t, rfl⟩ := rx
 obtain ⟨t', rfl⟩ := ry
 exact rule i j t t' s _ _ ⟨.bl (g i j), H, I, rfl, q⟩
def CDiv (i j : Int) : Prop := 0 < j ∧ j < 1073741824
def CPow (i j : Int) : Prop := 0 ≤ j ∧ j ≤ 1000000 ∧ i.natAbs < 2 ^ 64
def CMul (i j : Int) : Prop := (-(2 ^ 64) < i ∧ i < 2 ^ 64) ∨ (-(2 ^ 64) < j ∧ j < 2 ^ 64)
theorem CMul.ok {i j : Int} (h : CMul i j) : IntMulOk i j := by
 rcases h with ⟨h1, h2⟩ | ⟨h1, h2⟩
 ·exact .of_left (intBits_le_64 h1 h2)
 ·exact .of_right (intBits_le_64 h1 h2)
theorem op_add : OpR X (binaryOp .Add) (rI0 fun i j => .int (i + j)) := opI0 fun _ _ _ _ _ _ _ q => add_int q
theorem op_sub : OpR X (binaryOp .Sub) (rI0 fun i j => .int (i - j)) := opI0 fun _ _ _ _ _ _ _ q => sub_int q
theorem op_mul : OpR X (binaryOp .Mult) (rI CMul fun i j => .int (i * j)) := opI fun _ _ _ _ _ _ _ hc q => mul_int q hc.ok
theorem op_fdiv : OpR X (binaryOp .FloorDiv) (rI CDiv fun i j => .int (i / j)) := opI fun i j _ _ _ _ _ hc q => by
 have h1 : (0 : Int) < j := hc.1
 have h2 : j < 1073741824 := hc.2
 exact floordiv_int (by omega) (by rw [Int.fdiv_eq_ediv_of_nonneg i (by omega)]; exact q) (.inl (PyProof.noPylong_small (by omega)))
theorem op_mod : OpR X (binaryOp .Mod) (rI (fun _ j => 0 < j) fun i j => .int (i % j)) := opI fun i j _ _ _ _ _ hc q => by
 have h1 : (0 : Int) < j := hc
 exact mod_int' (by omega) (by rw [Int.fmod_eq_emod_of_nonneg i (by omega)]; exact q)
theorem op_pow : OpR X (binaryOp .Pow) (rI CPow fun i j => .int (i ^ j.toNat)) := opI fun _ _ _ _ _ _ _ hc q => pow_int_small hc.1 hc.2.1 hc.2.2 q
theorem op_shl : OpR X (binaryOp .LShift) (rI CPow fun i j => .int (i * 2 ^ j.toNat)) := opI fun _ _ _ _ _ _ _ hc q => lshift_int_small hc.1 hc.2.1 hc.2.2 q
theorem op_and : OpR X (binaryOp .BitAnd) (rI0 fun i j => .int (Builtin.bitAnd i j)) := opI0 fun _ _ _ _ _ _ _ q => and_int q
theorem unI {f : Value → Sem Value} {g : Int → Int}
  (rule : ∀ (i : Int) (t : Tok) (s : Shared) (Q : Value → Shared → Prop) (E : Value → Shared → Prop), Q (.int (g i) s.toks) { s with toks := s.toks + 1 } → wpAny (model X.prog X.w) X.A (f (.int i t)) Q E s) :
  UnR X f (rU fun i => .int (g i)) := by
 intro pins s σ H x v Q I rx h
 obtain ⟨i, rfl, q⟩ := h
 obtain ⟨t, rfl⟩ := rx
 exact rule i t s _ _ ⟨.int (g i), H, I.tok _, ⟨_, rfl⟩, q⟩
theorem un_neg : UnR X (unaryOp .USub) (rU fun i => .int (-i)) := unI fun _ _ _ _ _ q => neg_int q
end
def scal : V → V → Bool
 | .non, .non => true | .non, .int _ => true | .int _, .non => true | .non, .bl _ => true | .bl _, .non => true | .non, .str _ => true | .str _, .non => true
 | .int _, .int _ => true | .bl _, .bl _ => true | .str _, .str _ => true | .byt _, .byt _ => true
 | .int _, .str _ => true | .str _, .int _ => true | .bl _, .str _ => true | .str _, .bl _ => true
 | _, _ => false
def rEq : R2 := fun x y H Q => scal x y = true ∧ Q (.bl (decide (x = y))) H
def rNe : R2 := fun x y H Q => scal x y = true ∧ Q (.bl (!decide (x = y))) H
theorem dec_int {i j : Int} : decide (V.int i = V.int j) = (i == j) := by
 rw [Bool.eq_iff_iff]
 simp
theorem dec_bl {i j : Bool} : decide (V.bl i = V.bl j) = (i == j) := by
 rw [Bool.eq_iff_iff]
 simp
theorem dec_str {i j : Str} : decide (V.str i = V.str j) = (i == j) := by
 rw [Bool.eq_iff_iff]
 simp
theorem dec_byt {i j : Array UInt8} : decide (V.byt i = V.byt j) = (i.toList == j.toList) := by
 rw [Bool.eq_iff_iff]
 cases i
 cases j
 simp
section
variable {X : Cx} {a b c : Expr} {ta tb tc : TE} {pos : Pos}
theorem fin_bl {pins : List (Addr × Obj)} {σ : St} {H : Hp} {s : Shared} {Q : VK} {k k' : Bool} (I : Inv X pins σ H s) (q : Q (.bl k) H) (e : k = k') : EP X pins σ Q (.bool k') s := by
 subst e
 exact ⟨.bl k, H, I, rfl, q⟩
theorem op_eq : OpR X (compareOp .Eq) rEq := by
 intro pins s σ H x y v u Q I rx ry h
 obtain ⟨hs, q⟩ := h
 cases x with
 | non =>
  cases rx
  cases y with
  | non => cases ry; exact PySem.EqNone.eq_none_none (fin_bl I q (by simp))
  | bl j => cases ry; exact PySem.EqNone.eq_none_bool (fin_bl I q (by simp))
  | int j => obtain ⟨t', rfl⟩ := ry; exact PySem.EqNone.eq_none_int (fin_bl I q (by simp))
  | str j => obtain ⟨t', rfl⟩ := ry; exact PySem.EqNone.eq_none_str (fin_bl I q (by simp))
  | _ => exact absurd (show false = true from hs) Bool.false_ne_true
 | bl i =>
  cases rx
  cases y with
  | non => cases ry; exact PySem.EqNone.eq_bool_none (fin_bl I q (by simp))
  | bl j => cases ry; exact eq_bool (fin_bl I q dec_bl)
  | str j => obtain ⟨t', rfl⟩ := ry; exact PySem.EqMixed.eq_bool_str (fin_bl I q (by simp))
  | _ => exact absurd (show false = true from hs) Bool.false_ne_true
 | int i =>
  obtain ⟨t, rfl⟩ := rx
  cases y with
  | non => cases ry; exact PySem.EqNone.eq_int_none (fin_bl I q (by simp))
  | int j => obtain ⟨t', rfl⟩ := ry; exact eq_int (fin_bl I q dec_int)
  | str j => obtain ⟨t', rfl⟩ := ry; exact PySem.EqMixed.eq_int_str (fin_bl I q (by simp))
  | _ => exact absurd (show false = true from hs) Bool.false_ne_true
 | str i =>
  obtain ⟨t, rfl⟩ := rx
  cases y with
  | non => cases ry; exact PySem.EqNone.eq_str_none (fin_bl I q (by simp))
  | bl j => cases ry; exact PySem.EqMixed.eq_str_bool (fin_bl I q (by simp))
  | int j => obtain ⟨t', rfl⟩ := ry; exact PySem.EqMixed.eq_str_int (fin_bl I q (by simp))
  | str j => obtain ⟨t', rfl⟩ := ry; exact eq_str (fin_bl I q dec_str)
  | _ => exact absurd (show false = true from hs) Bool.false_ne_true
 | byt i =>
  obtain ⟨t, rfl⟩ := rx
  cases y with
  | byt j => obtain ⟨t', rfl⟩ := ry; exact PySem.W.eq_bytes (fin_bl I q dec_byt)
  | _ => exact absurd (show false = true from hs) Bool.false_ne_true
 | _ => cases y <;> exact absurd (show false = true from hs) Bool.false_ne_true
theorem op_ne : OpR X (compareOp .NotEq) rNe := by
 intro pins s σ H x y v u Q I rx ry h
 obtain ⟨hs, q⟩ := h
 cases x with
 | non =>
  cases rx
  cases y with
  | non => cases ry; exact PySem.EqNone.ne_none_none (fin_bl I q (by simp))
  | bl j => cases ry; exact PySem.EqNone.ne_none_bool (fin_bl I q (by simp))
  | int j => obtain ⟨t', rfl⟩ := ry; exact PySem.EqNone.ne_none_int (fin_bl I q (by simp))
  | str j => obtain ⟨t', rfl⟩ := ry; exact PySem.EqNone.ne_none_str (fin_bl I q (by simp))
  | _ => exact absurd (show false = true from hs) Bool.false_ne_true
 | bl i =>
  cases rx
  cases y with
  | non => cases ry; exact PySem.EqNone.ne_bool_none (fin_bl I q (by simp))
  | bl j => cases ry; exact ne_bool (fin_bl I q (congrArg not dec_bl))
  | str j => obtain ⟨t', rfl⟩ := ry; exact PySem.EqMixed.ne_bool_str (fin_bl I q (by simp))
  | _ => exact absurd (show false = true from hs) Bool.false_ne_true
 | int i =>
  obtain ⟨t, rfl⟩ := rx
  cases y with
  | non => cases ry; exact PySem.EqNone.ne_int_none (fin_bl I q (by simp))
  | int j => obtain ⟨t', rfl⟩ := ry; exact ne_int (fin_bl I q (congrArg not dec_int))
  | str j => obtain ⟨t', rfl⟩ := ry; exact PySem.EqMixed.ne_int_str (fin_bl I q (by simp))
  | _ => exact absurd (show false = true from hs) Bool.false_ne_true
 | str i =>
  obtain ⟨t, rfl⟩ := rx
  cases y with
  | non => cases ry; exact PySem.EqNone.ne_str_none (fin_bl I q (by simp))
  | bl j => cases ry; exact PySem.EqMixed.ne_str_bool (fin_bl I q (by simp))
  | int j => obtain ⟨t', rfl⟩ := ry; exact PySem.EqMixed.ne_str_int (fin_bl I q (by simp))
  | str j => obtain ⟨t', rfl⟩ := ry; exact ne_str (fin_bl I q (congrArg not dec_str))
  | _ => exact absurd (show false = true from hs) Bool.false_ne_true
 | byt i =>
  obtain ⟨t, rfl⟩ := rx
  cases y with
  | byt j => obtain ⟨t', rfl⟩ := ry; exact PySem.W.ne_bytes (fin_bl I q (congrArg not dec_byt))
  | _ => exact absurd (show false = true from hs) Bool.false_ne_true
 | _ => cases y <;> exact absurd (show false = true from hs) Bool.false_ne_true
theorem op_lt : OpR X (compareOp .Lt) (rI0 fun i j => .bl (decide (i < j))) := opB0 fun _ _ _ _ _ _ _ q => lt_int q
theorem op_le : OpR X (compareOp .LtE) (rI0 fun i j => .bl (decide (i ≤ j))) := opB0 fun _ _ _ _ _ _ _ q => le_int q
theorem op_gt : OpR X (compareOp .Gt) (rI0 fun i j => .bl (decide (j < i))) := opB0 fun _ _ _ _ _ _ _ q => gt_int q
theorem op_ge : OpR X (compareOp .GtE) (rI0 fun i j => .bl (decide (j ≤ i))) := opB0 fun _ _ _ _ _ _ _ q => ge_int q
theorem op_isN : OpR X (compareOp .Is) (fun x y H Q => y = .non ∧ Q (.bl (decide (x = .non))) H) := by
 intro pins s σ H x y v u Q I rx ry h
 obtain ⟨rfl, q⟩ := h
 cases ry
 refine is_none_gen (fin_bl I q ?_)
 cases x <;> first
  | (cases rx; rfl)
  | (obtain ⟨t, rfl⟩ := rx; rfl)
theorem op_notN : OpR X (compareOp .IsNot) (fun x y H Q => y = .non ∧ Q (.bl (!decide (x = .non))) H) := by
 intro pins s σ H x y v u Q I rx ry h
 obtain ⟨rfl, q⟩ := h
 cases ry
 refine isnot_none_gen (fin_bl I q ?_)
 cases x <;> first
  | (cases rx; rfl)
  | (obtain ⟨t, rfl⟩ := rx; rfl)
theorem nomark (b : Expr) {op : CmpOp} (h : op ≠ .In := by decide) (h2 : op ≠ .NotIn := by decide) : behindInMarks op b = false := by
 have e1 : (op == CmpOp.In) = false := by cases op <;> first | rfl | exact absurd rfl h
 have e2 : (op == CmpOp.NotIn) = false := by cases op <;> first | rfl | exact absurd rfl h2
 cases b <;> simp [behindInMarks, e1, e2]
theorem pe_cmpR {op : CmpOp} {r : R2} (ho : OpR X (compareOp op) r) (ha : PE X a ta) (hb : PE X b tb) (hm : behindInMarks op b = false) : PE X (.Compare a [op] [b] pos) (tOp r ta tb) := by
 intro pins s σ H Q I h
 exact wpAny_Compare1 (binT ha hb I h fun v u s2 x y H2 I2 rx ry q => ho pins s2 σ H2 x y v u Q I2 rx ry q) hm
def tTest (t : TE) : TT := fun σ H Q => t σ H fun x H' => ∃ k, x = .bl k ∧ Q k H'
theorem pt_cmpR {op : CmpOp} {r : R2} (ho : OpR X (compareOp op) r) (ha : PE X a ta) (hb : PE X b tb) (hm : behindInMarks op b = false) : PT X (.Compare a [op] [b] pos) (tTest (tOp r ta tb)) := by
 intro pins s σ H Q I h
 refine wpAny_isTrue_Compare1 (thn (ha pins s σ H _ I h) fun v s1 ⟨x, H1, I1, r1, q1⟩ => thn (hb pins s1 σ H1 _ I1 q1) fun u s2 ⟨y, H2, I2, r2, q2⟩ =>
  thn (ho pins s2 σ H2 x y v u _ I2 r1 r2 q2) fun c s3 ⟨z, H3, I3, r3, k, e, q3⟩ => ?_) hm
 subst e
 cases r3
 exact wpAny_truthy_bool ⟨H3, I3, q3⟩
def tChain (r r' : R2) (ta tb tc : TE) : TE := fun σ H Q => ta σ H fun x H1 => tb σ H1 fun y H2 => r x y H2 fun z H3 => ∃ k, z = .bl k ∧
 (if k = true then tc σ H3 fun w' H4 => r' y w' H4 Q else Q (.bl false) H3)
theorem pt_chain {op op' : CmpOp} {r r' : R2} (ho : OpR X (compareOp op) r) (ho' : OpR X (compareOp op') r') (ha : PE X a ta) (hb : PE X b tb) (hc : PE X c tc)
  (hm : lastMarks [op, op'] [b, c] = false := by with_unfolding_all rfl) : PT X (.Compare a [op, op'] [b, c] pos) (tTest (tChain r r' ta tb tc)) := by
 intro pins s σ H Q I h
 refine isTrue_chain (thn (ha pins s σ H _ I h) fun v s1 ⟨x, H1, I1, r1, q1⟩ => test_link (thn (hb pins s1 σ H1 _ I1 q1) fun u s2 ⟨y, H2, I2, r2, q2⟩ =>
  thn (ho pins s2 σ H2 x y v u _ I2 r1 r2 q2) fun d s3 ⟨z, H3, I3, r3, k, e, q3⟩ => ?_)) hm
 subst e
 cases r3
 refine wpAny_truthy_bool ?_
 cases k with
 | false =>
  obtain ⟨k', e', q'⟩ := q3
  cases e'
  exact ite_ff ⟨H3, I3, q'⟩
 | true =>
  refine ite_tt (test_last (thn (hc pins s3 σ H3 _ I3 q3) fun w' s4 ⟨z', H4, I4, r4, q4⟩ => thn (ho' pins s4 σ H4 y z' u w' _ I4 r2 r4 q4) fun d' s5 ⟨z2, H5, I5, r5, k2, e2, q5⟩ => ?_))
  subst e2
  cases r5
  exact wpAny_truthy_bool ⟨H5, I5, q5⟩
theorem line63 : (sizeLine : Nat) < 2 ^ 63 := by rw [sizeLine_eq]; decide
theorem vals1 {x : V} {us : List Value} (r : Vals [x] us) : ∃ u, us = [u] ∧ RelV x u := by
 cases r with
 | cons r1 r2 => cases r2; exact ⟨_, rfl, r1⟩
theorem vals2 {x y : V} {us : List Value} (r : Vals [x, y] us) : ∃ u w', us = [u, w'] ∧ RelV x u ∧ RelV y w' := by
 cases r with
 | cons r1 r2 =>
  cases r2 with
  | cons r3 r4 => cases r4; exact ⟨_, _, rfl, r1, r3⟩
theorem call_max2 (hc : X.calm = true) : CallR X (.builtin "max") (fun xs H Q => ∃ i j, xs = [.int i, .int j] ∧ Q (.int (if j > i then j else i)) H) := by
 intro pins s σ H xs us Q I r h
 obtain ⟨i, j, rfl, q⟩ := h
 obtain ⟨u, w', rfl, ⟨t, rfl⟩, ⟨t', rfl⟩⟩ := vals2 r
 refine max_two_ints (I.ok.hd hc) fun h' tk k => ⟨_, H, I.kept k, ?_, q⟩
 by_cases hj : j > i
 ·rw [if_pos hj, if_pos hj]; exact ⟨_, rfl⟩
 ·rw [if_neg hj, if_neg hj]; exact ⟨_, rfl⟩
theorem call_min2 (hc : X.calm = true) : CallR X (.builtin "min") (fun xs H Q => ∃ i j, xs = [.int i, .int j] ∧ Q (.int (if j < i then j else i)) H) := by
 intro pins s σ H xs us Q I r h
 obtain ⟨i, j, rfl, q⟩ := h
 obtain ⟨u, w', rfl, ⟨t, rfl⟩, ⟨t', rfl⟩⟩ := vals2 r
 refine min_two_ints (I.ok.hd hc) fun h' tk k => ⟨_, H, I.kept k, ?_, q⟩
 by_cases hj : j < i
 ·rw [if_pos hj, if_pos hj]; exact ⟨_, rfl⟩
 ·rw [if_neg hj, if_neg hj]; exact ⟨_, rfl⟩
theorem call_int1 : CallR X (.type "int") (fun xs H Q => (∃ i, xs = [.int i] ∧ Q (.int i) H) ∨ ∃ k, xs = [.bl k] ∧ Q (.int (if k then 1 else 0)) H) := by
 intro pins s σ H xs us Q I r h
 rcases h with ⟨i, rfl, q⟩ | ⟨k, rfl, q⟩
 ·obtain ⟨u, rfl, t, rfl⟩ := vals1 r
  exact call_int_int ⟨.int i, H, I, ⟨_, rfl⟩, q⟩
 ·obtain ⟨u, rfl, r1⟩ := vals1 r
  cases r1
  exact call_int_bool ⟨.int (if k then 1 else 0), H, I.tok _, ⟨_, rfl⟩, q⟩
end
end L2
namespace L2
open PySem PySem.Spec PyProof.Rows
structure ObjM (h : Heap) (x dx C : Addr) (mA : Str → Option Value) : Prop where
 obj : h.get? x = some (PySem.W.instObj C dx)
 ns : h.Ns1 dx mA
 ne : dx ≠ x
theorem lookIn_ns {h : Heap} {dx : Addr} {mA : Str → Option Value} (n : h.Ns1 dx mA) : ∃ od, h.get? dx = some od ∧ ∀ name, PySem.W.lookIn name od = some (mA name) := by
 obtain ⟨o, es, ep, ho, hd, hk, _, hm⟩ := n
 refine ⟨o, ho, fun name => ?_⟩
 have e := hm name
 unfold nsFind findBy at e
 rw [← Array.find?_toList] at e
 unfold PySem.W.lookIn
 rw [hd]
 dsimp only
 split
 ·rename_i y q
  rw [q] at e
  exact congrArg some e
 ·rename_i q
  rw [q] at e
  have a : es.toList.any (·.refKey) = false := by
   rw [List.any_eq_false]
   intro y hy
   obtain ⟨z, t, hkey⟩ := hk y (Array.mem_toList_iff.mp hy)
   simp [DictEntry.refKey, hkey]
  have a' : ¬ es.toList.any (·.refKey) = true := by rw [a]; exact Bool.false_ne_true
  rw [if_neg a']
  exact congrArg some e
theorem ObjM.look {h : Heap} {x dx C : Addr} {mA : Str → Option Value} (I : ObjM h x dx C mA) : ∃ od, PySem.W.InstAt h x (PySem.W.instObj C dx) C (some od) ∧ ∀ name, PySem.W.lookIn name od = some (mA name) :=
 let ⟨od, ho, hl⟩ := lookIn_ns I.ns
 ⟨od, ⟨I.obj, rfl, rfl, ho⟩, hl⟩
section
variable {prog : Program} {w : World} {A : Around} {E : Value → Shared → Prop} {s : Shared} {K : PySem.W.Frag} {x dx C f : Addr} {mA : Str → Option Value} {name : Str} {v : Value}
theorem get_map {expr : Bool} {Q : Value → Shared → Prop} (X : K.In s.heap) (I : ObjM s.heap x dx C mA) (hg : PySem.W.plainGet K C name = true) (hh : PySem.W.hasDictIn K C = true)
  (ha : PySem.W.findIn K (.ref C) name = some none) (hv : mA name = some v) (hv' : PySem.W.handedIn v = true) (h : Q v { s with toks := s.toks + 1 }) :
  wpAny (model prog w) A (getAttr (.ref x) name expr) Q E s := by
 obtain ⟨od, J, hl⟩ := I.look
 exact PySem.W.get_value X J (PySem.W.plainGet_of hg).1 (PySem.W.findObj_own hh ha rfl (by rw [hl, hv])) hv' h
theorem get_meth {pl : Sem Bool} {Q : Value × List Value → Shared → Prop} (X : K.In s.heap) (I : ObjM s.heap x dx C mA) (hg : PySem.W.plainGet K C name = true)
  (hf : PySem.W.findIn K (.ref C) name = some (some (.ref f))) (ht : PySem.W.isFn K (.ref f) = true) (hv : mA name = none) (h : Q (.ref f, [.ref x]) s) :
  wpAny (model prog w) A (getMethod (.ref x) name pl) Q E s := by
 obtain ⟨od, J, hl⟩ := I.look
 exact PySem.W.method_fn X J (PySem.W.plainGet_of hg).1 (PySem.W.plainGet_of hg).2 hf (beq_iff_eq.mp ht) (by show (PySem.W.lookIn name od).map (·.isSome) = some false; rw [hl, hv]; rfl) h
theorem set_map {ns : List Str} {Q : Unit → Shared → Prop} (X : K.In s.heap) (I : ObjM s.heap x dx C mA)
  (hs : PySem.W.findIn K (.ref C) "__setattr__" = some (some (.builtin "object.__setattr__"))) (hp : PySem.W.plainOver K C = true) (ht : PySem.W.takerIn K C name = some none) (hh : PySem.W.hasDictIn K C = true)
  (hw : PySem.Within mA ns) (hsz : ns.length ≤ sizeLine)
  (h : ∀ h', ObjM h' x dx C (fun y => if y = name then some v else mA y) → Heap.SameBut dx s.heap h' → Q () { s with heap := h', toks := s.toks + 2 }) :
  wpAny (model prog w) A (setAttr (.ref x) name v) Q E s := by
 obtain ⟨od, J, hl⟩ := I.look
 refine PySem.W.set_plain X J hs (PySem.W.osa_open (s := { s with toks := s.toks + 1 }) (r := none) X J hp ht fun b => ?_)
 obtain ⟨cd, hc, hd'⟩ := PySem.W.any_some hh
 have hx : s.heap.get? x = some ⟨.ref C, some dx, .plain, #[]⟩ := I.obj
 refine wpAny_bind (wpAny_pure (wpAny_bind (wpAny_bind (wpAny_loadPart hx (wpAny_bind (PySem.W.Looks.here (s := { s with toks := s.toks + 1 }) (PySem.W.looks_clsIn X hc) ?_))))))
 rw [hd']
 refine wpAny_pure (a := some dx) (wpAny_bind (wpAny_pure (wpAny_bind ?_)))
 refine wpAny_nsSet1 (s := { s with toks := s.toks + 1 }) I.ns fun h' hn2 hs2 => ?_
 obtain ⟨oD, esD, epD, hoD, hdD, hcD⟩ := hn2.count (PySem.Within.cons name v hw)
 refine wpAny_bind (wpAny_lookBehind hoD (by rw [hdD]; exact pastItsLine_dict (Nat.le_trans hcD (by rw [List.length_cons]; omega))) ?_)
 exact wpAny_pure (h _ ⟨(hs2.2 _ (Ne.symm I.ne)).trans I.obj, hn2, I.ne⟩ hs2)
theorem make_map {R : Result → Shared → Prop} {vs : List Value} {kw : List (Str × Value)} (X : K.In s.heap) (hm : PySem.W.makesIn K C = true)
  (hi : PySem.W.findIn K (.ref C) "__init__" = some (some (.ref f))) (hf : PySem.W.typeIn K (.ref f) = some (.type "function"))
  (h : codeAny (model prog w) (A.under (.builtin "type.__call__" ⟨.ref C :: vs, kw⟩)) (.call (.ref f) ⟨.ref (s.heap.objs.size + 1) :: vs, kw⟩) (PySem.W.InitBack (s.heap.objs.size + 1) R)
   { s with heap := (s.heap.push PySem.W.emptyDict).push (PySem.W.instObj C s.heap.objs.size) }) :
  codeAny (model prog w) A (.call (.ref C) ⟨vs, kw⟩) R s := by
 obtain ⟨hh, g, d, t, os⟩ := s
 exact PySem.W.make_core (PySem.W.makes_of X hm) (PySem.W.looks_findIn X hi) (fun self => PySem.W.bind_fn X self hf) (.inl rfl) h
end
def putF (f : Str) (v : V) : List (Str × V) → List (Str × V)
 | [] => [(f, v)]
 | (g, x) :: r => if g = f then (g, v) :: r else (g, x) :: putF f v r
theorem lookup_putF (f g : Str) (v : V) : ∀ fs : List (Str × V), (putF f v fs).lookup g = if g = f then some v else fs.lookup g
 | [] => by
  show List.lookup g [(f, v)] = _
  by_cases h : g = f
  ·have hb : (g == f) = true := beq_iff_eq.mpr h
   simp only [List.lookup, hb, if_pos h]
  ·have hb : (g == f) = false := beq_eq_false_iff_ne.mpr h
   simp only [List.lookup, hb, if_neg h]
 | (k, x) :: r => by
  have ih := lookup_putF f g v r
  rw [show putF f v ((k, x) :: r) = (if k = f then (k, v) :: r else (k, x) :: putF f v r) from rfl]
  by_cases hk : k = f
  ·rw [if_pos hk]
   by_cases h : g = k
   ·have hb : (g == k) = true := beq_iff_eq.mpr h
    simp only [List.lookup, hb, if_pos (h.trans hk)]
   ·have hb : (g == k) = false := beq_eq_false_iff_ne.mpr h
    simp only [List.lookup, hb, if_neg (fun e : g = f => h (e.trans hk.symm))]
  ·rw [if_neg hk]
   by_cases h : g = k
   ·have hb : (g == k) = true := beq_iff_eq.mpr h
    simp only [List.lookup, hb, if_neg (fun e : g = f => hk (h.symm.trans e))]
   ·have hb : (g == k) = false := beq_eq_false_iff_ne.mpr h
    simp only [List.lookup, hb]
    exact ih
theorem keys_putF (f : Str) (v : V) : ∀ fs : List (Str × V), f ∈ (putF f v fs).map (·.1) ∧ ∀ g, g ∈ fs.map (·.1) → g ∈ (putF f v fs).map (·.1)
 | [] => ⟨by simp [putF], fun g h => by simp at h⟩
 | (k, x) :: r => by
  obtain ⟨i1, i2⟩ := keys_putF f v r
  rw [show putF f v ((k, x) :: r) = (if k = f then (k, v) :: r else (k, x) :: putF f v r) from rfl]
  by_cases hk : k = f
  ·rw [if_pos hk]
   subst hk
   exact ⟨by simp, fun g h => by simpa using h⟩
  ·rw [if_neg hk]
   refine ⟨?_, fun g h => ?_⟩
   ·rw [List.map_cons]
    exact List.mem_cons_of_mem _ i1
   ·rw [List.map_cons] at h ⊢
    rcases List.mem_cons.mp h with e | e
    ·exact List.mem_cons.mpr (.inl e)
    ·exact List.mem_cons_of_mem _ (i2 g e)
theorem length_putF (f : Str) (v : V) : ∀ fs : List (Str × V), (putF f v fs).length ≤ fs.length + 1
 | [] => by simp [putF]
 | (k, x) :: r => by
  have ih := length_putF f v r
  rw [show putF f v ((k, x) :: r) = (if k = f then (k, v) :: r else (k, x) :: putF f v r) from rfl]
  by_cases hk : k = f
  ·rw [if_pos hk, List.length_cons, List.length_cons]; omega
  ·rw [if_neg hk, List.length_cons, List.length_cons]; omega
theorem RelO.some_of {v : V} {o : Option Value} (r : RelO (some v) o) : ∃ u, o = some u ∧ RelV v u := by
 cases o with
 | none => exact (show False from r).elim
 | some u => exact ⟨u, rfl, r⟩
theorem RelO.none_of {o : Option Value} (r : RelO none o) : o = none := by
 cases o with
 | none => rfl
 | some u => exact (show False from r).elim
theorem handed_of {v : V} {u : Value} (r : RelV v u) : PySem.W.handedIn u = true := by
 cases v with
 | non => cases (show u = Value.none from r); rfl
 | bl b => cases (show u = Value.bool b from r); rfl
 | int i => obtain ⟨t, e⟩ := (show ∃ t, u = Value.int i t from r); cases e; rfl
 | str x => obtain ⟨t, e⟩ := (show ∃ t, u = Value.str x t from r); cases e; rfl
 | byt b => obtain ⟨t, e⟩ := (show ∃ t, u = Value.bytes b t from r); cases e; rfl
 | flt b => obtain ⟨t, e⟩ := (show ∃ t, u = Value.float b t from r); cases e; rfl
 | ref a => cases (show u = Value.ref a from r); rfl
 | ty n => cases (show u = Value.type n from r); rfl
section
variable {P : Program} {w : World} {H H' : Hp} {h h' : Heap} {a C dx : Addr} {fs fs' : List (Str × V)}
theorem ins_get (hok : HOk P w H h) (e : H a = some (.ins C dx fs)) : ∃ mA, ObjM h a dx C mA ∧ (∀ f, RelO (fs.lookup f) (mA f)) ∧ PySem.Within mA (fs.map (·.1)) ∧ fs.length ≤ 1000 ∧ H dx = some (.own a) := by
 obtain ⟨d, z, ne, ob, mA, n, r, q⟩ := (show ObjOk P w H h a (.ins C dx fs) from hok a _ e)
 exact ⟨mA, ⟨ob, n, ne⟩, r, q, z, d⟩
end
structure Cls (K : PySem.W.Frag) (C : Addr) : Prop where
 pg : PySem.W.plainGet K C Str.empty = true
 hd : PySem.W.hasDictIn K C = true
 po : PySem.W.plainOver K C = true
 sa : PySem.W.findIn K (.ref C) "__setattr__" = some (some (.builtin "object.__setattr__"))
theorem Cls.get {K : PySem.W.Frag} {C : Addr} (c : Cls K C) (f : Str) : PySem.W.plainGet K C f = true := c.pg
def NoAttr (K : PySem.W.Frag) (C : Addr) (f : Str) : Prop := PySem.W.findIn K (.ref C) f = some none
theorem NoAttr.taker {K : PySem.W.Frag} {C : Addr} {f : Str} (n : NoAttr K C f) : PySem.W.takerIn K C f = some none := by
 unfold PySem.W.takerIn
 rw [show PySem.W.findIn K (.ref C) f = some none from n]
 rfl
structure Con (K : PySem.W.Frag) (C : Addr) (f : Str) (v : V) (u : Value) : Prop where
 at_ : PySem.W.findIn K (.ref C) f = some (some u)
 rel : RelV v u
 get : PySem.W.specialIn K u "__get__" = some none
 cp : PySem.W.copiedNames.contains f = false
structure Meth (K : PySem.W.Frag) (C : Addr) (m : Str) (f : Addr) : Prop where
 at_ : PySem.W.findIn K (.ref C) m = some (some (.ref f))
 fn : PySem.W.isFn K (.ref f) = true
 kp : PySem.W.keepIn K (.ref f) = true
section
variable {X : Cx} {pins : List (Addr × Obj)} {σ : St} {H : Hp} {s : Shared} {a C dx : Addr} {fs : List (Str × V)} {f : Str} {v : V} {A : Around} {E : Value → Shared → Prop}
theorem getattr_ok {b : Bool} {Q : Value → Shared → Prop} (I : Inv X pins σ H s) (e : H a = some (.ins C dx fs)) (c : Cls X.K C) (n : NoAttr X.K C f) (l : fs.lookup f = some v)
  (h : ∀ u s', Inv X pins σ H s' → RelV v u → Q u s') : wpAny (model X.prog X.w) A (getAttr (.ref a) f b) Q E s := by
 obtain ⟨mA, O, r, _, _, _⟩ := ins_get I.hok e
 obtain ⟨u, hu, ru⟩ := RelO.some_of (v := v) (o := mA f) (by rw [← l]; exact r f)
 exact get_map I.kIn O (c.get f) c.hd n hu (handed_of ru) (h u _ (I.tok _) ru)
theorem getmeth_ok {m : Str} {g : Addr} {pl : Sem Bool} {Q : Value × List Value → Shared → Prop} (I : Inv X pins σ H s) (e : H a = some (.ins C dx fs)) (c : Cls X.K C) (k : Meth X.K C m g) (l : fs.lookup m = none)
  (h : Q (.ref g, [.ref a]) s) : wpAny (model X.prog X.w) A (getMethod (.ref a) m pl) Q E s := by
 obtain ⟨mA, O, r, _, _, _⟩ := ins_get I.hok e
 have hn : mA m = none := RelO.none_of (by rw [← l]; exact r m)
 exact get_meth I.kIn O (c.get m) k.at_ k.fn hn h
theorem setattr_ok {y : V} {u : Value} {Q : Unit → Shared → Prop} (I : Inv X pins σ H s) (e : H a = some (.ins C dx fs)) (c : Cls X.K C) (n : NoAttr X.K C f) (hl : fs.length < 1000) (ry : RelV y u)
  (h : ∀ s', Inv X pins σ (upd H a (.ins C dx (putF f y fs))) s' → Q () s') : wpAny (model X.prog X.w) A (setAttr (.ref a) f u) Q E s := by
 obtain ⟨mA, O, r, wi, _, ho⟩ := ins_get I.hok e
 have hz : (fs.map (·.1)).length ≤ sizeLine := by rw [List.length_map, sizeLine_eq]; omega
 refine set_map I.kIn O c.sa c.po n.taker c.hd wi hz fun h' O' sb => h _ ?_
 have hd : ∃ o, h'.get? dx = some o := let ⟨o, _, _, e', _⟩ := O'.ns; ⟨o, e'⟩
 refine I.write (x := a) (e := dx) (by rw [e]; exact True.intro) (.inr ho) (fun b q hb z => (sb.2 b hb).trans z) hd ?_
 refine ⟨by rw [upd_ne O.ne]; exact ho, ?_, O.ne, O'.obj, _, O'.ns, fun g => ?_, fun g hg => ?_⟩
 ·have := length_putF f y fs; omega
 ·show RelO ((putF f y fs).lookup g) (if g = f then some u else mA g)
  rw [lookup_putF]
  by_cases q : g = f
  ·rw [if_pos q, if_pos q]; exact ry
  ·rw [if_neg q, if_neg q]; exact r g
 ·by_cases q : g = f
  ·rw [q]; exact (keys_putF f y fs).1
  ·refine (keys_putF f y fs).2 g (wi g fun z => hg ?_)
   show (if g = f then some u else mA g) = none
   rw [if_neg q]; exact z
theorem Inv.made (I : Inv X pins σ H s) : Inv X pins σ (upd (upd H s.heap.objs.size (.own (s.heap.objs.size + 1))) (s.heap.objs.size + 1) (.ins C s.heap.objs.size []))
  { s with heap := (s.heap.push PySem.W.emptyDict).push (PySem.W.instObj C s.heap.objs.size) } := by
 have e1 : (s.heap.push PySem.W.emptyDict).get? s.heap.objs.size = some PySem.W.emptyDict := Heap.get?_push_size s.heap rfl
 have e2 : ((s.heap.push PySem.W.emptyDict).push (PySem.W.instObj C s.heap.objs.size)).get? (s.heap.objs.size + 1) = some (PySem.W.instObj C s.heap.objs.size) := by
  have := Heap.get?_push_size (s.heap.push PySem.W.emptyDict) (o := PySem.W.instObj C s.heap.objs.size) rfl
  rwa [Heap.size_push] at this
 have e3 : (s.heap.push PySem.W.emptyDict).Ns s.heap.objs.size (fun _ => none) := ⟨PySem.W.emptyDict, #[], _, e1, rfl, (fun e he => absurd he (by simp)), fun _ => rfl⟩
 have I1 := I.laid (a := s.heap.objs.size) (o := .own (s.heap.objs.size + 1)) (h' := s.heap.push PySem.W.emptyDict) (t' := s.toks) (fun b u q => Heap.get?_push_of_some _ q) (Nat.le_refl _) ⟨_, e1⟩
 refine I1.laid (a := s.heap.objs.size + 1) (o := .ins C s.heap.objs.size []) (t' := s.toks) (fun b u q => Heap.get?_push_of_some _ q) (Nat.le_of_eq (Heap.size_push _ _)) ?_
 have ne : s.heap.objs.size ≠ s.heap.objs.size + 1 := Nat.ne_of_lt (Nat.lt_succ_self _)
 refine ⟨by rw [upd_ne ne, upd_same], Nat.zero_le _, ne, e2, fun _ => none, (Heap.Ns1.of_empty e3).at fun o q => Heap.get?_push_of_some _ q, fun _ => True.intro, fun y hy => absurd rfl hy⟩
theorem attr_of {prog : Program} {w : World} {env : Env} {e : Expr} {f : Str} {pos : Pos} {s : Shared} {Q : Value → Shared → Prop} (hb : attributeBase e f env (eval e env) = eval e env)
  (h : wpAny (model prog w) A (eval e env) (fun o s₁ => wpAny (model prog w) A (getAttr o f true) Q E s₁) E s) : wpAny (model prog w) A (eval (.Attribute e f pos) env) Q E s :=
 Attribute_any_ h (by rw [arm_eval_Attribute, hb])
end
def tFld (K : PySem.W.Frag) (ta : TE) (f : Str) : TE := fun σ H Q => ta σ H fun x H1 => ∃ a C dx fs v, x = .ref a ∧ H1 a = some (.ins C dx fs) ∧ Cls K C ∧ NoAttr K C f ∧ fs.lookup f = some v ∧ Q v H1
def sFld (K : PySem.W.Frag) (ta tv : TE) (f : Str) : TS := fun D σ H => tv σ H fun y H1 => ta σ H1 fun x H2 => ∃ a C dx fs, x = .ref a ∧ H2 a = some (.ins C dx fs) ∧ Cls K C ∧ NoAttr K C f ∧ fs.length < 1000 ∧
 D.nx σ (upd H2 a (.ins C dx (putF f y fs)))
section
variable {X : Cx} {o e value : Expr} {f : Str} {pos pos' tpos : Pos} {ta tv : TE}
theorem pe_fld (he : PE X e ta) (hb : attributeBase e f X.env (eval e X.env) = eval e X.env) : PE X (.Attribute e f pos) (tFld X.K ta f) := by
 intro pins s σ H Q I h
 refine attr_of hb (thn (he pins s σ H _ I h) fun u s1 ⟨x, H1, I1, rx, a, C, dx, fs, v, ex, ea, c, n, l, q⟩ => ?_)
 subst ex
 obtain rfl : u = Value.ref a := rx
 exact getattr_ok I1 ea c n l fun u' s2 I2 ru => ⟨v, H1, I2, ru, q⟩
theorem ps_fld (ha : PE X o ta) (hv : PE X value tv) (hs : swapsWith value (some (.Attribute o f pos')) pos.line X.env = pure false) : PS X (.Assign [.Attribute o f pos'] value pos) (sFld X.K ta tv f) := by
 intro pins s σ H D I h
 refine plainObj_wpAny_Assign_Attribute (thn (hv pins s σ H _ I h) fun u s1 ⟨y, H1, I1, ry, q⟩ => thn (ha pins s1 σ H1 _ I1 q) fun ov s2 ⟨x, H2, I2, rx, a, C, dx, fs, ex, ea, c, n, l, q2⟩ => ?_) hs
 subst ex
 obtain rfl : ov = Value.ref a := rx
 exact setattr_ok I2 ea c n l ry fun s3 I3 => ⟨σ, _, I3, q2⟩
end
section
variable {X : Cx} {pins : List (Addr × Obj)} {σ : St} {H : Hp} {s : Shared} {A : Around} {E : Value → Shared → Prop} {Q : Value → Shared → Prop} {c : Value} {b : Bool}
inductive TyOf (K : PySem.W.Frag) (H : Hp) : V → Value → Prop where
 | non : TyOf K H .non (.type "NoneType")
 | bl (x : Bool) : TyOf K H (.bl x) (.type "bool")
 | int (i : Int) : TyOf K H (.int i) (.type "int")
 | str (x : Str) : TyOf K H (.str x) (.type "str")
 | flt (x : UInt64) : TyOf K H (.flt x) (.type "float")
 | lst {a : Addr} {xs : List V} (e : H a = some (.lst xs)) : TyOf K H (.ref a) (.type "list")
 | frz {a : Addr} {o : Obj} {xs : List V} (e : H a = some (.frz o (.lst xs))) : TyOf K H (.ref a) (.type "list")
 | tup {a : Addr} {xs : List V} (e : H a = some (.tup xs)) : TyOf K H (.ref a) (.type "tuple")
 | dK {a : Addr} {kvs : List (Key × V)} (e : H a = some (.dK kvs)) : TyOf K H (.ref a) (.type "dict")
 | dT {a : Addr} {kvs : List (List Key × V)} (e : H a = some (.dT kvs)) : TyOf K H (.ref a) (.type "dict")
 | ins {a C dx : Addr} {fs : List (Str × V)} (e : H a = some (.ins C dx fs)) (cl : Cls K C) (ha : PySem.W.findIn K (.ref C) "__class__" = some (some (.builtin "object.__class__")))
   (hn : PySem.W.specialIn K (.builtin "object.__class__") "__get__" = some (some (.builtin "getset_descriptor.__get__"))) (htk : PySem.W.takesIn K (.builtin "object.__class__") = some true)
   (hm : PySem.W.mroIn K C (.type "object") = some true) : TyOf K H (.ref a) (.ref C)
theorem isinst_ok {x : V} {u t : Value} (I : Inv X pins σ H s) (rx : RelV x u) (ty : TyOf X.K H x t) (e : PySem.W.kitOne X.K t c = some b) (h : ∀ tk, Q (.bool b) { s with toks := tk }) :
  wpAny (model X.prog X.w) A (call (.builtin "isinstance") [u, c]) Q E s := by
 cases ty with
 | non => cases (show u = Value.none from rx); exact PySem.W.kia_one PySem.W.kitx_none I.kIn True.intro e (fun z => nomatch z) h
 | bl y => cases (show u = Value.bool y from rx); exact PySem.W.kia_one PySem.W.kitx_bool I.kIn True.intro e (fun z => nomatch z) h
 | int i => obtain ⟨t, q⟩ := (show ∃ t, u = Value.int i t from rx); cases q; exact PySem.W.kia_one PySem.W.kitx_int I.kIn True.intro e (fun z => nomatch z) h
 | str y => obtain ⟨t, q⟩ := (show ∃ t, u = Value.str y t from rx); cases q; exact PySem.W.kia_one PySem.W.kitx_str I.kIn True.intro e (fun z => nomatch z) h
 | flt y => obtain ⟨t, q⟩ := (show ∃ t, u = Value.float y t from rx); cases q; exact PySem.W.kia_one PySem.W.kitx_float I.kIn True.intro e (fun z => nomatch z) h
 | @lst a xs ea =>
  cases (show u = Value.ref a from rx)
  obtain ⟨_, _, n, _, h1⟩ := (show ObjOk X.prog X.w H s.heap a (.lst xs) from I.hok a _ ea)
  exact PySem.W.kia_one PySem.W.kitx_list I.kIn ⟨_, h1, rfl⟩ e (fun z => nomatch z) h
 | @frz a ob xs ea =>
  cases (show u = Value.ref a from rx)
  obtain ⟨_, _, _, n, _, h1⟩ := (show ObjOk X.prog X.w H s.heap a (.frz ob (.lst xs)) from I.hok a _ ea)
  exact PySem.W.kia_one PySem.W.kitx_list I.kIn ⟨_, h1, rfl⟩ e (fun z => nomatch z) h
 | @tup a xs ea =>
  cases (show u = Value.ref a from rx)
  obtain ⟨_, _, _, p⟩ := (show ObjOk X.prog X.w H s.heap a (.tup xs) from I.hok a _ ea)
  obtain ⟨o, h1, h2, _⟩ := p
  exact PySem.W.kia_one PySem.W.kitx_tuple I.kIn ⟨o, h1, h2⟩ e (fun z => nomatch z) h
 | @dK a kvs ea =>
  cases (show u = Value.ref a from rx)
  obtain ⟨_, _, vs, _, p⟩ := (show ObjOk X.prog X.w H s.heap a (.dK kvs) from I.hok a _ ea)
  obtain ⟨o, es, ep, h1, h2, _⟩ := p
  exact PySem.W.kia_one PySem.W.kitx_dict I.kIn ⟨o, h1, h2.1⟩ e (fun z => nomatch z) h
 | @dT a kvs ea =>
  cases (show u = Value.ref a from rx)
  obtain ⟨_, _, xs, _, o, es, ep, h1, h2, _⟩ := (show ObjOk X.prog X.w H s.heap a (.dT kvs) from I.hok a _ ea)
  exact PySem.W.kia_one PySem.W.kitx_dict I.kIn ⟨o, h1, h2.1⟩ e (fun z => nomatch z) h
 | @ins a C dx fs ea cl ha hn htk hm =>
  cases (show u = Value.ref a from rx)
  obtain ⟨mA, O, _⟩ := ins_get I.hok ea
  obtain ⟨od, J, _⟩ := O.look
  exact PySem.W.kia_one (PySem.W.kitx_own (cl.get _) cl.hd ha hn htk hm) I.kIn J e (fun z => nomatch z) h
end
end L2
namespace L2
open PySem PySem.Spec PyProof.Rows
structure Room (k : Nat) (A : Around) : Prop where
 hd : A.handled = none
 dp : A.depth + 3 * k + 5 < recursionLimit
 un : A.units + 16 * k + 200 < cLine
 gd : A.guards = some []
theorem Room.mono {j k : Nat} {A : Around} (r : Room k A) (h : j ≤ k) : Room j A := ⟨r.hd, by have := r.dp; omega, by have := r.un; omega, r.gd⟩
theorem Room.deeper {k : Nat} {A : Around} (r : Room (k + 1) A) (env : Env) : Room k (A.deeper env) :=
 ⟨r.hd, by have := r.dp; show A.depth + 1 + 3 * k + 5 < _; omega, by have := r.un; show A.units + 3 + 16 * k + 200 < _; omega, r.gd⟩
theorem make_depth {A : Around} {C : Addr} {us : List Value} {kw : List (Str × Value)} : (A.under (.builtin "type.__call__" ⟨.ref C :: us, kw⟩)).depth = A.depth + 1 := by
 first | rfl | simp [Around.under, Code.weight, Code.isCreation, Code.isGuard, Code.isCaller, Code.frames, Code.isFrame, guardIds]
theorem make_units {A : Around} {C : Addr} {us : List Value} {kw : List (Str × Value)} : (A.under (.builtin "type.__call__" ⟨.ref C :: us, kw⟩)).units = A.units + 1 := by
 first | rfl | simp [Around.under, Code.cUnits, Code.frames, Code.isFrame]
theorem Room.make {k : Nat} {A : Around} (r : Room (k + 1) A) (C : Addr) (us : List Value) (kw : List (Str × Value)) : Room k (A.under (.builtin "type.__call__" ⟨.ref C :: us, kw⟩)) :=
 ⟨r.hd, by have := r.dp; rw [make_depth]; omega, by have := r.un; rw [make_units]; omega, by first | exact r.gd | (simp [Around.under, Code.isGuard, guardIds]; exact r.gd)⟩
theorem Room.depth {k : Nat} {A : Around} (r : Room k A) : A.depth < recursionLimit := by have := r.dp; omega
theorem Room.units {k : Nat} {A : Around} (r : Room k A) : A.units + 64 < cLine := by have := r.un; omega
def tNil : TA := fun _ H Q => Q [] H
def tCons (ta : TE) (tr : TA) : TA := fun σ H Q => ta σ H fun x H1 => tr σ H1 fun xs H2 => Q (x :: xs) H2
section
variable {X : Cx} {e : Expr} {es : List Expr} {te : TE} {t : TA} {pos : Pos}
theorem pa_nil : PA X [] tNil := fun _ _ _ _ H Q I h => Calls.spliced_nil ⟨[], H, I, .nil, h⟩
theorem pa_cons (ha : PE X e te) (hr : PA X es t) (hs : starEach (e :: es) X.env = (false, eval e X.env) :: starEach es X.env := by rfl) : PA X (e :: es) (tCons te t) := by
 intro pos pins s σ H Q I h
 rw [hs]
 show wpAny _ _ (spliced ((false, eval e X.env) :: backTo pos (starEach es X.env))) _ _ s
 refine Calls.spliced_cons (thn (ha pins s σ H _ I h) fun u s1 ⟨x, H1, I1, r1, q1⟩ => ?_)
 exact thn (hr pos pins s1 σ H1 _ I1 q1) fun us s2 ⟨xs, H2, I2, r2, q2⟩ => ⟨x :: xs, H2, I2, .cons r1 r2, q2⟩
def tTup (t : TA) : TE := fun σ H Q => t σ H fun xs H1 => xs.length ≤ sizeLine ∧ ∀ p, H1 p = none → Q (.ref p) (upd H1 p (.tup xs))
def tLst (t : TA) : TE := fun σ H Q => t σ H fun xs H1 => xs.length ≤ sizeLine ∧ ∀ p, H1 p = none → Q (.ref p) (upd H1 p (.lst xs))
theorem pe_tup {x1} (h : PA X es t) : PE X (.Tuple es x1 pos) (tTup t) := by
 intro pins s σ H Q I hq
 refine wpAny_Tuple_spliced (thn (h pos pins s σ H _ I hq) fun us s1 ⟨xs, H1, I1, r, z, q⟩ => ⟨by rw [← r.length]; exact z, ?_⟩)
 have hf : H1 s1.heap.objs.size = none := I1.hok.fresh (Nat.le_refl _)
 refine ⟨.ref s1.heap.objs.size, upd H1 s1.heap.objs.size (.tup xs), I1.laid (t' := s1.toks) (fun b u e => Heap.get?_push_of_some _ e) (Nat.le_refl _) ?_, rfl, q _ hf⟩
 exact ⟨z, us, r, ⟨_, Heap.get?_push_size _ rfl, rfl, _, rfl⟩⟩
theorem pe_lst (h : PA X es t) : PE X (.List es pos) (tLst t) := by
 intro pins s σ H Q I hq
 refine wpAny_List_spliced (thn (h pos pins s σ H _ I hq) fun us s1 ⟨xs, H1, I1, r, z, q⟩ => ⟨by rw [← r.length]; exact z, ?_⟩)
 have hf : H1 s1.heap.objs.size = none := I1.hok.fresh (Nat.le_refl _)
 refine ⟨.ref s1.heap.objs.size, upd H1 s1.heap.objs.size (.lst xs), I1.laid (t' := s1.toks) (fun b u e => Heap.get?_push_of_some _ e) (Nat.le_refl _) ?_, rfl, q _ hf⟩
 exact ⟨z, us, 0, r, Heap.get?_push_size _ rfl⟩
end
abbrev Sp := List V → Hp → VK → XK → Prop
abbrev CXT := List Env → Hp → Shared → XK → Value → Shared → Prop
structure Env0 (P : Program) (w : World) (K : PySem.W.Frag) (mg : Str → Option Value) (base : Heap) (A : Around) (outer : List Env) (s : Shared) (H : Hp) : Prop where
 frames : A.frames = some outer
 mod : Mod K mg base
 bs : ∀ b o, base.get? b = some o → s.heap.get? b = some o ∧ H b = none
 bsz : base.objs.size ≤ s.heap.objs.size
 funs : s.heap.FunFrames base outer
 frf : ∀ b ∈ frs outer, H b = none
 hok : HOk P w H s.heap
 bare : AllBare s.gens
def CE (outer : List Env) (P : Program) (w : World) (H : Hp) (s : Shared) (Q : VK) (u : Value) (s' : Shared) : Prop :=
 ∃ v H', s'.os = s.os ∧ AllBare s'.gens ∧ Un (frs outer) [] H H' s.heap s'.heap ∧ HOk P w H' s'.heap ∧ RelV v u ∧ Q v H'
def CR (CX : CXT) (outer : List Env) (P : Program) (w : World) (H : Hp) (s : Shared) (Q : VK) (E : XK) (r : Result) (s' : Shared) : Prop :=
 match r with
 | .ok (.ret u) => CE outer P w H s Q u s'
 | .ok _ => False
 | .error e => CX outer H s E e s'
structure FnOk (P : Program) (w : World) (K : PySem.W.Frag) (mg : Str → Option Value) (base : Heap) (CX : CXT) (k : Nat) (f : Addr) (fd : FuncData) (ps : List Str) (sp : Sp) : Prop where
 len : ∀ vs H Q E, sp vs H Q E → vs.length = ps.length
 run : ∀ (A : Around) (outer : List Env) (s : Shared) (H : Hp) (args : Args) (us : List Value) (vs : List V) (Q : VK) (E : XK), Room k A → Env0 P w K mg base A outer s H → BindsTo s fd args (ps.zip us) → Vals vs us → sp vs H Q E →
  codeAny (model P w) A (.call (.ref f) args) (CR CX outer P w H s Q E) s
theorem FnOk.mono {P : Program} {w : World} {K : PySem.W.Frag} {mg : Str → Option Value} {base : Heap} {CX : CXT} {j k : Nat} {f : Addr} {fd : FuncData} {ps : List Str} {sp : Sp} (F : FnOk P w K mg base CX j f fd ps sp) (h : j ≤ k) :
  FnOk P w K mg base CX k f fd ps sp := ⟨F.len, fun A outer s H args us vs Q E hr => F.run A outer s H args us vs Q E (hr.mono h)⟩
theorem Env0.make {P : Program} {w : World} {K : PySem.W.Frag} {mg : Str → Option Value} {base : Heap} {A : Around} {outer : List Env} {s : Shared} {H : Hp} (e : Env0 P w K mg base A outer s H) (C : Addr) (us : List Value) (kw : List (Str × Value)) :
  Env0 P w K mg base (A.under (.builtin "type.__call__" ⟨.ref C :: us, kw⟩)) outer s H := ⟨by first | exact e.frames | (simpa [Around.under, Code.envs, Code.isFrame, pushEnvs] using e.frames), e.mod, e.bs, e.bsz, e.funs, e.frf, e.hok, e.bare⟩
section
variable {X : Cx} {pins : List (Addr × Obj)} {σ : St} {H : Hp} {s s' : Shared}
theorem Inv.env0 (I : Inv X pins σ H s) : Env0 X.prog X.w X.K X.mg X.base X.A X.stack s H :=
 ⟨I.ok.frames, I.ok.mod, I.bs, Nat.le_trans I.ok.bsz I.sz, I.stack, I.stkFree, I.hok, I.bare⟩
theorem Inv.after {Q : VK} {u : Value} (I : Inv X pins σ H s) (h : CE X.stack X.prog X.w H s Q u s') : EP X pins σ Q u s' := by
 obtain ⟨v, H', os, bare, un, hok, r, q⟩ := h
 obtain ⟨hh, g, d, t, os'⟩ := s'
 obtain rfl : os' = s.os := os
 exact ⟨v, H', I.call (h' := hh) (g' := g) (d' := d) (t' := t) (ch := []) un hok bare (fun b z => absurd z (by simp)), r, q⟩
end
def tCall (sp : Sp) (dvs : List V) (E : XK) (t : TA) : TE := fun σ H Q => t σ H fun vs H1 => sp (vs ++ dvs) H1 Q E
def tMeth (C : Addr) (m : Str) (sp : Sp) (dvs : List V) (E : XK) (ta : TE) (t : TA) : TE := fun σ H Q => ta σ H fun x H1 => ∃ a dx fs, x = .ref a ∧ H1 a = some (.ins C dx fs) ∧ fs.lookup m = none ∧
 t σ H1 fun vs H2 => sp (x :: (vs ++ dvs)) H2 Q E
def tMake (C : Addr) (sp : Sp) (dvs : List V) (E : XK) (t : TA) : TE := fun σ H Q => t σ H fun vs H1 => ∀ x dx, H1 x = none → H1 dx = none → dx ≠ x →
 sp (.ref x :: (vs ++ dvs)) (upd (upd H1 dx (.own x)) x (.ins C dx [])) (fun v H2 => v = .non ∧ Q (.ref x) H2) E
def Binds (K : PySem.W.Frag) (fd : FuncData) (ps : List Str) (ds : List Value) : Prop :=
 ∀ (s : Shared) (us : List Value), K.In s.heap → (us ++ ds).length = ps.length → BindsTo s fd ⟨us, []⟩ (ps.zip (us ++ ds))
theorem Binds.all {K : PySem.W.Frag} {fd : FuncData} {ps : List Str} (h : ∀ us : List Value, us.length = ps.length → bindArgs fd ⟨us, []⟩ = pure (ps.zip us)) : Binds K fd ps [] := fun s us _ hl => by
 rw [List.append_nil] at hl ⊢
 exact .of_eq (h us hl)
def Passes (CX : CXT) (X : Cx) (E : XK) : Prop := ∀ (pins : List (Addr × Obj)) (σ : St) (H : Hp) (s : Shared) (e : Value) (s' : Shared), Inv X pins σ H s → CX X.stack H s E e s' → X.xe e s'
section
variable {X : Cx} {CX : CXT} {k : Nat} {f C : Addr} {fd : FuncData} {ps : List Str} {sp : Sp} {dvs : List V} {ds : List Value} {E : XK} {x m : Str} {p pos apos : Pos} {e o : Expr} {es : List Expr} {ta : TE} {t : TA}
theorem run_fn {pins : List (Addr × Obj)} {σ : St} {H : Hp} {s : Shared} {Q : VK} {us : List Value} {vs : List V} (F : FnOk X.prog X.w X.K X.mg X.base CX k f fd ps sp) (hr : Room k X.A) (hb : Binds X.K fd ps ds) (hd : Vals dvs ds) (hx : Passes CX X E)
  (I : Inv X pins σ H s) (r : Vals vs us) (h : sp (vs ++ dvs) H Q E) : wpAny (model X.prog X.w) X.A (call (.ref f) us) (EP X pins σ Q) X.xe s := by
 have r2 : Vals (vs ++ dvs) (us ++ ds) := r.append hd
 have hl : (us ++ ds).length = ps.length := by rw [← r2.length]; exact F.len _ _ _ _ h
 refine wpAny_call (codeAny_mono (F.run X.A X.stack s H ⟨us, []⟩ (us ++ ds) (vs ++ dvs) Q E hr I.env0 (hb s us I.kIn hl) r2 h) fun r s' hq => ?_)
 cases r with
 | error e => exact hx pins σ H s e s' I hq
 | ok fl =>
  cases fl with
  | ret u => exact I.after hq
  | next => exact False.elim hq
  | brk => exact False.elim hq
  | cont => exact False.elim hq
theorem pe_call (F : FnOk X.prog X.w X.K X.mg X.base CX k f fd ps sp) (hr : Room k X.A) (hg : Gl X x) (hm : X.mg x = some (.ref f)) (hk : PySem.W.keepIn X.K (.ref f) = true) (hb : Binds X.K fd ps ds) (hd : Vals dvs ds) (hx : Passes CX X E)
  (ha : PA X (e :: es) t) (hdb : (x == ("__debug__" : Str)) = false := by decide) (he : starEach (e :: es) X.env = (false, eval e X.env) :: starEach es X.env := by rfl) (hpl : (backTo pos (starEach es X.env)).any (·.1) = false := by rfl) :
  PE X (.Call (.Name x p) (e :: es) [] pos) (tCall sp dvs E t) := by
 intro pins s σ H Q I h
 refine wpAny_Call_Name_kw (ld_glob I hg hm ?_ hdb)
 refine PySem.W.callWith_K (h₀ := X.base) I.ok.mod.kin hk (thn (ha pos pins s σ H _ I h) fun us s1 ⟨vs, H1, I1, r, q⟩ => ⟨I1.kIn, ?_⟩) he hpl
 exact run_fn F hr hb hd hx I1 r q
theorem pe_meth {pl : Sem Bool} (he : PE X o ta) (c : Cls X.K C) (hm : Meth X.K C m f) (F : FnOk X.prog X.w X.K X.mg X.base CX k f fd ps sp) (hr : Room k X.A) (hb : Binds X.K fd ps ds) (hd : Vals dvs ds) (hx : Passes CX X E) (ha : PA X (e :: es) t)
  (hst : starEach (e :: es) X.env = (false, eval e X.env) :: starEach es X.env := by rfl) (hpl : (backTo pos (starEach es X.env)).any (·.1) = false := by rfl)
  (ht : eval (.Call (.Attribute o m apos) (e :: es) [] pos) X.env = (do
   let ov ← eval o X.env
   standAt apos.atName
   let (f, first) ← holding [ov] (getMethod ov m pl)
   callWith pos f first (backTo pos (starEach (e :: es) X.env)) (backToKw pos (keywordEach [] X.env))) := by rfl) :
  PE X (.Call (.Attribute o m apos) (e :: es) [] pos) (tMeth C m sp dvs E ta t) := by
 intro pins s σ H Q I h
 refine PySem.W.methodCall_KW (pl := pl) (thn (he pins s σ H _ I h) fun u s1 ⟨x, H1, I1, rx, a, dx, fs, ex, ea, l, q⟩ => ?_) ht
 subst ex
 obtain rfl : u = Value.ref a := rx
 refine getmeth_ok I1 ea c hm l ?_
 refine PySem.W.callWith_K (first := [.ref a]) (h₀ := X.base) I.ok.mod.kin hm.kp (thn (ha pos pins s1 σ H1 _ I1 q) fun us s2 ⟨vs, H2, I2, r, q2⟩ => ⟨I2.kIn, ?_⟩) hst hpl
 exact run_fn (us := .ref a :: us) (vs := .ref a :: vs) F hr hb hd hx I2 (.cons rfl r) q2
theorem pe_meth0 {pl : Sem Bool} (he : PE X o ta) (c : Cls X.K C) (hm : Meth X.K C m f) (F : FnOk X.prog X.w X.K X.mg X.base CX k f fd ps sp) (hr : Room k X.A) (hb : Binds X.K fd ps ds) (hd : Vals dvs ds) (hx : Passes CX X E)
  (ht : eval (.Call (.Attribute o m apos) [] [] pos) X.env = (do
   let ov ← eval o X.env
   standAt apos.atName
   let (f, first) ← holding [ov] (getMethod ov m pl)
   callWith pos f first (backTo pos (starEach [] X.env)) (backToKw pos (keywordEach [] X.env))) := by rfl) :
  PE X (.Call (.Attribute o m apos) [] [] pos) (tMeth C m sp dvs E ta tNil) := by
 intro pins s σ H Q I h
 refine PySem.W.methodCall_KW (pl := pl) (thn (he pins s σ H _ I h) fun u s1 ⟨x, H1, I1, rx, a, dx, fs, ex, ea, l, q⟩ => ?_) ht
 subst ex
 obtain rfl : u = Value.ref a := rx
 refine getmeth_ok I1 ea c hm l ?_
 exact PySem.W.callWith_K0 (first := [.ref a]) I1.kIn hm.kp (run_fn (us := [.ref a]) (vs := [.ref a]) F hr hb hd hx I1 (.cons rfl .nil) q)
structure Mk (K : PySem.W.Frag) (C f : Addr) : Prop where
 makes : PySem.W.makesIn K C = true
 init : PySem.W.findIn K (.ref C) "__init__" = some (some (.ref f))
 fn : PySem.W.isFn K (.ref f) = true
 kp : PySem.W.keepIn K (.ref C) = true
theorem run_make {pins : List (Addr × Obj)} {σ : St} {H : Hp} {s : Shared} {Q : VK} {us : List Value} {vs : List V} (M : Mk X.K C f) (F : FnOk X.prog X.w X.K X.mg X.base CX k f fd ps sp) (hr : Room (k + 1) X.A) (hb : Binds X.K fd ps ds) (hd : Vals dvs ds)
  (hx : Passes CX X E) (I : Inv X pins σ H s) (r : Vals vs us)
  (h : ∀ x dx, H x = none → H dx = none → dx ≠ x → sp (.ref x :: (vs ++ dvs)) (upd (upd H dx (.own x)) x (.ins C dx [])) (fun v H2 => v = .non ∧ Q (.ref x) H2) E) :
  wpAny (model X.prog X.w) X.A (call (.ref C) us) (EP X pins σ Q) X.xe s := by
 have hq := h (s.heap.objs.size + 1) s.heap.objs.size (I.hok.fresh (Nat.le_succ _)) (I.hok.fresh (Nat.le_refl _)) (Nat.ne_of_lt (Nat.lt_succ_self _))
 have I2 := Inv.made (C := C) I
 have r2 : Vals (V.ref (s.heap.objs.size + 1) :: (vs ++ dvs)) (Value.ref (s.heap.objs.size + 1) :: (us ++ ds)) := .cons rfl (r.append hd)
 have hl : (Value.ref (s.heap.objs.size + 1) :: us ++ ds).length = ps.length := by
  have e := r2.length
  rw [F.len _ _ _ _ hq] at e
  exact e.symm
 refine wpAny_call (make_map (f := f) I.kIn M.makes M.init (beq_iff_eq.mp M.fn) (codeAny_mono (F.run _ X.stack _ _ ⟨Value.ref (s.heap.objs.size + 1) :: us, []⟩ (Value.ref (s.heap.objs.size + 1) :: (us ++ ds)) _ _ E (hr.make C us [])
  (I2.env0.make C us []) (hb _ (Value.ref (s.heap.objs.size + 1) :: us) I2.kIn hl) r2 hq) fun r s' hq' => ?_))
 cases r with
 | error e => exact hx pins σ _ _ e s' I2 hq'
 | ok fl =>
  cases fl with
  | ret u =>
   obtain ⟨v, H', I3, rv, ev, q3⟩ := I2.after hq'
   subst ev
   exact ⟨rv, ⟨V.ref (s.heap.objs.size + 1), H', I3, rfl, q3⟩⟩
  | next => exact False.elim hq'
  | brk => exact False.elim hq'
  | cont => exact False.elim hq'
theorem pe_make (M : Mk X.K C f) (F : FnOk X.prog X.w X.K X.mg X.base CX k f fd ps sp) (hr : Room (k + 1) X.A) (hg : Gl X x) (hm : X.mg x = some (.ref C)) (hb : Binds X.K fd ps ds) (hd : Vals dvs ds) (hx : Passes CX X E)
  (ha : PA X (e :: es) t) (hdb : (x == ("__debug__" : Str)) = false := by decide) (he : starEach (e :: es) X.env = (false, eval e X.env) :: starEach es X.env := by rfl) (hpl : (backTo pos (starEach es X.env)).any (·.1) = false := by rfl) :
  PE X (.Call (.Name x p) (e :: es) [] pos) (tMake C sp dvs E t) := by
 intro pins s σ H Q I h
 refine wpAny_Call_Name_kw (ld_glob I hg hm ?_ hdb)
 refine PySem.W.callWith_K (h₀ := X.base) I.ok.mod.kin M.kp (thn (ha pos pins s σ H _ I h) fun us s1 ⟨vs, H1, I1, r, q⟩ => ⟨I1.kIn, ?_⟩) he hpl
 exact run_make M F hr hb hd hx I1 r q
end
section
variable {X : Cx} {CX : CXT} {k : Nat} {f C : Addr} {fd : FuncData} {ps ks : List Str} {sp : Sp} {E : XK} {x m : Str} {p pos apos kpos : Pos} {e o : Expr} {es : List Expr} {kws : List Keyword} {te ta : TE} {t tk : TA} {nm : Option Str}
structure KBinds (K : PySem.W.Frag) (fd : FuncData) (ps ks : List Str) (g : List Value → List Value → List Value) (gV : List V → List V → List V) : Prop where
 to : ∀ (s : Shared) (us ws : List Value), K.In s.heap → (g us ws).length = ps.length → BindsTo s fd ⟨us, ks.zip ws⟩ (ps.zip (g us ws))
 rel : ∀ {vs : List V} {us : List Value} {zs : List V} {ws : List Value}, Vals vs us → Vals zs ws → Vals (gV vs zs) (g us ws)
variable {g : List Value → List Value → List Value} {gV : List V → List V → List V}
end
structure FnScope (N P : List Str) (sc : Scope) : Prop where
 kind : sc.kind = .function
 co : sc.isCoroutine = false
 gen : sc.isGenerator = false
 nd : N.Nodup
 pre : N.take P.length = P
 par : ∀ x ∈ P, sc.names.lookup x = some .local ∨ sc.names.lookup x = some .cell
 nofree : ∀ y ∈ sc.names, y.2 ≠ .free
theorem bindL_out {kindOf : Str → Option NameKind} {x : Str} : ∀ {binds : List (Str × Value)} {m : Str → Option Value}, (∀ v, (x, v) ∉ binds) → bindL kindOf binds m x = m x
 | [], _, _ => rfl
 | (n, v) :: r, m, h => by
  unfold bindL
  rw [bindL_out fun w hw => h w (List.mem_cons_of_mem _ hw)]
  split
  ·have : x ≠ n := by rintro rfl; exact h v List.mem_cons_self
   simp [this]
  ·rfl
theorem bindC_out {kindOf : Str → Option NameKind} {x : Str} : ∀ {binds : List (Str × Value)} {m : Str → Option Value}, (∀ v, (x, v) ∉ binds) → bindC kindOf binds m x = m x
 | [], _, _ => rfl
 | (n, v) :: r, m, h => by
  unfold bindC
  rw [bindC_out fun w hw => h w (List.mem_cons_of_mem _ hw)]
  split
  ·rfl
  ·have : x ≠ n := by rintro rfl; exact h v List.mem_cons_self
   simp [this]
theorem bindL_get {kindOf : Str → Option NameKind} {x : Str} {v : Value} : ∀ {P : List Str} {vs : List Value} {i : Nat} {m : Str → Option Value}, P.Nodup → P[i]? = some x → vs[i]? = some v → kindOf x = some .local →
  bindL kindOf (P.zip vs) m x = some v
 | [], _, _, _, _, h, _, _ => by simp at h
 | _ :: _, [], _, _, _, _, h, _ => by simp at h
 | p :: P, w :: vs, 0, m, nd, h1, h2, hk => by
  simp at h1 h2; subst h1; subst h2
  show bindL kindOf ((p, w) :: P.zip vs) m p = _
  unfold bindL
  rw [bindL_out fun v hv => (List.nodup_cons.mp nd).1 (List.of_mem_zip hv).1, if_pos hk]
  simp
 | p :: P, w :: vs, i + 1, m, nd, h1, h2, hk => by
  show bindL kindOf ((p, w) :: P.zip vs) m x = _
  unfold bindL
  exact bindL_get (i := i) (List.nodup_cons.mp nd).2 (by simpa using h1) (by simpa using h2) hk
theorem bindC_get {kindOf : Str → Option NameKind} {x : Str} {v : Value} : ∀ {P : List Str} {vs : List Value} {i : Nat} {m : Str → Option Value}, P.Nodup → P[i]? = some x → vs[i]? = some v → kindOf x ≠ some .local →
  bindC kindOf (P.zip vs) m x = some v
 | [], _, _, _, _, h, _, _ => by simp at h
 | _ :: _, [], _, _, _, _, h, _ => by simp at h
 | p :: P, w :: vs, 0, m, nd, h1, h2, hk => by
  simp at h1 h2; subst h1; subst h2
  show bindC kindOf ((p, w) :: P.zip vs) m p = _
  unfold bindC
  rw [bindC_out fun v hv => (List.nodup_cons.mp nd).1 (List.of_mem_zip hv).1, if_neg hk]
  simp
 | p :: P, w :: vs, i + 1, m, nd, h1, h2, hk => by
  show bindC kindOf ((p, w) :: P.zip vs) m x = _
  unfold bindC
  exact bindC_get (i := i) (List.nodup_cons.mp nd).2 (by simpa using h1) (by simpa using h2) hk
def start (N : List Str) (vs : List V) : St := vs.map some ++ List.replicate (N.length - vs.length) none
def cxOf (CX : CXT) (P : Program) (w : World) (K : PySem.W.Frag) (mg : Str → Option Value) (base : Heap) (N : List Str) (qual : Str) (scope : Scope) (f : Addr) (cd : Value) (A : Around) (outer : List Env) (s : Shared) (H : Hp) (E : XK) : Cx where
 prog := P
 w := w
 K := K
 mg := mg
 base := base
 A := A.deeper (envOfC qual scope s.heap.objs.size f cd)
 N := N
 s₀ := s
 H₀ := H
 env := envOfC qual scope s.heap.objs.size f cd
 outer := outer
 stack := envOfC qual scope s.heap.objs.size f cd :: outer
 ex := []
 calm := true
 fn := fun _ => true
 pn := []
 xe := fun e s' => wpAny (model P w) (A.deeper (envOfC qual scope s.heap.objs.size f cd)) (leaving (envOfC qual scope s.heap.objs.size f cd) e) (fun _ s'' => CX outer H s E e s'') (fun e' s'' => CX outer H s E e' s'') s'
theorem cell_has {sc : Scope} {n : Nat} {x : Str} (h : sc.names.lookup x = some .cell) : ∃ c, (cellsFrom n sc.names []).lookup x = some c := by
 have q := PySem.W.cellsFrom_some sc.names n [] (.inl h)
 exact Option.isSome_iff_exists.mp q
theorem inv_start {CX : CXT} {P : Program} {w : World} {K : PySem.W.Frag} {mg : Str → Option Value} {base : Heap} {N ps : List Str} {qual : Str} {scope : Scope} {f : Addr} {cd : Value} {A : Around} {outer : List Env} {s s1 : Shared} {H : Hp} {E : XK} {us : List Value} {vs : List V}
  (S : FnScope N ps scope) (hd : A.handled = none) (e0 : Env0 P w K mg base A outer s H) (hl : vs.length = ps.length) (r : Vals vs us)
  (x : InCallC s s.heap.objs.size (bindL (envOfC qual scope s.heap.objs.size f cd).kindOf (ps.zip us) fun _ => none) (cellsFrom (s.heap.objs.size + 1) scope.names []) (bindC (envOfC qual scope s.heap.objs.size f cd).kindOf (ps.zip us) fun _ => none) s1) :
  Inv (cxOf CX P w K mg base N qual scope f cd A outer s H E) [] (start N vs) H s1 := by
 have hpl : ps.length ≤ N.length := by have := congrArg List.length S.pre; rw [List.length_take] at this; omega
 obtain ⟨h1, tk, rfl, hk⟩ := x.done
 have noA : ∀ b : Addr, b ∉ (cxOf CX P w K mg base N qual scope f cd A outer s H E).ex := fun b z => absurd (show b ∈ ([] : List Addr) from z) (by simp)
 refine ⟨⟨e0.mod, S.kind, rfl, rfl, Nat.le_refl _, fun y z c h1 h2 => ?_, fun y hy => ?_, fun y c _ h => ?_, fun _ => hd, Around.frames_deeper e0.frames, .inr ⟨rfl, rfl⟩, fun b z => absurd z (noA b), e0.bs, e0.bsz, fun b _ _ => noA b, fun b z => absurd z (noA b), e0.funs, e0.frf⟩,
  rfl, e0.bare, Un.kept hk, ⟨_, x.toInCall.ns, fun i y v h1 h2 h3 => ?_⟩, fun y c h => ⟨_, x.cell y c h⟩, e0.hok.fresh (Nat.le_refl _), fun y c h => ?_, fun p hp => absurd (show p ∈ ([] : List (Addr × Obj)) from hp) (by simp), e0.hok.kept hk, ?_⟩
 ·exact name_of_addr x.apart (PySem.mem_of_lookup h1) (PySem.mem_of_lookup h2)
 ·have hy : scope.names.lookup y = some .cell ∨ scope.names.lookup y = some .free := hy
  rcases hy with hy | hy
  ·exact cell_has hy
  ·exact absurd rfl (S.nofree _ (PySem.mem_of_lookup hy))
 ·exact Nat.le_of_lt (x.above y c (PySem.mem_of_lookup h))
 ·have hi : i < vs.length := by
   unfold start at h2
   by_cases hi : i < vs.length
   ·exact hi
   ·rw [List.getElem?_append_right (by simpa using hi)] at h2
    rw [List.getElem?_replicate] at h2
    split at h2 <;> cases h2
  have ha : vs[i]? = some v := by
   unfold start at h2
   rw [List.getElem?_append_left (by simpa using hi), List.getElem?_map] at h2
   cases e : vs[i]? with
   | none => rw [e] at h2; cases h2
   | some a => rw [e] at h2; cases h2; rfl
  obtain ⟨u, hu, rv⟩ := r.get ha
  have hp : ps[i]? = some y := by
   rw [← S.pre, List.getElem?_take_of_lt (by omega)]; exact h1
  have ndP : ps.Nodup := by rw [← S.pre]; exact S.nd.sublist (List.take_sublist _ _)
  refine ⟨u, rv, ?_⟩
  rcases S.par y (List.mem_of_getElem? hp) with k | k
  ·exact .inl ⟨k, bindL_get ndP hp hu k⟩
  ·obtain ⟨c, e⟩ := cell_has (n := s.heap.objs.size + 1) k
   refine .inr ⟨.inl k, c, e, ?_⟩
   have q := x.cell y c e
   rw [bindC_get ndP hp hu (by show scope.names.lookup y ≠ _; rw [k]; decide)] at q
   exact q
 ·exact e0.hok.fresh (Nat.le_of_lt (x.above y c (PySem.mem_of_lookup h)))
 ·unfold start
  show _ = N.length
  rw [List.length_append, List.length_map, List.length_replicate]
  omega
theorem fn_of {CX : CXT} {P : Program} {w : World} {K : PySem.W.Frag} {mg : Str → Option Value} {base : Heap} {k : Nat} {f : Addr} {name qual : Str} {params : Arguments} {body : List Stmt} {scope : Scope} {dV kV doc pm cdv ct oc : Value} {an od : Option Addr}
  {osl : Array (Option Value)} {N ps : List Str} {sp : Sp} (lk : K.lookup f = some ⟨oc, od, .func (PySem.W.fnOf name qual params body scope dV kV doc pm an cdv ct), osl⟩) (hcd : PySem.W.codeIn K cdv qual = true) (S : FnScope N ps scope)
  (len : ∀ vs H Q E, sp vs H Q E → vs.length = ps.length)
  (hbody : ∀ (A : Around) (outer : List Env) (s : Shared) (H : Hp) (vs : List V) (Q : VK) (E : XK), Room k (A.deeper (envOfC qual scope s.heap.objs.size f cdv)) → sp vs H Q E →
   ∃ t, PSs (cxOf CX P w K mg base N qual scope f cdv A outer s H E) body t ∧ t { nx := fun _ H' => Q .non H', rt := Q } (start N vs) H) :
  FnOk P w K mg base CX (k + 1) f (PySem.W.fnOf name qual params body scope dV kV doc pm an cdv ct) ps sp := by
 refine ⟨len, fun A outer s H args us vs Q E hr e0 hb r hsp => ?_⟩
 have hl := len _ _ _ _ hsp
 have KX : K.In s.heap := e0.mod.kin.keeps fun b o e => (e0.bs b o e).1
 have lim : s.heap.NoLimit := e0.mod.nolimit.keeps fun b o e => (e0.bs b o e).1
 have hkind : ∀ y ∈ ps.zip us, scope.names.lookup y.1 = some .local ∨ (scope.names.lookup y.1 = some .cell ∧ ((cellsFrom (s.heap.objs.size + 1) scope.names []).lookup y.1).isSome = true) := fun ⟨n, v⟩ hy => by
  rcases S.par n (List.of_mem_zip hy).1 with q | q
  ·exact .inl q
  ·exact .inr ⟨q, PySem.W.cellsFrom_some _ _ _ (.inl q)⟩
 refine codeAny_call_function hr.depth (KX _ _ lk) rfl S.co S.gen rfl (PySem.W.codeRec_of KX hcd) (hb _ _ _ _ ?_)
 refine wpAny_newFunctionEnv_cells S.kind hkind fun env he s1 x => ?_
 subst he
 refine ⟨lim.keeps x.toInCall.keep, codeAny_func ?_⟩
 obtain ⟨t, ht, hq⟩ := hbody A outer s H vs Q E (hr.deeper _) hsp
 have I : Inv (cxOf CX P w K mg base N qual scope f cdv A outer s H E) [] (start N vs) H s1 := inv_start S hr.hd e0 hl r x
 refine wpAny_mono (ht [] s1 (start N vs) H _ I hq) (fun fl s' hs => ?_) fun e s' hs => hs
 have fin : ∀ {σ' : St} {H' : Hp} {v : V} {u : Value}, Inv (cxOf CX P w K mg base N qual scope f cdv A outer s H E) [] σ' H' s' → RelV v u → Q v H' → CE outer P w H s Q u s' :=
  fun {σ' H' v u} J rv q => ⟨v, H', J.os, J.bare, J.base, J.hok, rv, q⟩
 cases fl with
 | ret u =>
  obtain ⟨v, σ', H', J, rv, q⟩ := hs
  exact fin J rv q
 | next =>
  obtain ⟨σ', H', J, q⟩ := hs
  exact fin (v := V.non) (u := Value.none) J rfl q
 | brk =>
  obtain ⟨_, _, _, q⟩ := hs
  exact False.elim q
 | cont =>
  obtain ⟨_, _, _, q⟩ := hs
  exact False.elim q
end L2
namespace L2
open PySem PySem.Spec PyProof.Rows
section
variable {X : Cx} {x : Str} {p pos : Pos} {e : Expr} {es : List Expr} {t : TA} {id T : String} {r : List V → Hp → VK → Prop}
def tCB (r : List V → Hp → VK → Prop) (t : TA) : TE := fun σ H Q => t σ H fun vs H1 => r vs H1 Q
theorem pe_callB (hc : CallR X (.builtin id) r) (hg : Gl X x) (hm : X.mg x = none) (hv : bootBuiltins x = some (.builtin id)) (ha : PA X (e :: es) t) (hn : x ≠ "__name__" := by decide) (hdb : (x == ("__debug__" : Str)) = false := by decide)
  (he : starEach (e :: es) X.env = (false, eval e X.env) :: starEach es X.env := by rfl) (hpl : (backTo pos (starEach es X.env)).any (·.1) = false := by rfl) : PE X (.Call (.Name x p) (e :: es) [] pos) (tCB r t) := by
 intro pins s σ H Q I h
 refine wpAny_Call_Name_kw (ld_blt I hg hm hv ?_ hn hdb)
 exact PyProof.Rows.callWith_builtin1 (thn (ha pos pins s σ H _ I h) fun us s1 ⟨vs, H1, I1, r1, q1⟩ => hc pins s1 σ H1 vs us Q I1 r1 q1) he hpl
theorem pe_callTy (hc : CallR X (.type T) r) (hg : Gl X x) (hm : X.mg x = none) (hv : bootBuiltins x = some (.type T)) (ha : PA X (e :: es) t) (hn : x ≠ "__name__" := by decide) (hdb : (x == ("__debug__" : Str)) = false := by decide)
  (he : starEach (e :: es) X.env = (false, eval e X.env) :: starEach es X.env := by rfl) (hpl : (backTo pos (starEach es X.env)).any (·.1) = false := by rfl) : PE X (.Call (.Name x p) (e :: es) [] pos) (tCB r t) := by
 intro pins s σ H Q I h
 refine wpAny_Call_Name_kw (ld_blt I hg hm hv ?_ hn hdb)
 exact PyProof.Rows.callWith_type1 (thn (ha pos pins s σ H _ I h) fun us s1 ⟨vs, H1, I1, r1, q1⟩ => hc pins s1 σ H1 vs us Q I1 r1 q1) he hpl
end
end L2
namespace HT
open PySem PyProof.Rows
section
open PySem.SeqAt
open PySem.AutoSeq1 (wpAny_loadPart')
open PySem.MeetsSeq PySem.MeetsSeq2 PySem.MeetsSeq3
end
section
variable {prog : Program} {w : World} {A : Around} {E : Value → Shared → Prop} {s : Shared}
def sIx (n d : Nat) : Option Int → Nat
 | none => d
 | some v => if v < 0 then (v + (n : Int)).toNat else min v.toNat n
theorem sIx_none (n d : Nat) : sIx n d none = d := rfl
theorem sIx_nat (n d k : Nat) : sIx n d (some (k : Int)) = min k n := by
 show (if (k : Int) < 0 then ((k : Int) + (n : Int)).toNat else min (k : Int).toNat n) = min k n
 rw [if_neg (by omega), Int.toNat_natCast]
end
end HT
namespace L2
open PySem PySem.Spec PyProof.Rows
abbrev TO := St → Hp → (Option Int → Hp → Prop) → Prop
def PO (X : Cx) (e : Option Expr) (t : TO) : Prop :=
 ∀ (pins : List (Addr × Obj)) (s : Shared) (σ : St) (H : Hp) (Q : Option Int → Hp → Prop), Inv X pins σ H s → t σ H Q →
  wpAny (model X.prog X.w) X.A (evalPart e X.env) (fun u s' => ∃ o H', Inv X pins σ H' s' ∧ IsPart u o ∧ Q o H') X.xe s
def tNoPart : TO := fun _ H Q => Q none H
def tPart (t : TE) : TO := fun σ H Q => t σ H fun x H1 => ∃ i, x = .int i ∧ Q (some i) H1
section
variable {X : Cx} {e : Expr} {te : TE} {lo hi : Option Expr} {tl th : TO} {pos p2 : Pos}
theorem po_none : PO X none tNoPart := by
 intro pins s σ H Q I h
 rw [evalPart_none]
 exact wpAny_pure ⟨none, H, I, .none, h⟩
theorem po_some (h : PE X e te) : PO X (some e) (tPart te) := by
 intro pins s σ H Q I hw
 rw [evalPart_some]
 refine thn (h pins s σ H _ I hw) fun u s1 ⟨x, H1, I1, r1, q1⟩ => ?_
 obtain ⟨i, rfl, q⟩ := q1
 obtain ⟨t, rfl⟩ := r1
 exact ⟨some i, H1, I1, .int i t, q⟩
def SlR (X : Cx) (r : V → Option Int → Option Int → Hp → VK → Prop) : Prop :=
 ∀ (pins : List (Addr × Obj)) (s : Shared) (σ : St) (H : Hp) (x : V) (v vl vu : Value) (lo hi : Option Int) (sl : Addr) (Q : VK), Inv X pins σ H s → RelV x v → s.heap.IsSliceOf sl vl vu .none → IsPart vl lo → IsPart vu hi → r x lo hi H Q →
  ∃ T id, typeLookup (.type T) "__getitem__" = pure (some (.builtin id)) ∧ s.TypeIs v T ∧ wpAny (model X.prog X.w) X.A (getItem v (.ref sl)) (EP X pins σ Q) X.xe s
def tSl (r : V → Option Int → Option Int → Hp → VK → Prop) (te : TE) (tl th : TO) : TE := fun σ H Q => te σ H fun x H1 => tl σ H1 fun l H2 => th σ H2 fun u H3 => r x l u H3 Q
theorem pe_slice {r : V → Option Int → Option Int → Hp → VK → Prop} (hr : SlR X r) (he : PE X e te) (hl : PO X lo tl) (hu : PO X hi th) : PE X (.Subscript e (.Slice lo hi none p2) pos) (tSl r te tl th) := by
 intro pins s σ H Q I h
 refine Subscript_ (thn (he pins s σ H _ I h) fun v s1 ⟨x, H1, I1, r1, q1⟩ => ?_)
 refine wpAny_Slice (thn (hl pins s1 σ H1 _ I1 q1) fun vl s2 ⟨l, H2, I2, pl, q2⟩ => thn (hu pins s2 σ H2 _ I2 q2) fun vu s3 ⟨u, H3, I3, pu, q3⟩ => ?_)
 rw [evalPart_none]
 refine wpAny_pure ?_
 have I4 : Inv X pins σ H3 { s3 with heap := s3.heap.push { cls := .type "slice", data := .fields #[vl, vu, .none] } } := I3.kept (t' := s3.toks) fun b ob q => Heap.get?_push_of_some _ q
 obtain ⟨T, id, hT, ht, hg⟩ := hr pins { s3 with heap := s3.heap.push { cls := .type "slice", data := .fields #[vl, vu, .none] } } σ H3 x v vl vu l u s3.heap.objs.size Q I4 r1 (Heap.IsSliceOf.new ..) pl pu q3
 show wpAny (model X.prog X.w) X.A (subscriptTail e (.Slice lo hi none p2) v (.ref s3.heap.objs.size)) (EP X pins σ Q) X.xe { s3 with heap := s3.heap.push { cls := .type "slice", data := .fields #[vl, vu, .none] } }
 exact tail_any (ops := [.ref s3.heap.objs.size, v]) ht hT hg (by with_unfolding_all rfl)
def cutV (xs : List V) (lo hi : Option Int) : List V := (xs.drop (HT.sIx xs.length 0 lo)).take (HT.sIx xs.length xs.length hi - HT.sIx xs.length 0 lo)
theorem cutV_length (xs : List V) (lo hi : Option Int) : (cutV xs lo hi).length ≤ xs.length := by
 unfold cutV
 rw [List.length_take, List.length_drop]
 omega
end
end L2
namespace L2
open PySem PySem.Spec PyProof.Rows
def ixN (n : Nat) (i : Int) : Option Nat := if 0 ≤ i then (if i < n then some i.toNat else none) else if -(n : Int) ≤ i then some (i + n).toNat else none
def atI {α : Type} (xs : List α) (i : Int) : Option α := (ixN xs.length i).bind fun j => xs[j]?
theorem ixN_seq {n : Nat} {i : Int} {j : Nat} (h : ixN n i = some j) : seqIndex? i n = some j ∧ j < n ∧ -(n : Int) ≤ i ∧ i < n := by
 unfold ixN at h
 by_cases h0 : 0 ≤ i
 ·rw [if_pos h0] at h
  by_cases h1 : i < n
  ·rw [if_pos h1] at h
   have e : i.toNat = j := Option.some.inj h
   exact ⟨by rw [seqIndex_of h0 h1, e], by omega, by omega, h1⟩
  ·rw [if_neg h1] at h; cases h
 ·rw [if_neg h0] at h
  by_cases h1 : -(n : Int) ≤ i
  ·rw [if_pos h1] at h
   have e : (i + n).toNat = j := Option.some.inj h
   exact ⟨by rw [seqIndex_neg (by omega) h1, e], by omega, h1, by omega⟩
  ·rw [if_neg h1] at h; cases h
theorem atI_get {α : Type} {xs : List α} {i : Int} {v : α} (h : atI xs i = some v) : ∃ j, seqIndex? i xs.length = some j ∧ xs[j]? = some v ∧ j < xs.length ∧ -(xs.length : Int) ≤ i ∧ i < xs.length := by
 unfold atI at h
 cases e : ixN xs.length i with
 | none => rw [e] at h; cases h
 | some j =>
  rw [e] at h
  obtain ⟨h1, h2, h3, h4⟩ := ixN_seq e
  exact ⟨j, h1, h, h2, h3, h4⟩
theorem atI_nat {α : Type} {xs : List α} {j : Nat} {v : α} (h : xs[j]? = some v) : atI xs (j : Int) = some v := by
 have hj : j < xs.length := (List.getElem?_eq_some_iff.mp h).1
 have e : ixN xs.length (j : Int) = some j := by
  unfold ixN
  rw [if_pos (by omega), if_pos (by omega)]; simp
 unfold atI; rw [e]; exact h
theorem atI_last {α : Type} (xs : List α) (v : α) : atI (xs ++ [v]) (-1) = some v := by
 have hl : (xs ++ [v]).length = xs.length + 1 := by simp
 have e : ixN (xs ++ [v]).length (-1) = some xs.length := by
  unfold ixN
  rw [hl, if_neg (by decide), if_pos (by omega)]
  congr 1
  omega
 unfold atI
 rw [e]
 show (xs ++ [v])[xs.length]? = some v
 simp
def PlainIx (b : Expr) : Prop := ∀ o i, subscripted b false o i = operate [o, i] (getItem o i)
def IxR (X : Cx) (r : R2) : Prop :=
 ∀ (value slice : Expr) (pins : List (Addr × Obj)) (s : Shared) (σ : St) (H : Hp) (x y : V) (v u : Value) (Q : VK), Inv X pins σ H s → RelV x v → RelV y u → r x y H Q →
  subscripted slice false v u = operate [v, u] (getItem v u) → wpAny (model X.prog X.w) X.A (subscriptTail value slice v u) (EP X pins σ Q) X.xe s
def MtR (X : Cx) (id : String) (r : V → List V → Hp → VK → Prop) : Prop :=
 ∀ (pins : List (Addr × Obj)) (s : Shared) (σ : St) (H : Hp) (x : V) (xs : List V) (v : Value) (us : List Value) (Q : VK), Inv X pins σ H s → RelV x v → Vals xs us → r x xs H Q →
  wpAny (model X.prog X.w) X.A (call (.builtin id) (v :: us)) (EP X pins σ Q) X.xe s
section
variable {X : Cx} {a b : Expr} {ta tb : TE} {pos : Pos}
theorem pe_ix {r : R2} (hr : IxR X r) (ha : PE X a ta) (hb : PE X b tb) (hs : PlainIx b) : PE X (.Subscript a b pos) (tOp r ta tb) := by
 intro pins s σ H Q I h
 exact Subscript_ (binT ha hb I h fun v u s2 x y H2 I2 rx ry q => hr a b pins s2 σ H2 x y v u Q I2 rx ry q (hs _ _))
def rIxL (K : PySem.W.Frag) : R2 := fun x y H Q => ∃ p xs i v, x = .ref p ∧ y = .int i ∧ SqL K H p xs ∧ atI xs i = some v ∧ Q v H
def rIxT (K : PySem.W.Frag) : R2 := fun x y H Q => ∃ p xs i v, x = .ref p ∧ y = .int i ∧ SqT K H p xs ∧ atI xs i = some v ∧ Q v H
theorem ix_list : IxR X (rIxL X.K) := by
 intro value slice pins s σ H x y v u Q I rx ry h hs
 obtain ⟨p, xs, i, z, rfl, rfl, hq, he, q⟩ := h
 cases rx
 obtain ⟨t, rfl⟩ := ry
 obtain ⟨its, r, pl, hz⟩ := I.list hq
 obtain ⟨j, h1, h2, h3, h4, h5⟩ := atI_get he
 obtain ⟨w, ew, rw'⟩ := r.get h2
 have hl := r.length
 have hn := line63
 have fin : EP X pins σ Q w s := ⟨z, H, I, rw', q⟩
 by_cases h0 : 0 ≤ i
 ·have hj : i.toNat = j := by
   rw [seqIndex_of h0 h5] at h1
   exact Option.some.inj h1
  exact item_listR pl.isList h0 (by omega) (by rw [hj]; simpa using ew) fin hs
 ·have hj : (i + (its.toArray.size : Int)).toNat = j := by
   rw [seqIndex_neg (by omega) h4] at h1
   rw [List.size_toArray, ← hl]
   exact Option.some.inj h1
  exact subscriptTail_builtinR (x := w) pl.isList.typeIs slot_list_getitem.lookup
   (wpAny_getItem_list_neg (Q := fun r s' => r = w ∧ EP X pins σ Q r s') pl.isList (by omega) (by rw [List.size_toArray] <;> omega) (by omega) (by rw [hj]; simpa using ew) ⟨rfl, fin⟩) hs
theorem ix_tup : IxR X (rIxT X.K) := by
 intro value slice pins s σ H x y v u Q I rx ry h hs
 obtain ⟨p, xs, i, z, rfl, rfl, hq, he, q⟩ := h
 cases rx
 obtain ⟨t, rfl⟩ := ry
 obtain ⟨its, r, pl, hz⟩ := I.tuple hq
 obtain ⟨j, h1, h2, h3, h4, h5⟩ := atI_get he
 obtain ⟨w, ew, rw'⟩ := r.get h2
 have hl := r.length
 have hn := line63
 have fin : EP X pins σ Q w s := ⟨z, H, I, rw', q⟩
 exact subscriptTail_builtinR (x := w) pl.typeIs slot_tuple_getitem.lookup
  (getItem_tuple (j := j) (Q := fun r s' => r = w ∧ EP X pins σ Q r s') pl (by omega) (by omega) (by rw [List.size_toArray, ← hl]; exact h1) (by simpa using ew) ⟨rfl, fin⟩) hs
theorem mapSeq_set (its : List Value) (n j : Nat) (u : Value) : Obj.mapSeq (·.setIfInBounds j u) { cls := .type "list", data := .seq its.toArray n } = { cls := .type "list", data := .seq (its.set j u).toArray n } := by
 simp [Obj.mapSeq]
theorem Inv.lst {pins : List (Addr × Obj)} {σ : St} {H : Hp} {s : Shared} {p : Addr} {xs : List V} (I : Inv X pins σ H s) (h : H p = some (.lst xs)) :
  ∃ (its : List Value) (n : Nat), Vals xs its ∧ s.heap.get? p = some { cls := .type "list", data := .seq its.toArray n } ∧ xs.length ≤ sizeLine := by
 obtain ⟨z, its, n, r, e⟩ := I.hok p _ h
 exact ⟨its, n, r, e, z⟩
theorem Inv.lstUpd {pins : List (Addr × Obj)} {σ : St} {H : Hp} {s : Shared} {p : Addr} {xs ys : List V} {its its' : List Value} {n n' : Nat} {f : Obj → Obj} (I : Inv X pins σ H s) (h : H p = some (.lst xs))
  (ho : s.heap.get? p = some { cls := .type "list", data := .seq its.toArray n }) (hf : f { cls := .type "list", data := .seq its.toArray n } = { cls := .type "list", data := .seq its'.toArray n' }) (r : Vals ys its') (hz : ys.length ≤ sizeLine) (t : Nat) :
  Inv X pins σ (upd H p (.lst ys)) { s with heap := s.heap.update p f, toks := t } := by
 have e : (s.heap.update p f).get? p = some { cls := .type "list", data := .seq its'.toArray n' } := by
  rw [Heap.get?_update_self f ho (by rw [hf] <;> rfl), hf]
 refine I.write (x := p) (e := p) (by rw [h]; trivial) (.inl rfl) (fun b u hb q => (Heap.get?_update_other _ _ (Ne.symm hb)).trans q) ⟨_, e⟩ ?_
 exact ⟨hz, its', n', r, e⟩
def rSetL : V → V → V → Hp → (Hp → Prop) → Prop := fun o i v H Q => ∃ p xs k j, o = .ref p ∧ i = .int k ∧ H p = some (.lst xs) ∧ ixN xs.length k = some j ∧ Q (upd H p (.lst (xs.set j v)))
theorem set_list : PSet X rSetL := by
 intro pins s σ H o i v ov iv u Q I ro ri rv h
 obtain ⟨p, xs, k, j, rfl, rfl, hp, hj, q⟩ := h
 cases ro
 obtain ⟨t, rfl⟩ := ri
 obtain ⟨its, n, r, ho, hz⟩ := I.lst hp
 obtain ⟨h1, h2, h3, h4⟩ := ixN_seq hj
 have hl := r.length
 have hn := line63
 have I' : Inv X pins σ (upd H p (.lst (xs.set j v))) { s with heap := s.heap.update p (Obj.mapSeq (·.setIfInBounds j u)) } :=
  I.lstUpd hp ho (mapSeq_set its n j u) (r.set rv j) (by rw [List.length_set]; exact hz) s.toks
 by_cases h0 : 0 ≤ k
 ·have hk : k.toNat = j := by
   rw [seqIndex_of h0 h4] at h1
   exact Option.some.inj h1
  exact PySem.W.ki_setAt ho h0 (by omega) (by rw [List.size_toArray, ← hl]; exact h4) (by rw [hk]; exact ⟨_, I', q⟩)
 ·have hk : (k + (its.toArray.size : Int)).toNat = j := by
   rw [seqIndex_neg (by omega) h3] at h1
   rw [List.size_toArray, ← hl]
   exact Option.some.inj h1
  exact PySem.W.ki_setBack ho (by omega) (by rw [List.size_toArray, ← hl]; exact h3) (by omega) (by rw [hk]; exact ⟨_, I', q⟩)
theorem slice_bounds (lo hi : Option Int) (n : Nat) : (sliceBounds lo hi none n).1 = ((HT.sIx n 0 lo : Nat) : Int) ∧ (sliceBounds lo hi none n).2.1 = ((HT.sIx n n hi : Nat) : Int) ∧ (sliceBounds lo hi none n).2.2 = 1 := by
 refine ⟨?_, ?_, rfl⟩
 ·cases lo with
  | none => simp [sliceBounds, HT.sIx]
  | some i =>
   simp only [sliceBounds, HT.sIx, Option.getD_none, show (1 : Int) > 0 by decide, if_true]
   by_cases h : i < 0
   ·simp only [h, if_true] <;> omega
   ·simp only [h, if_false] <;> omega
 ·cases hi with
  | none => simp [sliceBounds, HT.sIx]
  | some i =>
   simp only [sliceBounds, HT.sIx, Option.getD_none, show (1 : Int) > 0 by decide, if_true]
   by_cases h : i < 0
   ·simp only [h, if_true] <;> omega
   ·simp only [h, if_false] <;> omega
theorem slicePick_cut (its : List Value) (lo hi : Option Int) : slicePick its.toArray lo hi none = ((its.drop (HT.sIx its.length 0 lo)).take (HT.sIx its.length its.length hi - HT.sIx its.length 0 lo)).toArray := by
 obtain ⟨h1, h2, h3⟩ := slice_bounds lo hi its.toArray.size
 unfold slicePick
 rw [h1, h2, h3]
 simp only [sliceRange_one, pick_run, List.size_toArray] <;> rfl
def rSlL (K : PySem.W.Frag) : V → Option Int → Option Int → Hp → VK → Prop := fun x lo hi H Q => ∃ a xs, x = .ref a ∧ SqL K H a xs ∧ ∀ p, H p = none → Q (.ref p) (upd H p (.lst (cutV xs lo hi)))
theorem sl_list : SlR X (rSlL X.K) := by
 intro pins s σ H x v vl vu lo hi sl Q I rx hs pl pu h
 obtain ⟨a, xs, rfl, hx, q⟩ := h
 cases rx
 obtain ⟨its, r, ht, hz⟩ := I.list hx
 have hlen := r.length
 refine ⟨"list", _, slot_list_getitem.lookup, ht.isList.typeIs, ?_⟩
 refine wpAny_getItem_list_slice ht.isList hs pl pu .none (by simp) ?_ (by rw [List.size_toArray] <;> omega)
 rw [slicePick_cut, ← hlen]
 refine ⟨.ref s.heap.objs.size, _, I.laid (t' := s.toks) (o := .lst (cutV xs lo hi)) (fun b ob q => Heap.get?_push_of_some _ q) (Nat.le_refl _) ?_, rfl, q _ (I.hok.fresh (Nat.le_refl _))⟩
 exact ⟨Nat.le_trans (cutV_length xs lo hi) hz, _, 0, (r.drop (HT.sIx xs.length 0 lo)).take (HT.sIx xs.length xs.length hi - HT.sIx xs.length 0 lo), Heap.get?_push_size _ rfl⟩
def flatV : V → Bool
 | .non => true
 | .bl _ => true
 | .int _ => true
 | .str _ => true
 | _ => false
def eqV : V → V → Bool
 | .non, .non => true
 | .bl a, .bl b => a == b
 | .bl a, .int b => (if a then 1 else 0) == b
 | .int a, .bl b => a == (if b then 1 else 0)
 | .int a, .int b => a == b
 | .str a, .str b => a == b
 | _, _ => false
theorem eqAt_V {A : Around} {s : Shared} {y x : V} {u v : Value} (ry : RelV y u) (rx : RelV x v) (fy : flatV y = true) (fx : flatV x = true) : SeqAt.EqAt A s u v (eqV y x) := by
 cases y with
 | non =>
  cases ry
  cases x with
  | non => cases rx; exact SeqAt.EqAt.same _
  | bl b => cases rx; exact SeqAt.EqAt.none_bool b
  | int b => obtain ⟨t, rfl⟩ := rx; exact SeqAt.EqAt.none_int b t
  | str b => obtain ⟨t, rfl⟩ := rx; exact SeqAt.EqAt.none_str b t
  | _ => exact absurd (show false = true from fx) Bool.false_ne_true
 | bl a =>
  cases ry
  cases x with
  | non => cases rx; exact SeqAt.EqAt.bool_none a
  | bl b => cases rx; exact SeqAt.EqAt.bool_bool a b
  | int b => obtain ⟨t, rfl⟩ := rx; exact SeqAt.EqAt.bool_int a b t
  | str b => obtain ⟨t, rfl⟩ := rx; exact SeqAt.EqAt.bool_str a b t
  | _ => exact absurd (show false = true from fx) Bool.false_ne_true
 | int a =>
  obtain ⟨t', rfl⟩ := ry
  cases x with
  | non => cases rx; exact SeqAt.EqAt.int_none a t'
  | bl b => cases rx; exact SeqAt.EqAt.int_bool a t' b
  | int b => obtain ⟨t, rfl⟩ := rx; exact SeqAt.EqAt.int_int a t' b t
  | str b => obtain ⟨t, rfl⟩ := rx; exact SeqAt.EqAt.int_str a t' b t
  | _ => exact absurd (show false = true from fx) Bool.false_ne_true
 | str a =>
  obtain ⟨t', rfl⟩ := ry
  cases x with
  | non => cases rx; exact SeqAt.EqAt.str_none a t'
  | bl b => cases rx; exact SeqAt.EqAt.str_bool a t' b
  | int b => obtain ⟨t, rfl⟩ := rx; exact SeqAt.EqAt.str_int a t' b t
  | str b => obtain ⟨t, rfl⟩ := rx; exact SeqAt.EqAt.str_str a t' b t
  | _ => exact absurd (show false = true from fx) Bool.false_ne_true
 | _ => exact absurd (show false = true from fy) Bool.false_ne_true
def eqU (x : V) (u : Value) : Bool := match u with
 | .none => eqV .non x
 | .bool b => eqV (.bl b) x
 | .int i _ => eqV (.int i) x
 | .str z _ => eqV (.str z) x
 | _ => false
theorem eqU_of {x y : V} {u : Value} (r : RelV y u) (f : flatV y = true) : eqU x u = eqV y x := by
 cases y with
 | non => cases r; rfl
 | bl b => cases r; rfl
 | int i => obtain ⟨t, rfl⟩ := r; rfl
 | str z => obtain ⟨t, rfl⟩ := r; rfl
 | _ => exact absurd (show false = true from f) Bool.false_ne_true
theorem any_eqU {x : V} : ∀ {xs : List V} {us : List Value}, Vals xs us → xs.all flatV = true → us.any (eqU x) = xs.any fun y => eqV y x
 | _, _, .nil, _ => rfl
 | y :: xs, u :: us, .cons r t, f => by
  rw [List.all_cons, Bool.and_eq_true] at f
  rw [List.any_cons, List.any_cons, eqU_of r f.1, any_eqU t f.2]
theorem mem_eqAt {A : Around} {s : Shared} {x : V} {v : Value} (rx : RelV x v) (fx : flatV x = true) : ∀ {xs : List V} {us : List Value}, Vals xs us → xs.all flatV = true → ∀ u ∈ us, SeqAt.EqAt A s u v (eqU x u)
 | _, _, .nil, _ => fun u hu => by cases hu
 | y :: xs, u :: us, .cons r t, f => fun u' hu => by
  rw [List.all_cons, Bool.and_eq_true] at f
  rcases List.mem_cons.mp hu with rfl | hu
  ·rw [eqU_of r f.1]; exact eqAt_V r rx f.1 fx
  ·exact mem_eqAt rx fx t f.2 u' hu
def inV (x : V) (xs : List V) : Bool := xs.any fun y => eqV y x
def rIn (K : PySem.W.Frag) (neg : Bool) : R2 := fun x y H Q => ∃ p xs, y = .ref p ∧ (SqL K H p xs ∨ SqT K H p xs) ∧ flatV x = true ∧ xs.all flatV = true ∧ Q (.bl (if neg then !inV x xs else inV x xs)) H
theorem op_in_seq : OpR X (compareOp .In) (rIn X.K false) := by
 intro pins s σ H x y v u Q I rx ry h
 obtain ⟨p, xs, rfl, hq, fx, fs, q⟩ := h
 cases ry
 rcases hq with hq | hq
 ·obtain ⟨its, r, pl, hz⟩ := I.list hq
  refine SeqAt.in_listAt (eqU x) pl.isList (fun w hw => mem_eqAt rx fx r fs w (by simpa using hw)) ⟨.bl _, H, I, rfl, ?_⟩
  rw [show its.toArray.any (eqU x) = its.any (eqU x) by simp, any_eqU r fs]
  exact q
 ·obtain ⟨its, r, pl, hz⟩ := I.tuple hq
  refine SeqAt.in_tupleAt (eqU x) pl (fun w hw => mem_eqAt rx fx r fs w (by simpa using hw)) ⟨.bl _, H, I, rfl, ?_⟩
  rw [show its.toArray.any (eqU x) = its.any (eqU x) by simp, any_eqU r fs]
  exact q
theorem op_notIn_seq : OpR X (compareOp .NotIn) (rIn X.K true) := by
 intro pins s σ H x y v u Q I rx ry h
 obtain ⟨p, xs, rfl, hq, fx, fs, q⟩ := h
 cases ry
 rcases hq with hq | hq
 ·obtain ⟨its, r, pl, hz⟩ := I.list hq
  refine SeqAt.notIn_listAt (eqU x) pl.isList (fun w hw => mem_eqAt rx fx r fs w (by simpa using hw)) ⟨.bl _, H, I, rfl, ?_⟩
  rw [show its.toArray.any (eqU x) = its.any (eqU x) by simp, any_eqU r fs]
  exact q
 ·obtain ⟨its, r, pl, hz⟩ := I.tuple hq
  refine SeqAt.notIn_tupleAt (eqU x) pl (fun w hw => mem_eqAt rx fx r fs w (by simpa using hw)) ⟨.bl _, H, I, rfl, ?_⟩
  rw [show its.toArray.any (eqU x) = its.any (eqU x) by simp, any_eqU r fs]
  exact q
theorem call_len_seq : CallR X (.builtin "len") (fun xs H Q => ∃ p ys, xs = [.ref p] ∧ (SqL X.K H p ys ∨ SqT X.K H p ys) ∧ Q (.int ys.length) H) := by
 intro pins s σ H xs us Q I r h
 obtain ⟨p, ys, rfl, hq, q⟩ := h
 obtain ⟨u, rfl, rx⟩ := vals1 r
 cases rx
 have hn := line63
 rcases hq with hq | hq
 ·obtain ⟨its, r', pl, hz⟩ := I.list hq
  have hlen := r'.length
  exact Calls.call_len_list pl.isList (by simp only [List.size_toArray] <;> omega) ⟨.int ys.length, H, I.tok _, ⟨s.toks + 1, by rw [List.size_toArray, hlen]⟩, q⟩
 ·obtain ⟨its, r', pl, hz⟩ := I.tuple hq
  have hlen := r'.length
  exact len_tuple pl (by simp only [List.size_toArray] <;> omega) ⟨.int ys.length, H, I.tok _, ⟨s.toks + 1, by rw [List.size_toArray, hlen]⟩, q⟩
theorem call_list_of : CallR X (.type "list") (fun xs H Q => ∃ p ys, xs = [.ref p] ∧ (SqL X.K H p ys ∨ SqT X.K H p ys) ∧ ∀ l, H l = none → Q (.ref l) (upd H l (.lst ys))) := by
 intro pins s σ H xs us Q I r h
 obtain ⟨p, ys, rfl, hq, q⟩ := h
 obtain ⟨u, rfl, rx⟩ := vals1 r
 cases rx
 have fin : ∀ (its : List Value), Vals ys its → ys.length ≤ sizeLine → ∀ (h' : Heap) (c' : Nat), (∀ b o', s.heap.get? b = some o' → h'.get? b = some o') →
   h'.get? s.heap.objs.size = some { cls := .type "list", dict := none, data := .seq its.toArray c', slots := #[] } → EP X pins σ Q (.ref s.heap.objs.size) { s with heap := h' } := fun its r' hz h' c' kp e =>
  ⟨.ref s.heap.objs.size, _, I.laid (t' := s.toks) kp (Nat.le_refl _) (show ObjOk X.prog X.w _ h' _ (.lst ys) from ⟨hz, its, c', r', e⟩), rfl, q _ (I.hok.fresh (Nat.le_refl _))⟩
 rcases hq with hq | hq
 ·obtain ⟨its, r', pl, hz⟩ := I.list hq
  have hlen := r'.length
  obtain ⟨o, ho, hc, n, hd⟩ := pl.isList
  exact call_list_seq p (.inl rfl) ho hc hd (fun h' c' kp e => fin its r' hz h' c' kp e) (by simp only [List.size_toArray] <;> omega)
 ·obtain ⟨its, r', pl, hz⟩ := I.tuple hq
  have hlen := r'.length
  obtain ⟨o, ho, hc, n, hd⟩ := pl
  exact call_list_seq p (.inr rfl) ho hc hd (fun h' c' kp e => fin its r' hz h' c' kp e) (by simp only [List.size_toArray] <;> omega)
theorem call_tuple_of : CallR X (.type "tuple") (fun xs H Q => ∃ p ys, xs = [.ref p] ∧ ((SqL X.K H p ys ∧ ∀ l, H l = none → Q (.ref l) (upd H l (.tup ys))) ∨ (SqT X.K H p ys ∧ Q (.ref p) H))) := by
 intro pins s σ H xs us Q I r h
 obtain ⟨p, ys, rfl, h⟩ := h
 obtain ⟨u, rfl, rx⟩ := vals1 r
 cases rx
 rcases h with ⟨hq, q⟩ | ⟨hq, q⟩
 ·obtain ⟨its, r', pl, hz⟩ := I.list hq
  have hlen := r'.length
  refine call_tuple_list pl.isList (fun h' kp => ?_) (by simp only [List.size_toArray] <;> omega)
  have I1 : Inv X pins σ H { s with heap := h' } := I.kept (t' := s.toks) kp
  have I2 : Inv X pins σ (upd H h'.objs.size (.tup ys)) { s with heap := h'.push { cls := .type "tuple", data := .seq its.toArray } } :=
   I1.laid (t' := s.toks) (fun b o e => Heap.get?_push_of_some _ e) (Nat.le_refl _) (show ObjOk X.prog X.w _ _ _ (.tup ys) from ⟨hz, its, r', IsTup.new _ _⟩)
  exact ⟨.ref h'.objs.size, _, I2, rfl, q _ (I1.hok.fresh (Nat.le_refl _))⟩
 ·obtain ⟨its, r', pl, hz⟩ := I.tuple hq
  exact call_tuple_same pl ⟨.ref p, H, I, rfl, q⟩
def tyV (K : PySem.W.Frag) (T : String) (x : V) (H : Hp) : Prop := match x with
 | .str _ => T = "str"
 | .int _ => T = "int"
 | .ref p => (T = "list" ∧ ∃ xs, SqL K H p xs) ∨ (T = "tuple" ∧ ∃ o, K.lookup p = some o ∧ o.cls = .type "tuple" ∧ o.dict = none) ∨
   (T = "dict" ∧ ((∃ kvs, H p = some (.dK kvs)) ∨ ∃ kvs, H p = some (.dT kvs))) ∨ (T = "set" ∧ ∃ S n, H p = some (.set S n))
 | _ => False
theorem tyV_is {pins : List (Addr × Obj)} {σ : St} {H : Hp} {s : Shared} {T : String} {x : V} {v : Value} (I : Inv X pins σ H s) (r : RelV x v) (ty : tyV X.K T x H) :
  s.TypeIs v T ∧ ∀ a, v = .ref a → ∃ ob, s.heap.get? a = some ob ∧ ob.dict = none := by
 cases x with
 | str z =>
  obtain ⟨t, rfl⟩ := r
  cases (show T = "str" from ty)
  exact ⟨typeIs_str s z t, fun _ e => nomatch e⟩
 | int i =>
  obtain ⟨t, rfl⟩ := r
  cases (show T = "int" from ty)
  exact ⟨typeIs_int s i t, fun _ e => nomatch e⟩
 | ref p =>
  cases r
  rcases ty with ⟨rfl, xs, hq⟩ | ⟨rfl, o, hk, hc, hd⟩ | ⟨rfl, hk⟩ | ⟨rfl, S, n, hk⟩
  ·obtain ⟨its, _, pl, _⟩ := I.list hq
   refine ⟨pl.isList.typeIs, fun a e => ?_⟩
   cases e
   obtain ⟨o, n, e, c, hd, _⟩ := pl
   exact ⟨o, e, hd⟩
  ·refine ⟨⟨o, I.kIn p o hk, hc⟩, fun a e => ?_⟩
   cases e
   exact ⟨o, I.kIn _ o hk, hd⟩
  ·have z : ∃ o, s.heap.get? p = some o ∧ o.ExactDict := by
    rcases hk with ⟨kvs, hk⟩ | ⟨kvs, hk⟩
    ·obtain ⟨_, _, _, _, o, _, _, e, ex, _⟩ := I.hok p _ hk
     exact ⟨o, e, ex⟩
    ·obtain ⟨_, _, _, _, o, _, _, e, ex, _⟩ := I.hok p _ hk
     exact ⟨o, e, ex⟩
   obtain ⟨o, e, ex⟩ := z
   refine ⟨⟨o, e, ex.1⟩, fun a e2 => ?_⟩
   cases e2
   exact ⟨o, e, ex.2.1⟩
  ·obtain ⟨o, _, _, _, e, ex, _⟩ := I.hok p _ hk
   refine ⟨⟨o, e, ex.1⟩, fun a e2 => ?_⟩
   cases e2
   exact ⟨o, e, ex.2.1⟩
 | _ => exact False.elim ty
def tBM (K : PySem.W.Frag) (T : String) (r : V → List V → Hp → VK → Prop) (to : TE) (t : TA) : TE := fun σ H Q => to σ H fun x H1 => tyV K T x H1 ∧ t σ H1 fun xs H2 => r x xs H2 Q
variable {o e : Expr} {es : List Expr} {to : TE} {t : TA} {name : Str} {apos cpos : Pos} {T id : String} {r : V → List V → Hp → VK → Prop}
theorem pe_bm (pa : PlainAttrs T) (slot : Slot T name id) (hty : typeOf (.builtin id) = pure (.type "method_descriptor")) (hm : MtR X id r) (ho : PE X o to) (ha : PA X (e :: es) t)
  (hbase : attributeBase o name X.env (eval o X.env) = eval o X.env := by rfl)
  (hfew : ((backTo cpos (starEach (e :: es) X.env)).all (fun x => !x.1) && (backToKw cpos (keywordEach [] X.env)).all (fun x => x.1.isSome)
   && decide ((e :: es).length + ([] : List Keyword).length + (if ([] : List Keyword).isEmpty then 0 else 1) < 30)) = true := by rfl)
  (hline : (apos.endLine == cpos.line) = true := by rfl) (hs : starEach (e :: es) X.env = (false, eval e X.env) :: starEach es X.env := by rfl) (hplain : (backTo cpos (starEach es X.env)).any (·.1) = false := by rfl) :
  PE X (.Call (.Attribute o name apos) (e :: es) [] cpos) (tBM X.K T r to t) := by
 intro pins s σ H Q I h
 refine wpAny_Call_method_late hbase hfew hline rfl (thn (ho pins s σ H _ I h) fun v s1 ⟨x, H1, I1, r1, ty, q1⟩ => ?_)
 obtain ⟨h1, h2⟩ := tyV_is I1 r1 ty
 refine ⟨T, id, pa, slot, hty, h1, h2, ?_⟩
 have hA := ha cpos pins s1 σ H1 _ I1 q1
 rw [hs] at hA ⊢
 refine Calls.callWith_builtin (by show (false || (backTo cpos (starEach es X.env)).any (·.1)) = false; rw [hplain] <;> rfl) (Calls.evalArgs_plain ?_)
 exact thn hA fun us s2 ⟨vs, H2, I2, r2, q2⟩ => hm pins s2 σ H2 x vs v us Q I2 r1 r2 q2
end
end L2
namespace L2
open PySem PySem.Spec PyProof.Rows
def MtM (X : Cx) (id : String) (r : V → List V → Hp → VK → Prop) : Prop :=
 ∀ (pins : List (Addr × Obj)) (s : Shared) (σ : St) (H : Hp) (x : V) (xs : List V) (v : Value) (us : List Value) (Q : VK), Inv X pins σ H s → RelV x v → Vals xs us → r x xs H Q →
  wpAny (model X.prog X.w) X.A (call (.builtin id) (v :: us)) (EP X pins σ Q) X.xe s
theorem Vals.one : ∀ {x : V} {us : List Value}, Vals [x] us → ∃ u, us = [u] ∧ RelV x u
 | _, _, .cons r .nil => ⟨_, rfl, r⟩
theorem Vals.two : ∀ {x y : V} {us : List Value}, Vals [x, y] us → ∃ u v, us = [u, v] ∧ RelV x u ∧ RelV y v
 | _, _, _, .cons r (.cons q .nil) => ⟨_, _, rfl, r, q⟩
theorem Vals.eraseIdx : ∀ {xs : List V} {us : List Value} (i : Nat), Vals xs us → Vals (xs.eraseIdx i) (us.eraseIdx i)
 | _, _, _, .nil => .nil
 | _, _, 0, .cons _ t => t
 | _, _, i + 1, .cons r t => .cons r (Vals.eraseIdx i t)
theorem len_erase {α : Type} : ∀ (l : List α) (i : Nat), (l.eraseIdx i).length ≤ l.length
 | [], _ => Nat.le_refl _
 | _ :: _, 0 => Nat.le_succ _
 | _ :: r, i + 1 => Nat.succ_le_succ (len_erase r i)
section
variable {X : Cx} {pins : List (Addr × Obj)} {σ : St} {H : Hp} {s : Shared} {l b : Addr} {xs ys zs : List V}
theorem Inv.lset {its its' : List Value} {n : Nat} {f : Array Value → Array Value} {t' : Nat} (I : Inv X pins σ H s) (hH : H l = some (.lst xs))
  (e : s.heap.get? l = some { cls := .type "list", data := .seq its.toArray n }) (hf : f its.toArray = its'.toArray) (hv : Vals ys its') (hz : ys.length ≤ sizeLine) :
  Inv X pins σ (upd H l (.lst ys)) { s with heap := s.heap.update l (Obj.mapSeq f), toks := t' } := by
 have q := PySem.IsL.update e f
 rw [hf] at q
 refine I.write (x := l) (e := l) (by rw [hH]; exact trivial) (.inl rfl) (fun b' u hb hu => (Heap.get?_update_other s.heap (Obj.mapSeq f) (Ne.symm hb)).trans hu) ⟨_, q⟩ ?_
 exact ⟨hz, its', _, hv, q⟩
theorem Inv.lnew {its : List Value} {t' : Nat} (I : Inv X pins σ H s) (hv : Vals ys its) (hz : ys.length ≤ sizeLine) :
  Inv X pins σ (upd H s.heap.objs.size (.lst ys)) { s with heap := s.heap.push { cls := .type "list", data := .seq its.toArray }, toks := t' } :=
 I.laid (fun _ _ q => Heap.get?_push_of_some _ q) (Nat.le_refl _) ⟨hz, its, 0, hv, Heap.get?_push_size _ rfl⟩
theorem Inv.fresh (I : Inv X pins σ H s) : H s.heap.objs.size = none := I.hok.fresh (Nat.le_refl _)
theorem Inv.lstM (I : Inv X pins σ H s) (hH : H l = some (.lst xs)) : xs.length ≤ sizeLine ∧ ∃ (its : List Value) (n : Nat), Vals xs its ∧ xs.length = its.length ∧ s.heap.get? l = some { cls := .type "list", data := .seq its.toArray n } := by
 obtain ⟨z, its, n, r, e⟩ := I.hok l _ hH
 exact ⟨z, its, n, r, r.length, e⟩
theorem notLongL {n : Nat} (h : n ≤ sizeLine) : Builtin.List.listTooLong n = false := by
 unfold Builtin.List.listTooLong
 exact decide_eq_false (by omega)
end
section
variable {X : Cx}
def rAppend : V → List V → Hp → VK → Prop := fun x vs H Q => ∃ l xs y, x = .ref l ∧ vs = [y] ∧ H l = some (.lst xs) ∧ xs.length < sizeLine ∧ Q .non (upd H l (.lst (xs ++ [y])))
theorem mt_append : MtM X "list.append" rAppend := by
 intro pins s σ H x vs v us Q I rx rv h
 obtain ⟨l, xs, y, rfl, rfl, hH, hz, q⟩ := h
 cases rx
 obtain ⟨u, rfl, ru⟩ := rv.one
 obtain ⟨z, its, n, r, hl, e⟩ := I.lstM hH
 refine call_meets F.slot_list_append ⟨_, e, rfl⟩ F.entry_list_append (F.args_list_append_2 _ _) (PySem.list_append l its.toArray n u (by rw [List.size_toArray]; omega)) ⟨e, ?_⟩
 refine ⟨.non, _, I.lset (its' := its ++ [u]) hH e (by simp) (r.append (.cons ru .nil)) ?_, rfl, q⟩
 rw [List.length_append, List.length_singleton]
 omega
def rExtend : V → List V → Hp → VK → Prop := fun x vs H Q => ∃ l b xs zs, x = .ref l ∧ vs = [.ref b] ∧ H l = some (.lst xs) ∧ H b = some (.lst zs) ∧ xs.length + zs.length ≤ sizeLine ∧ Q .non (upd H l (.lst (xs ++ zs)))
theorem mt_extend : MtM X "list.extend" rExtend := by
 intro pins s σ H x vs v us Q I rx rv h
 obtain ⟨l, b, xs, zs, rfl, rfl, hH, hB, hz, q⟩ := h
 cases rx
 obtain ⟨u, rfl, ru⟩ := rv.one
 cases ru
 obtain ⟨z, its, n, r, hl, e⟩ := I.lstM hH
 obtain ⟨z2, its2, n2, r2, hl2, e2⟩ := I.lstM hB
 have hsz : its.toArray.size + its2.toArray.size ≤ sizeLine := by rw [List.size_toArray, List.size_toArray]; omega
 have hlong : ¬ (!its.toArray.isEmpty && Builtin.List.listTooLong (its.toArray.size + its2.toArray.size)) = true := by
  rw [notLongL hsz, Bool.and_false]
  exact Bool.false_ne_true
 refine call_meets F.slot_list_extend ⟨_, e, rfl⟩ F.entry_list_extend (F.args_list_extend_2 _ _)
  (AutoSeq1.list_extend_list_list_0 l its.toArray n b its2.toArray n2 hlong (by rw [List.size_toArray]; omega) (by omega)) ⟨e, e2, ?_⟩
 refine ⟨.non, _, I.lset (its' := its ++ its2) hH e (by simp) (r.append r2) ?_, rfl, q⟩
 rw [List.length_append]
 omega
def rPopAt : V → List V → Hp → VK → Prop := fun x vs H Q => ∃ l xs i k y, x = .ref l ∧ vs = [.int i] ∧ H l = some (.lst xs) ∧ -(2 ^ 63) ≤ i ∧ i < 2 ^ 63 ∧ seqIndex? i xs.length = some k ∧ xs[k]? = some y ∧ Q y (upd H l (.lst (xs.eraseIdx k)))
theorem mt_popAt : MtM X "list.pop" rPopAt := by
 intro pins s σ H x vs v us Q I rx rv h
 obtain ⟨l, xs, i, k, y, rfl, rfl, hH, h1, h2, hk, hy, q⟩ := h
 cases rx
 obtain ⟨u, rfl, ru⟩ := rv.one
 obtain ⟨t, rfl⟩ := ru
 obtain ⟨z, its, n, r, hl, e⟩ := I.lstM hH
 obtain ⟨w, hw, rw'⟩ := r.get hy
 refine call_meets F.slot_list_pop ⟨_, e, rfl⟩ F.entry_list_pop (F.args_list_pop_2 _ _)
  (MeetsSeq.list_pop_at l its.toArray n i t k w (fitsIndex_both h1 h2) (by rw [List.size_toArray, ← hl]; exact hk) (by rw [← Array.getElem?_toList]; exact hw) (by rw [List.size_toArray]; omega)) ⟨e, ?_⟩
 refine ⟨y, _, I.lset (its' := its.eraseIdx k) hH e ?_ (r.eraseIdx k) ?_, rw', q⟩
 ·show its.toArray.eraseIdxIfInBounds k = (its.eraseIdx k).toArray
  rw [List.eraseIdxIfInBounds_toArray]
 ·have := len_erase xs k
  omega
def rCat : R2 := fun x y H Q => ∃ l b xs zs, x = .ref l ∧ y = .ref b ∧ H l = some (.lst xs) ∧ H b = some (.lst zs) ∧ xs.length + zs.length ≤ sizeLine ∧ ∀ p, H p = none → Q (.ref p) (upd H p (.lst (xs ++ zs)))
theorem op_cat : OpR X (binaryOp .Add) rCat := by
 intro pins s σ H x y v u Q I rx ry h
 obtain ⟨l, b, xs, zs, rfl, rfl, hH, hB, hz, q⟩ := h
 cases rx
 cases ry
 obtain ⟨z, its, n, r, hl, e⟩ := I.lstM hH
 obtain ⟨z2, its2, n2, r2, hl2, e2⟩ := I.lstM hB
 refine PySem.P.add_list e e2 ?_ (by rw [List.size_toArray, List.size_toArray]; omega)
 have ea : its.toArray ++ its2.toArray = (its ++ its2).toArray := by simp
 rw [ea]
 exact ⟨.ref _, _, I.lnew (t' := s.toks) (r.append r2) (by rw [List.length_append]; omega), rfl, q _ I.fresh⟩
end
section
variable {prog : Program} {w : World} {A : Around} {E : Value → Shared → Prop} {s : Shared}
set_option maxRecDepth 100000 in
end
section
variable {X : Cx}
end
end L2
namespace L2
open PySem PySem.Spec PyProof.Rows
section
variable {κ : Type} [DecidableEq κ]
def valV (kvs : List (κ × V)) (k : κ) : Option V := (kvs.find? fun kv => decide (kv.1 = k)).map (·.2)
def putK (kvs : List (κ × V)) (k : κ) (v : V) : List (κ × V) :=
 if (kvs.any fun kv => decide (kv.1 = k)) = true then kvs.map (fun kv => if kv.1 = k then (kv.1, v) else kv) else kvs ++ [(k, v)]
theorem valV_pos {p : κ × V} {r : List (κ × V)} {k : κ} (e : p.1 = k) : valV (p :: r) k = some p.2 := by simp [valV, List.find?_cons, e]
theorem valV_neg {p : κ × V} {r : List (κ × V)} {k : κ} (e : ¬ p.1 = k) : valV (p :: r) k = valV r k := by simp [valV, List.find?_cons, e]
theorem valV_any (k : κ) : ∀ kvs : List (κ × V), (kvs.any fun kv => decide (kv.1 = k)) = (valV kvs k).isSome
 | [] => rfl
 | p :: r => by
  rw [List.any_cons]
  by_cases e : p.1 = k
  ·simp only [valV_pos e, decide_eq_true e, Bool.true_or, Option.isSome_some]
  ·rw [valV_neg e, decide_eq_false e, Bool.false_or]; exact valV_any k r
theorem valV_map (k j : κ) (y : V) : ∀ kvs : List (κ × V), valV (kvs.map fun kv => if kv.1 = k then (kv.1, y) else kv) j = (valV kvs j).map fun x => if j = k then y else x
 | [] => rfl
 | p :: r => by
  have ih := valV_map k j y r
  rw [List.map_cons]
  by_cases h : p.1 = k
  ·rw [if_pos h]
   by_cases e : p.1 = j
   ·rw [valV_pos (p := (p.1, y)) e, valV_pos e, Option.map_some, if_pos (e.symm.trans h)]
   ·rw [valV_neg (p := (p.1, y)) e, valV_neg e, ih]
  ·rw [if_neg h]
   by_cases e : p.1 = j
   ·rw [valV_pos (p := p) e, valV_pos e, Option.map_some, if_neg (fun z => h (e.trans z))]
   ·rw [valV_neg (p := p) e, valV_neg e, ih]
theorem valV_snoc (k j : κ) (y : V) : ∀ kvs : List (κ × V), valV kvs k = none → valV (kvs ++ [(k, y)]) j = if j = k then some y else valV kvs j
 | [], _ => by
  by_cases e : k = j
  ·rw [if_pos e.symm]; exact valV_pos (p := (k, y)) e
  ·rw [if_neg (fun z => e z.symm)]; exact valV_neg (p := (k, y)) e
 | p :: r, hn => by
  rw [List.cons_append]
  have hk : ¬ p.1 = k := fun z => by rw [valV_pos z] at hn; cases hn
  rw [valV_neg hk] at hn
  have ih := valV_snoc k j y r hn
  by_cases e : p.1 = j
  ·rw [valV_pos e, valV_pos e, if_neg (fun z => hk (e.trans z))]
  ·rw [valV_neg e, valV_neg e, ih]
theorem valV_put (kvs : List (κ × V)) (k j : κ) (y : V) : valV (putK kvs k y) j = if j = k then some y else valV kvs j := by
 unfold putK
 by_cases a : (kvs.any fun kv => decide (kv.1 = k)) = true
 ·rw [if_pos a, valV_map]
  rw [valV_any] at a
  by_cases e : j = k
  ·obtain ⟨x, hx⟩ := Option.isSome_iff_exists.mp a
   rw [if_pos e, e, hx, Option.map_some, if_pos rfl]
  ·rw [if_neg e]
   cases valV kvs j with
   | none => rfl
   | some x => rw [Option.map_some, if_neg e]
 ·rw [if_neg a]
  refine valV_snoc k j y kvs ?_
  rw [valV_any] at a
  cases q : valV kvs k with
  | none => rfl
  | some x => rw [q] at a; exact (a rfl).elim
theorem length_putK (kvs : List (κ × V)) (k : κ) (v : V) : (putK kvs k v).length ≤ kvs.length + 1 := by
 unfold putK
 split
 ·rw [List.length_map]; omega
 ·rw [List.length_append, List.length_cons, List.length_nil]; omega
theorem putK_new {kvs : List (κ × V)} {k : κ} (v : V) (h : valV kvs k = none) : putK kvs k v = kvs ++ [(k, v)] := by
 unfold putK
 rw [valV_any, h]
 exact if_neg (by decide)
theorem RelO.isSome_eq {o : Option V} {u : Option Value} (r : RelO o u) : o.isSome = u.isSome := by
 cases o with
 | none => cases u with
  | none => rfl
  | some _ => exact (show False from r).elim
 | some _ => cases u with
  | none => exact (show False from r).elim
  | some _ => rfl
theorem KV.val {kvs : List (κ × V)} {vs : List (κ × Value)} (r : KV kvs vs) (k : κ) : RelO (valV kvs k) (valueAt vs k) := by
 unfold KV at r
 induction r with
 | nil => exact True.intro
 | @cons p q ps qs h t ih =>
  obtain ⟨h1, h2⟩ := h
  by_cases e : p.1 = k
  ·have e' : q.1 = k := h1.symm.trans e
   have b : valueAt (q :: qs) k = some q.2 := by simp [valueAt, List.find?_cons, e']
   rw [valV_pos e, b]; exact h2
  ·have e' : ¬ q.1 = k := fun z => e (h1.trans z)
   have b : valueAt (q :: qs) k = valueAt qs k := by simp [valueAt, List.find?_cons, e']
   rw [valV_neg e, b]; exact ih
theorem KV.any {kvs : List (κ × V)} {vs : List (κ × Value)} (r : KV kvs vs) (k : κ) : (kvs.any fun kv => decide (kv.1 = k)) = vs.any fun kv => decide (kv.1 = k) := by
 unfold KV at r
 induction r with
 | nil => rfl
 | cons h t ih => rw [List.any_cons, List.any_cons, ih, h.1]
theorem KV.repl {kvs : List (κ × V)} {vs : List (κ × Value)} (r : KV kvs vs) (k : κ) {y : V} {u : Value} (ry : RelV y u) :
  KV (kvs.map fun kv => if kv.1 = k then (kv.1, y) else kv) (vs.map fun kv => if kv.1 = k then (kv.1, u) else kv) := by
 unfold KV at r ⊢
 induction r with
 | nil => exact .nil
 | @cons p q ps qs h t ih =>
  rw [List.map_cons, List.map_cons]
  refine .cons ?_ ih
  obtain ⟨h1, h2⟩ := h
  by_cases e : p.1 = k
  ·rw [if_pos e, if_pos (h1.symm.trans e)]; exact ⟨h1, ry⟩
  ·rw [if_neg e, if_neg (fun z => e (h1.trans z))]; exact ⟨h1, h2⟩
theorem KV.put {kvs : List (κ × V)} {vs : List (κ × Value)} (r : KV kvs vs) (k : κ) {y : V} {u : Value} (ry : RelV y u) : KV (putK kvs k y) (stored vs k u) := by
 unfold putK stored
 rw [r.any k]
 by_cases e : (vs.any fun kv => decide (kv.1 = k)) = true
 ·rw [if_pos e, if_pos e]; exact r.repl k ry
 ·rw [if_neg e, if_neg e]; exact Paired.snoc r ⟨rfl, ry⟩
theorem KV.length {kvs : List (κ × V)} {vs : List (κ × Value)} (r : KV kvs vs) : kvs.length = vs.length := Paired.length r
end
theorem kV_is {P : Program} {w : World} {k : Key} {u : Value} (r : RelV (kV k) u) : (mixKind P w).is k u = true := by
 cases k with
 | inl i => obtain ⟨t, e⟩ := (show ∃ t, u = Value.int i t from r); subst e; exact mixKind_int P w i t
 | inr x => obtain ⟨t, e⟩ := (show ∃ t, u = Value.str x t from r); subst e; exact mixKind_str P w x t
theorem items_are {P : Program} {w : World} : ∀ {ks : List Key} {us : List Value}, Vals (ks.map kV) us → ItemsAre (mixKind P w) ks us
 | [], _, r => by rw [List.map_nil] at r; cases r; exact .nil
 | k :: ks, _, r => by
  rw [List.map_cons] at r
  cases r with
  | cons h t => exact .cons (kV_is h) (items_are t)
abbrev KT (H : Hp) : List (List Key × V) → List (List Key × Addr × Value) → Prop := Paired fun p q => p.1 = q.1 ∧ H q.2.1 = some (.tup (p.1.map kV)) ∧ RelV p.2 q.2.2
theorem KT.val {H : Hp} {kvs : List (List Key × V)} {xs : List (List Key × Addr × Value)} (r : KT H kvs xs) (k : List Key) : RelO (valV kvs k) ((atKey xs k).map (·.2)) := by
 induction r with
 | nil => exact True.intro
 | @cons p q ps qs h t ih =>
  obtain ⟨h1, _, h2⟩ := h
  by_cases e : p.1 = k
  ·have e' : q.1 = k := h1.symm.trans e
   have b : atKey (q :: qs) k = some q.2 := by simp [atKey, List.find?_cons, e']
   rw [valV_pos e, b]; exact h2
  ·have e' : ¬ q.1 = k := fun z => e (h1.trans z)
   have b : atKey (q :: qs) k = atKey qs k := by simp [atKey, List.find?_cons, e']
   rw [valV_neg e, b]; exact ih
theorem KT.repl {H : Hp} {kvs : List (List Key × V)} {xs : List (List Key × Addr × Value)} (r : KT H kvs xs) (k : List Key) {y : V} {u : Value} (ry : RelV y u) :
  KT H (kvs.map fun kv => if kv.1 = k then (kv.1, y) else kv) (xs.map (putAt k u)) := by
 induction r with
 | nil => exact .nil
 | @cons p q ps qs h t ih =>
  rw [List.map_cons, List.map_cons]
  refine .cons ?_ ih
  obtain ⟨h1, h2, h3⟩ := h
  unfold putAt
  by_cases e : p.1 = k
  ·rw [if_pos e, if_pos (h1.symm.trans e)]; exact ⟨h1, h2, ry⟩
  ·rw [if_neg e, if_neg (fun z => e (h1.trans z))]; exact ⟨h1, h2, h3⟩
theorem KT.put {H : Hp} {kvs : List (List Key × V)} {xs : List (List Key × Addr × Value)} (r : KT H kvs xs) (k : List Key) {b : Addr} {y : V} {u : Value} (hb : H b = some (.tup (k.map kV))) (ry : RelV y u) :
  KT H (putK kvs k y) (storedH xs k b u) := by
 have e : (kvs.any fun kv => decide (kv.1 = k)) = (atKey xs k).isSome := by
  rw [valV_any, (r.val k).isSome_eq, Option.isSome_map]
 unfold putK storedH
 rw [e]
 by_cases q : (atKey xs k).isSome = true
 ·rw [if_pos q, if_pos q]; exact r.repl k ry
 ·rw [if_neg q, if_neg q]; exact Paired.snoc r ⟨rfl, hb, ry⟩
theorem KT.keeps {H H' : Hp} {kvs : List (List Key × V)} {xs : List (List Key × Addr × Value)} (r : KT H kvs xs) (ht : ∀ b ys, H b = some (.tup ys) → H' b = some (.tup ys)) : KT H' kvs xs :=
 Paired.mapP r fun _ _ z => ⟨z.1, ht _ _ z.2.1, z.2.2⟩
section
variable {P : Program} {w : World} {H : Hp} {h : Heap} {a : Addr}
theorem rd_of {u : HO} (ok : HOk P w H h) (e : Rd H a u) : ObjOk P w H h a u := e.ok ok
theorem dk_rd {kvs : List (Key × V)} (ok : HOk P w H h) (e : Rd H a (.dK kvs)) : kvs.length ≤ sizeLine ∧ (a == sysModules) = false ∧ ∃ vs, KV kvs vs ∧ h.DictOf (mixKind P w) a vs :=
 show ObjOk P w H h a (.dK kvs) from rd_of ok e
theorem dk_of {kvs : List (Key × V)} (ok : HOk P w H h) (e : H a = some (.dK kvs)) : kvs.length ≤ sizeLine ∧ (a == sysModules) = false ∧ ∃ vs, KV kvs vs ∧ h.DictOf (mixKind P w) a vs := dk_rd ok (.inl e)
theorem key_of {ks : List Key} (ok : HOk P w H h) (e : H a = some (.tup (ks.map kV))) : (tupleKind (mixKind P w)).is h ks a := by
 obtain ⟨_, its, r, o, h1, h2, n, h3⟩ := (show ObjOk P w H h a (.tup (ks.map kV)) from ok a _ e)
 exact ⟨o, its.toArray, n, h1, h2, h3, by simpa using items_are r⟩
theorem dt_rd {kvs : List (List Key × V)} (ok : HOk P w H h) (e : Rd H a (.dT kvs)) : kvs.length ≤ sizeLine ∧ (a == sysModules) = false ∧
  ∃ xs, KT H kvs xs ∧ h.DictOfH (tupleKind (mixKind P w)) a xs := by
 obtain ⟨z, y, xs, r, o, es, ep, h1, h2, h3, h4, h5⟩ := (show ObjOk P w H h a (.dT kvs) from rd_of ok e)
 refine ⟨z, y, xs, r, o, es, ep, h1, h2, h3, h4, fun x hx => ?_, h5⟩
 have all : ∀ {l : List (List Key × V)} {m : List (List Key × Addr × Value)}, KT H l m → ∀ x ∈ m, (tupleKind (mixKind P w)).is h x.1 x.2.1 := by
  intro l m q
  induction q with
  | nil => intro x hx; exact nomatch hx
  | @cons p q ps qs hq t ih =>
   intro x hx
   rcases List.mem_cons.mp hx with e | hx
   ·subst e
    exact key_of ok (by rw [← hq.1]; exact hq.2.1)
   ·exact ih x hx
 exact all r x hx
theorem dt_of {kvs : List (List Key × V)} (ok : HOk P w H h) (e : H a = some (.dT kvs)) : kvs.length ≤ sizeLine ∧ (a == sysModules) = false ∧
  ∃ xs, KT H kvs xs ∧ h.DictOfH (tupleKind (mixKind P w)) a xs := dt_rd ok (.inl e)
end
def DGet (H : Hp) (a : Addr) (y : V) (r : Option V) : Prop :=
 (∃ kvs k, Rd H a (.dK kvs) ∧ y = kV k ∧ r = valV kvs k) ∨ ∃ kvs k b, Rd H a (.dT kvs) ∧ y = .ref b ∧ H b = some (.tup (k.map kV)) ∧ r = valV kvs k
def DPut (H : Hp) (a : Addr) (y v : V) (H' : Hp) : Prop :=
 (∃ kvs k, H a = some (.dK kvs) ∧ y = kV k ∧ kvs.length < sizeLine ∧ H' = upd H a (.dK (putK kvs k v))) ∨
 ∃ kvs k b, H a = some (.dT kvs) ∧ y = .ref b ∧ H b = some (.tup (k.map kV)) ∧ kvs.length < sizeLine ∧ H' = upd H a (.dT (putK kvs k v))
theorem DGet.t {H : Hp} {a b : Addr} {kvs : List (List Key × V)} {k : List Key} (e : H a = some (.dT kvs)) (eb : H b = some (.tup (k.map kV))) : DGet H a (.ref b) (valV kvs k) := .inr ⟨kvs, k, b, .inl e, rfl, eb, rfl⟩
theorem DPut.t {H : Hp} {a b : Addr} {kvs : List (List Key × V)} {k : List Key} {v : V} (e : H a = some (.dT kvs)) (eb : H b = some (.tup (k.map kV))) (hl : kvs.length < sizeLine) :
  DPut H a (.ref b) v (upd H a (.dT (putK kvs k v))) := .inr ⟨kvs, k, b, e, rfl, eb, hl, rfl⟩
section
variable {X : Cx} {pins : List (Addr × Obj)} {σ : St} {H : Hp} {s : Shared} {a : Addr} {y v : V} {u r : Value} {o : Option V} {A : Around} {E : Value → Shared → Prop}
theorem Inv.big (I : Inv X pins σ H s) : sysModules < s.heap.objs.size := by
 have h : mainGlobals < s.heap.objs.size := (I.mod.glob.keeps I.bk).lt
 exact Nat.lt_trans (by decide) h
theorem d_getItem {Q : Value → Shared → Prop} (hu : A.units + 1 < cLine) (I : Inv X pins σ H s) (g : DGet H a y (some v)) (ry : RelV y u) (h : ∀ w' s', Inv X pins σ H s' → RelV v w' → Q w' s') :
  wpAny (model X.prog X.w) A (getItem (.ref a) u) Q E s := by
 rcases g with ⟨kvs, k, e, ey, l⟩ | ⟨kvs, k, b, e, ey, eb, l⟩
 ·subst ey
  obtain ⟨z, hd, vs, rel, dd⟩ := dk_rd I.hok e
  obtain ⟨w', hw, rw'⟩ := RelO.some_of (v := v) (o := valueAt vs k) (by rw [l]; exact rel.val k)
  exact wpAny_getItem_of (kV_is ry) dd.mapOf hw (h w' _ (I.tok _) rw')
 ·subst ey
  cases (show u = Value.ref b from ry)
  obtain ⟨z, hd, xs, rel, dd⟩ := dt_rd I.hok e
  obtain ⟨w', hw, rw'⟩ := RelO.some_of (v := v) (o := (atKey xs k).map (·.2)) (by rw [l]; exact rel.val k)
  obtain ⟨p, hp, hp2⟩ := Option.map_eq_some_iff.mp hw
  refine wpAny_getItem_heap (tupleKind_room_in1 hu) (key_of I.hok eb) dd hp ?_
  rw [hp2]
  exact h w' _ (I.tok _) rw'
theorem d_notIn {Q : Value → Shared → Prop} (hu : A.units + 1 < cLine) (I : Inv X pins σ H s) (g : DGet H a y o) (ry : RelV y u) (h : ∀ s', Inv X pins σ H s' → Q (.bool (!o.isSome)) s') :
  wpAny (model X.prog X.w) A (compareOp .NotIn u (.ref a)) Q E s := by
 rcases g with ⟨kvs, k, e, ey, l⟩ | ⟨kvs, k, b, e, ey, eb, l⟩
 ·subst ey
  obtain ⟨z, hd, vs, rel, dd⟩ := dk_rd I.hok e
  refine wpAny_notIn_of (kV_is ry) hd dd.mapOf ?_
  rw [← (rel.val k).isSome_eq, ← l]
  exact h _ (I.tok _)
 ·subst ey
  cases (show u = Value.ref b from ry)
  obtain ⟨z, hd, xs, rel, dd⟩ := dt_rd I.hok e
  refine wpAny_notIn_heap (tupleKind_room_in1 hu) (key_of I.hok eb) hd dd ?_
  have q := (rel.val k).isSome_eq
  rw [Option.isSome_map] at q
  rw [← q, ← l]
  exact h _ (I.tok _)
theorem d_write {h' : Heap} {t' : Nat} {ob : HO} (I : Inv X pins σ H s) (mu : Mut (H a)) (hs : Heap.SameBut a s.heap h') (he : ∃ q, h'.get? a = some q) (new : ObjOk X.prog X.w (upd H a ob) h' a ob) :
  Inv X pins σ (upd H a ob) { s with heap := h', toks := t' } :=
 I.write (x := a) (e := a) mu (.inl rfl) (fun b q hb z => (hs.2 b hb).trans z) he new
theorem dk_new {P : Program} {w : World} {H' : Hp} {h' : Heap} {kvs : List (Key × V)} {vs : List (Key × Value)} (z : kvs.length ≤ sizeLine) (hd : (a == sysModules) = false) (rel : KV kvs vs) (dd : h'.DictOf (mixKind P w) a vs) :
  ObjOk P w H' h' a (.dK kvs) := ⟨z, hd, vs, rel, dd⟩
theorem d_setItem {H' : Hp} {Q : Unit → Shared → Prop} (hu : A.units + 1 < cLine) (I : Inv X pins σ H s) (g : DPut H a y v H') (ry : RelV y u) (rv : RelV v r) (h : ∀ s', Inv X pins σ H' s' → Q () s') :
  wpAny (model X.prog X.w) A (setItem (.ref a) u r) Q E s := by
 rcases g with ⟨kvs, k, e, ey, l, eH⟩ | ⟨kvs, k, b, e, ey, eb, l, eH⟩
 ·subst ey eH
  obtain ⟨z, hd, vs, rel, dd⟩ := dk_of I.hok e
  have hz : vs.length ≤ sizeLine := by rw [← rel.length]; exact z
  have hl : (putK kvs k v).length ≤ sizeLine := by have := length_putK kvs k v; omega
  refine wpAny_setItem_pairs (hsz := hz) (kV_is ry) dd fun h' dd' hs => h _ ?_
  have he : ∃ q, h'.get? a = some q := let ⟨q, _, _, hq, _⟩ := dd'; ⟨q, hq⟩
  exact d_write I (by rw [e]; exact True.intro) hs he (dk_new hl hd (rel.put k rv) dd')
 ·subst ey eH
  cases (show u = Value.ref b from ry)
  obtain ⟨z, hd, xs, rel, dd⟩ := dt_of I.hok e
  have hz : xs.length ≤ sizeLine := by rw [← Paired.length rel]; exact z
  have hl : (putK kvs k v).length ≤ sizeLine := by have := length_putK kvs k v; omega
  refine wpAny_setItem_heap (hsz := hz) (tupleKind_room_in1 hu) (key_of I.hok eb) dd fun h' dd' hs => h _ ?_
  obtain ⟨q, es, ep, hq, h2, h3, h4, _, h5⟩ := dd'
  refine d_write I (by rw [e]; exact True.intro) hs ⟨q, hq⟩ ⟨hl, hd, _, (rel.put k eb rv).keeps fun c ys ec => ?_, q, es, ep, hq, h2, h3, h4, h5⟩
  rw [upd_ne (ne_of ec e (fun z => nomatch z))]
  exact ec
end
section
variable {X : Cx} {pins : List (Addr × Obj)} {σ : St} {H : Hp} {s : Shared} {a : Addr} {kvs : List (Key × V)} {k : Key} {u : Value} {A : Around} {E : Value → Shared → Prop}
end
def NoSl (i : Expr) : Prop := ∀ ov iv, subscripted i false ov iv = operate [ov, iv] (getItem ov iv)
theorem subD_of {prog : Program} {w : World} {A : Around} {E : Value → Shared → Prop} {s : Shared} {env : Env} {value slice : Expr} {pos : Pos} {T id : String} {Q : Value → Shared → Prop}
  (hl : typeLookup (.type T) "__getitem__" = pure (some (.builtin id))) (hs : NoSl slice)
  (h : wpAny (model prog w) A (eval value env) (fun o s₁ => wpAny (model prog w) A (eval slice env) (fun i s₂ => s₂.TypeIs o T ∧ wpAny (model prog w) A (getItem o i) Q E s₂) E s₁) E s) :
  wpAny (model prog w) A (eval (.Subscript value slice pos) env) Q E s := by
 refine Subscript_ (wpAny_mono h (fun o s₁ h₁ => wpAny_mono h₁ (fun i s₂ h₂ => ?_) fun _ _ x => x) fun _ _ x => x)
 obtain ⟨hT, h₂⟩ := h₂
 unfold subscriptTail
 refine wpAny_bind ?_
 rw [getitemInPython_of_ne hT.not_modules]
 refine wpAny_bind (wpAny_specialOf hT hl ?_)
 have fin : wpAny (model prog w) A (subscripted slice false o i) (fun r s₃ => wpAny (model prog w) A (letTemporaryGo value o r >>= fun _ => pure r) Q E s₃) E s₂ := by
  rw [hs o i]
  exact wpAny_operating (wpAny_mono h₂ (fun r s₃ h₃ => wpAny_bind (wpAny_letTemporaryGo (wpAny_pure h₃))) fun _ _ x => x)
 first
  | exact wpAny_pure (wpAny_bind fin)
  | exact wpAny_bind (wpAny_pure (wpAny_bind fin))
  | exact wpAny_bind fin
theorem dict_typeIs {X : Cx} {pins : List (Addr × Obj)} {σ : St} {H : Hp} {s : Shared} {a : Addr} {y : V} {o : Option V} (I : Inv X pins σ H s) (g : DGet H a y o) : s.TypeIs (.ref a) "dict" := by
 rcases g with ⟨kvs, k, e, _, _⟩ | ⟨kvs, k, b, e, _, _, _⟩
 ·obtain ⟨_, _, vs, _, dd⟩ := dk_rd I.hok e
  exact dd.typeIs
 ·obtain ⟨_, _, xs, _, dd⟩ := dt_rd I.hok e
  exact dd.typeIs
def tDGet (td ty : TE) : TE := fun σ H Q => td σ H fun x H1 => ty σ H1 fun y H2 => ∃ a v, x = .ref a ∧ DGet H2 a y (some v) ∧ Q v H2
def tDNotIn (ty td : TE) : TE := fun σ H Q => ty σ H fun y H1 => td σ H1 fun x H2 => ∃ a o, x = .ref a ∧ DGet H2 a y o ∧ Q (.bl (!o.isSome)) H2
def sDPut (td ty tv : TE) : TS := fun D σ H => tv σ H fun v H1 => td σ H1 fun x H2 => ty σ H2 fun y H3 => ∃ a H4, x = .ref a ∧ DPut H3 a y v H4 ∧ D.nx σ H4
section
variable {X : Cx} {o i e value : Expr} {pos pos' tpos : Pos} {td ty tv : TE}
theorem pe_dget (hu : X.A.units + 1 < cLine) (ho : PE X o td) (hi : PE X i ty) (hs : NoSl i) : PE X (.Subscript o i pos) (tDGet td ty) := by
 intro pins s σ H Q I h
 refine subD_of PySem.F.slot_dict_getitem.lookup hs (thn (ho pins s σ H _ I h) fun u s1 ⟨x, H1, I1, rx, q1⟩ => thn (hi pins s1 σ H1 _ I1 q1) fun iv s2 ⟨y, H2, I2, ry, a, v, ex, g, q2⟩ => ?_)
 subst ex
 obtain rfl : u = Value.ref a := rx
 exact ⟨dict_typeIs I2 g, d_getItem hu I2 g ry fun w' s3 I3 rw' => ⟨v, H2, I3, rw', q2⟩⟩
theorem pc_dnotin (hu : X.A.units + 1 < cLine) (hi : PE X i ty) (ho : PE X o td) : PC X .NotIn i o (tDNotIn ty td) := by
 intro pins s σ H Q I h
 refine thn (hi pins s σ H _ I h) fun iv s1 ⟨y, H1, I1, ry, q1⟩ => thn (ho pins s1 σ H1 _ I1 q1) fun u s2 ⟨x, H2, I2, rx, a, ov, ex, g, q2⟩ => ?_
 subst ex
 obtain rfl : u = Value.ref a := rx
 exact d_notIn hu I2 g ry fun s3 I3 => ⟨.bl (!ov.isSome), H2, I3, rfl, q2⟩
theorem ps_dput (hu : X.A.units + 1 < cLine) (ho : PE X o td) (hi : PE X i ty) (hv : PE X value tv) (hs : swapsWith value (some (.Subscript o i pos')) pos.line X.env = pure false) :
  PS X (.Assign [.Subscript o i pos'] value pos) (sDPut td ty tv) := by
 intro pins s σ H D I h
 refine wpAny_Assign_Subscript (thn (hv pins s σ H _ I h) fun r s1 ⟨v, H1, I1, rv, q1⟩ => thn (ho pins s1 σ H1 _ I1 q1) fun u s2 ⟨x, H2, I2, rx, q2⟩ => thn (hi pins s2 σ H2 _ I2 q2) fun iv s3 ⟨y, H3, I3, ry, a, H4, ex, g, q3⟩ => ?_) hs
 subst ex
 obtain rfl : u = Value.ref a := rx
 exact d_setItem hu I3 g ry rv fun s4 I4 => ⟨σ, H4, I4, q3⟩
end
theorem dk_empty {P : Program} {w : World} {H : Hp} (h : Heap) (hb : sysModules < h.objs.size) : ObjOk P w H (h.push { cls := .type "dict", data := .dict #[] }) h.objs.size (.dK []) :=
 ⟨Nat.zero_le _, beq_eq_false_iff_ne.mpr (Ne.symm (Nat.ne_of_lt hb)), [], .nil, Heap.DictOf.new h⟩
theorem dt_empty {P : Program} {w : World} {H : Hp} (h : Heap) (hb : sysModules < h.objs.size) : ObjOk P w H (h.push { cls := .type "dict", data := .dict #[] }) h.objs.size (.dT []) :=
 ⟨Nat.zero_le _, beq_eq_false_iff_ne.mpr (Ne.symm (Nat.ne_of_lt hb)), [], .nil, _, #[], 0, Heap.get?_push_size _ rfl, ⟨rfl, rfl, rfl⟩, rfl, rfl, List.nodup_nil⟩
def tDNewK : TE := fun _ H Q => ∀ p, H p = none → Q (.ref p) (upd H p (.dK []))
def tDNewT : TE := fun _ H Q => ∀ p, H p = none → Q (.ref p) (upd H p (.dT []))
section
variable {X : Cx} {pos : Pos}
theorem pe_dnewK : PE X (.Dict [] [] pos) tDNewK := fun pins s σ H Q I h =>
 wpAny_Dict_empty ⟨.ref s.heap.objs.size, _, I.laid (a := s.heap.objs.size) (o := .dK []) (t' := s.toks) (fun _ _ q => Heap.get?_push_of_some _ q) (Nat.le_refl _) (dk_empty s.heap I.big), rfl, h _ (I.hok.fresh (Nat.le_refl _))⟩
theorem pe_dnewT : PE X (.Dict [] [] pos) tDNewT := fun pins s σ H Q I h =>
 wpAny_Dict_empty ⟨.ref s.heap.objs.size, _, I.laid (a := s.heap.objs.size) (o := .dT []) (t' := s.toks) (fun _ _ q => Heap.get?_push_of_some _ q) (Nat.le_refl _) (dt_empty s.heap I.big), rfl, h _ (I.hok.fresh (Nat.le_refl _))⟩
end
structure M1 (X : Cx) (o : Expr) (m : Str) (apos : Pos) (e : Expr) (cpos : Pos) : Prop where
 base : attributeBase o m X.env (eval o X.env) = eval o X.env
 few : ((backTo cpos (starEach [e] X.env)).all (fun x => !x.1) && (backToKw cpos (keywordEach [] X.env)).all (fun x => x.1.isSome)
  && decide (([e] : List Expr).length + ([] : List Keyword).length + (if ([] : List Keyword).isEmpty then 0 else 1) < 30)) = true
 line : (apos.endLine == cpos.line) = true
 trees : backTo cpos (starEach [e] X.env) = [(false, eval e X.env)]
structure M2 (X : Cx) (o : Expr) (m : Str) (apos : Pos) (e f : Expr) (cpos : Pos) : Prop where
 base : attributeBase o m X.env (eval o X.env) = eval o X.env
 few : ((backTo cpos (starEach [e, f] X.env)).all (fun x => !x.1) && (backToKw cpos (keywordEach [] X.env)).all (fun x => x.1.isSome)
  && decide (([e, f] : List Expr).length + ([] : List Keyword).length + (if ([] : List Keyword).isEmpty then 0 else 1) < 30)) = true
 line : (apos.endLine == cpos.line) = true
 trees : backTo cpos (starEach [e, f] X.env) = [(false, eval e X.env), (false, eval f X.env)]
section
variable {X : Cx} {pins : List (Addr × Obj)} {σ : St} {H : Hp} {s : Shared} {a : Addr} {y d : V} {u r : Value} {o : Option V} {A : Around} {E : Value → Shared → Prop}
end
section
variable {X : Cx} {o e f : Expr} {apos cpos : Pos} {td ty tx : TE}
end
section
variable {X : Cx} {pins : List (Addr × Obj)} {σ : St} {H : Hp} {s : Shared} {a : Addr} {kvs : List (Key × V)} {A : Around} {E : Value → Shared → Prop}
end
section
variable {X : Cx} {pins : List (Addr × Obj)} {σ : St} {H : Hp} {s : Shared} {a : Addr} {y : V} {u : Value} {A : Around} {E : Value → Shared → Prop}
end
end L2
namespace Att
open PySem PySem.W PySem.Calls PyProof.Rows
theorem ints_of_wellAll {P : Params} {h : Heap} : ∀ (ns : List Int) (vs : List Value), WellAll P h vs (ns.map WData.int) → IntsAre vs ns := by
 intro ns
 induction ns with
 | nil =>
  intro vs w
  rw [List.map_nil] at w
  cases w
  exact .nil
 | cons n ns ih =>
  intro vs w
  rw [List.map_cons] at w
  cases w with
  | cons a b =>
   cases a
   exact .cons _ _ (ih _ b)
theorem script_of {l : OpenLaw} {n : Nat} (hn : l.most = some n) {P : Params} {h : Heap} {args : List WData} {vals : List Value}
  (hpre : l.row.toRowW.claim.pre args = true) (hwl : WellAll P h vals args) :
  ∃ a vs ns, vals = [Value.ref a] ∧ args = [WData.list (ns.map WData.int)] ∧ h.get? a = some { cls := .type "list", data := .seq vs.toArray } ∧ IntsAre vs ns ∧ ns.length ≤ n := by
 have hsh : WShape.hasAll [] args [.list .int] = true := (pre_splitW hpre).1
 have hc : l.pre.holds [] { args := args } = true := (pre_splitW hpre).2
 obtain ⟨d, r, rfl, h1, h2⟩ := hasAllW_cons hsh
 obtain rfl := hasAllW_nil h2
 obtain ⟨xs, rfl, h3⟩ := hasW_list h1
 obtain ⟨ns, rfl⟩ := items_int h3
 have hlen : ns.length ≤ n := by
  unfold OpenLaw.pre at hc
  have h4 : (WTm.not (.lt (.lit (.int (n : Int))) (.len (.arg 0)))).holds [] { args := [.list (ns.map .int)] } = true := by
   have h4 := (holds_andW hc).1
   rw [hn] at h4
   exact h4
  have h5 := condW_of h4 (w_not (w_lt w_lit (w_len_list (w_arg rfl))))
  rw [List.length_map] at h5
  refine Nat.le_of_not_lt fun q => ?_
  have q' : (n : Int) < ((ns.length : Nat) : Int) := by omega
  first
   | (rw [decide_eq_true q'] at h5; exact absurd h5 (by decide))
   | (simp at h5; omega)
 cases hwl with
 | cons w1 w2 =>
  cases w2
  cases w1 with
  | list ho hall => exact ⟨_, _, ns, rfl, rfl, ho, ints_of_wellAll ns _ hall, hlen⟩
theorem post_true (l : OpenLaw) (args : List WData) : l.row.toRowW.claim.post args (.bool true) args = true :=
 postW_of (r := l.row.toRowW) (X := (true == true))
  (show WShape.has [] (.bool true) .bool = true by first | rfl | decide | simp [WShape.has, WShape.arms, WShape.armsAll])
  (show (WTm.eq .res (.lit (.bool true))).value [] { args := args, res := some (.bool true), after := args } = some (.bool (true == true)) from w_eq_bool (w_res rfl) w_lit) rfl
theorem attach_call {l : OpenLaw} {n : Nat} {q : Program} {loose : List Str} {XP : (Str → Option Value) → Heap → Prop} {YP : World → Heap → Prop} {d : DefRec}
  (hn : l.most = some n) (hdf : d.params.defaults = [])
  (call : ∀ (w : World) (s₀ s₁ : Shared) (mg mb : Str → Option Value) (fa : Addr) (o : Obj) (pm cd doc : Value) (a : Addr) (vs : List Value) (ns : List Int),
   Ground q loose [] XP w s₀ mg mb s₁.heap → YP w s₁.heap →
   s₁.heap.get? fa = some o → o.data = .func (docDef d.name d.params d.body d.scope pm cd doc) → s₁.heap.CodeRec cd d.name → mg d.name = some (.ref fa) →
   s₁.heap.get? a = some { cls := .type "list", data := .seq vs.toArray } → IntsAre vs ns → ns.length ≤ n → s₁.gens = #[] →
   codeAny (model l.prog w) callerA (.call (.ref fa) ⟨[.ref a], []⟩) (fun r s' => r = .ok (.ret (.bool true)) ∧ OldK s₁.heap s'.heap ∧ s'.os = s₁.os ∧ AllBare s'.gens) s₁) :
  WalkO q loose XP YP l.row.toRowW d [] (fun f vs => PySem.call f vs) := by
 intro w s₀ s₁ mg mb G Y fa o pm cd doc dV kV ho hd hcd hD hmg hg args vals as hpre hlay hrd hwl hlo
 obtain rfl : dV = .none := Dflts.none hD hdf
 obtain rfl : kV = .none := Dflts.noKw hD
 obtain ⟨a, vs, ns, rfl, rfl, hobj, hints, hlen⟩ := script_of hn hpre hwl
 refine enter_call (codeAny_mono (call w s₀ s₁ mg mb fa o pm cd doc a vs ns G Y ho (fd_plain hd) hcd hmg hobj hints hlen hg) fun r s' hq => ?_)
 obtain ⟨rfl, h2, h3, h4⟩ := hq
 exact ⟨.inl ⟨.bool true, .bool true, [], rfl, fun _ => rfl, .bool true, post_true l _, fun _ => ⟨List.Pairwise.nil, fun _ hm => (nomatch hm)⟩⟩, h2, h3, h4⟩
section
variable {prog : Program} {w : World} {A : Around} {E : Value → Shared → Prop} {s : Shared} {K : Frag}
end
end Att
namespace L2
open PySem PySem.Spec PyProof.Rows
theorem vals_ints : ∀ {vs : List Value} {ns : List Int}, IntsAre vs ns → Vals (ns.map V.int) vs
 | _, _, .nil => .nil
 | _, _, .cons n t h => .cons ⟨t, rfl⟩ (vals_ints h)
def Only (H : Hp) : Prop := ∀ b, H b = none ∨ ∃ o xs, H b = some (.frz o (.lst xs))
theorem law_call {P : Program} {w : World} {K : PySem.W.Frag} {mg mb : Str → Option Value} {CX : CXT} {k : Nat} {fa a : Addr} {fd : FuncData} {x : Str} {sp : Sp} {s₁ : Shared} {vs : List Value} {ns : List Int}
  (KX : K.In s₁.heap) (hns : s₁.heap.Ns mainGlobals mg) (hb : s₁.heap.Ns builtinsNs mb) (hbb : ∀ x : Str, x ≠ "__name__" → mb x = bootBuiltins x) (hlim : s₁.heap.NoLimit) (hg : s₁.gens = #[])
  (ha : s₁.heap.get? a = some { cls := .type "list", data := .seq vs.toArray }) (hi : IntsAre vs ns) (hl : ns.length ≤ sizeLine) (hr : Room k callerA)
  (F : ∀ base : Heap, K.In base → base.Ns mainGlobals mg → FnOk P w K mg base CX k fa fd [x] sp) (hbind : ∀ (s : Shared) (u : Value), BindsTo s fd ⟨[u], []⟩ [(x, u)])
  (hsp : ∀ H : Hp, Only H → SqL K H a (ns.map V.int) → sp [.ref a] H (fun v _ => v = .bl true) fun _ _ _ => False)
  (hCX : ∀ H e s', CX [] H s₁ (fun _ _ _ => False) e s' → False) :
  codeAny (model P w) callerA (.call (.ref fa) ⟨[.ref a], []⟩) (fun r s' => r = .ok (.ret (.bool true)) ∧ OldK s₁.heap s'.heap ∧ s'.os = s₁.os ∧ AllBare s'.gens) s₁ := by
 have rv := vals_ints hi
 have lenV := hi.length
 have core : ∀ H : Hp, Only H → SqL K H a (ns.map V.int) → HOk P w H s₁.heap → (∀ b, H b ≠ none → b = a) → (H a ≠ none → K.lookup a = none) →
   codeAny (model P w) callerA (.call (.ref fa) ⟨[.ref a], []⟩) (fun r s' => r = .ok (.ret (.bool true)) ∧ OldK s₁.heap s'.heap ∧ s'.os = s₁.os ∧ AllBare s'.gens) s₁ := by
  intro H hO hS hok hA hK
  have base_of : ∀ {b : Addr} {o : Obj}, s₁.heap.get? b = some o → H b = none → (hidT s₁.heap H).get? b = some o := fun e n => hidT_get e n
  have noA : ∀ {b : Addr} {o : Obj} {es : Array DictEntry} {ep : Nat}, s₁.heap.get? b = some o → o.data = .dict es ep → H b = none := fun {b o es ep} e d => by
   cases q : H b with
   | none => rfl
   | some u =>
    have e' : b = a := hA b (by rw [q]; simp)
    subst e'
    rw [ha] at e; cases e
    have d' : Data.seq vs.toArray _ = Data.dict es ep := d
    cases d'
  have nsK : ∀ {b : Addr} {m : Str → Option Value}, s₁.heap.Ns b m → (hidT s₁.heap H).Ns b m := fun {b m} ⟨o, es, ep, e, d, r⟩ => ⟨o, es, ep, base_of e (noA e d), d, r⟩
  have hKb : K.In (hidT s₁.heap H) := fun b o e => base_of (KX b o e) (by
   cases q : H b with
   | none => rfl
   | some u =>
    have e' : b = a := hA b (by rw [q]; simp)
    subst e'
    rw [hK (by rw [q]; simp)] at e; cases e)
  have hM : Mod K mg (hidT s₁.heap H) := ⟨hKb, nsK hns, ⟨mb, nsK hb, hbb⟩, let ⟨mc, h1, h2⟩ := hlim; ⟨mc, nsK h1, h2⟩⟩
  have e0 : Env0 P w K mg (hidT s₁.heap H) callerA [] s₁ H := ⟨rfl, hM, fun b o e => of_hidT e, Nat.le_of_eq (hidT_size _ _), trivial, fun b hb => absurd (show b ∈ ([] : List Addr) from hb) (by simp), hok, .of_eq hg⟩
  refine codeAny_mono ((F _ hKb (nsK hns)).run callerA [] s₁ H ⟨[.ref a], []⟩ [.ref a] [.ref a] _ _ hr e0 (hbind s₁ (.ref a)) (.cons rfl .nil) (hsp H hO hS)) fun r s' h => ?_
  cases r with
  | error e => exact (hCX H e s' h).elim
  | ok fl =>
   cases fl with
   | next => exact False.elim h
   | brk => exact False.elim h
   | cont => exact False.elim h
   | ret u =>
    obtain ⟨v, H', os, bare, un, hok', r', q⟩ := h
    have q' : v = .bl true := q
    subst q'
    obtain rfl : u = Value.bool true := r'
    refine ⟨rfl, OldK.of_keep fun b o e => ?_, os, bare⟩
    cases q : H b with
    | none => exact un.keep b o e q (by intro z; exact absurd (show b ∈ ([] : List Addr) from z) (by simp)) (by simp)
    | some u =>
     rcases hO b with z | ⟨ob, xs, z⟩
     ·rw [q] at z; cases z
     ·have z2 := un.frzs b ob _ z
      obtain ⟨e1, _⟩ := hok b _ z
      obtain ⟨e2, _⟩ := hok' b _ z2
      rw [e] at e1; cases e1
      exact e2
 cases hk : K.lookup a with
 | some o =>
  have e := KX a o hk
  rw [ha] at e
  cases e
  refine core (fun _ => none) (fun _ => .inl rfl) (.inr ⟨_, vs.toArray, _, hk, rfl, rfl, rfl, by rw [List.size_toArray, lenV]; exact hl, by simpa using rv⟩) (fun b u z => by have z' : (none : Option HO) = some u := z; cases z') (fun b z => absurd rfl z) fun z => absurd rfl z
 | none =>
  refine core (fun b => if b = a then some (.frz { cls := .type "list", data := .seq vs.toArray } (.lst (ns.map V.int))) else none) (fun b => ?_) (.inl (.inr ⟨{ cls := .type "list", data := .seq vs.toArray }, if_pos rfl⟩)) (fun b u z => ?_) (fun b z => ?_) fun _ => hk
  ·by_cases hb : b = a
   ·exact .inr ⟨_, _, if_pos hb⟩
   ·exact .inl (if_neg hb)
  ·by_cases hb : b = a
   ·have z' := (if_pos hb).symm.trans z
    cases z'
    subst hb
    exact ⟨ha, by rw [List.length_map]; exact hl, vs, _, rv, ha⟩
   ·have z' := (if_neg hb).symm.trans z
    cases z'
  ·by_cases hb : b = a
   ·exact hb
   ·exact absurd (if_neg hb) z
end L2
namespace L2
open PySem PySem.Spec PyProof.Rows
theorem walk_of {l : PySem.W.OpenLaw} {n k : Nat} {q : Program} {loose : List Str} {XP : (Str → Option Value) → Heap → Prop} {YP : World → Heap → Prop} {d : DefRec} {K : Params → PySem.W.Frag} {CX : World → CXT} {sp : World → Sp} {x : Str}
  (hn : l.most = some n) (hn2 : n ≤ sizeLine) (hdf : d.params.defaults = []) (hr : Room k callerA)
  (hY : ∀ (w : World) (h : Heap), YP w h → (K w.params).In h)
  (F : ∀ (w : World) (mg : Str → Option Value) (fa : Addr) (h : Heap), (K w.params).In h → h.Ns mainGlobals mg → mg d.name = some (.ref fa) →
   ∃ fd : FuncData, (∀ (s : Shared) (u : Value), BindsTo s fd ⟨[u], []⟩ [(x, u)]) ∧
    ∀ base : Heap, (K w.params).In base → base.Ns mainGlobals mg → FnOk l.prog w (K w.params) mg base (CX w) k fa fd [x] (sp w))
  (hsp : ∀ (w : World) (H : Hp) (a : Addr) (ns : List Int), ns.length ≤ n → Only H → SqL (K w.params) H a (ns.map V.int) → sp w [.ref a] H (fun v _ => v = .bl true) fun _ _ _ => False)
  (hCX : ∀ (w : World) (H : Hp) (s : Shared) (e : Value) (s' : Shared), CX w [] H s (fun _ _ _ => False) e s' → False) :
  PySem.W.WalkO q loose XP YP l.row.toRowW d [] (fun f vs => PySem.call f vs) := by
 refine Att.attach_call hn hdf fun w s₀ s₁ mg mb fa o pm cd doc a vs ns G Y ho hd hcd hmg hobj hints hlen hg => ?_
 have KX := hY w _ Y
 obtain ⟨fd, hb, hF⟩ := F w mg fa _ KX G.T.g hmg
 exact law_call KX G.T.g G.T.b G.T.builtins G.T.nolimit hg hobj hints (Nat.le_trans hlen hn2) hr hF hb (fun H hO hS => hsp w H a ns hlen hO hS) fun H e s' => hCX w H s₁ e s'
end L2
namespace L2
open PySem PySem.Spec PyProof.Rows
def inClass (s : Stmt) (j : Nat) : Stmt := match s with
 | .ClassDef _ _ _ body _ _ _ _ _ _ _ => body.getD j (.Pass ⟨0, 0, 0, 0⟩)
 | _ => .Pass ⟨0, 0, 0, 0⟩
def defArgs (s : Stmt) : Arguments := match s with
 | .FunctionDef _ a _ _ _ _ _ _ _ _ => a
 | _ => { posonlyargs := [], args := [], vararg := none, kwonlyargs := [], kw_defaults := [], kwarg := none, defaults := [] }
def defBody (s : Stmt) : List Stmt := match s with
 | .FunctionDef _ _ b _ _ _ _ _ _ _ => b
 | _ => []
def defScope (s : Stmt) : Scope := match s with
 | .FunctionDef _ _ _ _ _ _ sc _ _ _ => sc
 | _ => { kind := .function, names := [], isGenerator := false, isCoroutine := false }
abbrev CX0 : CXT := fun _ _ _ _ _ _ => False
abbrev E0 : XK := fun _ _ _ => False
theorem pass0 {X : Cx} : Passes CX0 X E0 := fun _ _ _ _ _ _ _ h => h.elim
structure Fun (K : PySem.W.Frag) (x qual : Str) (st : Stmt) (f : Addr) (fd : FuncData) : Prop where
 ex : ∃ (oc : Value) (od : Option Addr) (kV doc pm : Value) (an : Option Addr) (cdv ct : Value) (osl : Array (Option Value)),
  fd = PySem.W.fnOf x qual (defArgs st) (defBody st) (defScope st) .none kV doc pm an cdv ct ∧ K.lookup f = some ⟨oc, od, .func fd, osl⟩ ∧ PySem.W.codeIn K cdv qual = true
 kp : PySem.W.keepIn K (.ref f) = true
section
variable {P : Program} {w : World} {K : PySem.W.Frag} {mg : Str → Option Value} {base : Heap}
theorem Fun.ok {x qual : Str} {st : Stmt} {f : Addr} {fd : FuncData} {N ps : List Str} {k : Nat} {sp : Sp} (F : Fun K x qual st f fd) (S : FnScope N ps (defScope st)) (len : ∀ vs H Q E, sp vs H Q E → vs.length = ps.length)
  (hbody : ∀ (cdv : Value) (A : Around) (outer : List Env) (s : Shared) (H : Hp) (vs : List V) (Q : VK) (E : XK), Room k (A.deeper (envOfC qual (defScope st) s.heap.objs.size f cdv)) → sp vs H Q E →
   ∃ t, PSs (cxOf CX0 P w K mg base N qual (defScope st) f cdv A outer s H E).nox (defBody st) t ∧ t { nx := fun _ H' => Q .non H', rt := Q } (start N vs) H) : FnOk P w K mg base CX0 (k + 1) f fd ps sp := by
 obtain ⟨oc, od, kV, doc, pm, an, cdv, ct, osl, rfl, lk, hcd⟩ := F.ex
 refine fn_of lk hcd S len fun A outer s H vs Q E hr hsp => ?_
 obtain ⟨t, h, q⟩ := hbody cdv A outer s H vs Q E hr hsp
 exact ⟨t, h.nox, q⟩
theorem Fun.binds {x qual : Str} {st : Stmt} {f : Addr} {fd : FuncData} {ps : List Str} (F : Fun K x qual st f fd)
  (h : ∀ (kV doc pm : Value) (an : Option Addr) (cdv ct : Value) (us : List Value), us.length = ps.length → bindArgs (PySem.W.fnOf x qual (defArgs st) (defBody st) (defScope st) .none kV doc pm an cdv ct) ⟨us, []⟩ = pure (ps.zip us)) : Binds K fd ps [] := by
 obtain ⟨oc, od, kV, doc, pm, an, cdv, ct, osl, rfl, lk, hcd⟩ := F.ex
 exact .all (h kV doc pm an cdv ct)
theorem fun_mk {x qual : Str} {st : Stmt} {f : Addr} {oc : Value} {od an : Option Addr} {osl : Array (Option Value)} {kV doc pm cdv ct : Value} (l : K.lookup f = some ⟨oc, od, .func (PySem.W.fnOf x qual (defArgs st) (defBody st) (defScope st) .none kV doc pm an cdv ct), osl⟩)
  (c : PySem.W.codeIn K cdv qual = true) (k : PySem.W.keepIn K (.ref f) = true) : Fun K x qual st f (PySem.W.fnOf x qual (defArgs st) (defBody st) (defScope st) .none kV doc pm an cdv ct) := ⟨⟨oc, od, kV, doc, pm, an, cdv, ct, osl, rfl, l, c⟩, k⟩
end
theorem hu_of {A : Around} {k : Nat} (hr : Room k A) : A.units + 1 < cLine := Nat.lt_of_le_of_lt (Nat.add_le_add_left (by decide : 1 ≤ 64) _) hr.units
theorem small1000 {n : Nat} (h : n ≤ 1000) : n < sizeLine := Nat.lt_of_le_of_lt h (by decide)
section
variable {X : Cx}
theorem pv (i : Nat) {x : Str} {pos : Pos} (hN : X.N[i]? = some x := by rfl) (hv : Vis X.env.scope x := by first | exact Or.inl rfl | exact Or.inr (Or.inl rfl) | exact Or.inr (Or.inr rfl)) (hd : (x == ("__debug__" : Str)) = false := by decide)
  (hcd : (x == ("__classdict__" : Str)) = false := by decide) : PE X (.Name x pos) (tVar i) := pe_var hN hv hd hcd
end
theorem iteF {A B : Prop} (h : B) : if false = true then A else B := by
 rw [if_neg Bool.false_ne_true]
 exact h
theorem iteT {A B : Prop} (h : A) : if true = true then A else B := by
 rw [if_pos rfl]
 exact h
theorem ite2 {c A B : Prop} [Decidable c] (h1 : c → A) (h2 : ¬ c → B) : if c then A else B := by
 by_cases h : c
 ·rw [if_pos h]
  exact h1 h
 ·rw [if_neg h]
  exact h2 h
def Same (H H' : Hp) : Prop := ∀ b o, H b = some o → H' b = some o
theorem Same.trans {H H1 H2 : Hp} (a : Same H H1) (b : Same H1 H2) : Same H H2 := fun c o h => b c o (a c o h)
theorem Same.seq {K : PySem.W.Frag} {H H' : Hp} {a : Addr} {xs : List V} (e : Same H H') (h : SqL K H a xs) : SqL K H' a xs := by
 rcases h with (h | ⟨o, h⟩) | h
 ·exact .inl (.inl (e _ _ h))
 ·exact .inl (.inr ⟨o, e _ _ h⟩)
 ·exact .inr h
section
variable {κ : Type} [DecidableEq κ]
end
end L2
set_option maxHeartbeats 4000000
namespace L2
open PySem PySem.Spec PyProof.Rows
def closL (cells : List (Str × Addr)) : List (Str × NameKind) → List (Str × Addr) → List (Str × Addr)
 | [], cs => cs
 | (n, k) :: r, cs => if (k == NameKind.free) = true then closL cells r ((n, (cells.lookup n).getD 0) :: cs) else closL cells r cs
theorem closL_mem {cells : List (Str × Addr)} : ∀ {names : List (Str × NameKind)} {cs : List (Str × Addr)}, (∀ x ∈ names, x.2 = .free → ∃ c, cells.lookup x.1 = some c) → (∀ p ∈ cs, cells.lookup p.1 = some p.2) →
  ∀ p ∈ closL cells names cs, cells.lookup p.1 = some p.2
 | [], _, _, h, p, hp => h p hp
 | (n, k) :: r, cs, hn, h, p, hp => by
  unfold closL at hp
  have hr : ∀ x ∈ r, x.2 = .free → ∃ c, cells.lookup x.1 = some c := fun x hx => hn x (List.mem_cons_of_mem _ hx)
  by_cases hk : (k == NameKind.free) = true
  ·rw [if_pos hk] at hp
   refine closL_mem hr (fun q hq => ?_) p hp
   rcases List.mem_cons.mp hq with e | hq
   ·obtain ⟨c, hc⟩ := hn (n, k) List.mem_cons_self (by simpa using hk)
    have hc' : cells.lookup n = some c := hc
    subst e
    show cells.lookup n = some ((cells.lookup n).getD 0)
    rw [hc']; rfl
   ·exact h q hq
  ·rw [if_neg hk] at hp
   exact closL_mem hr h p hp
theorem closL_keeps {cells : List (Str × Addr)} {p : Str × Addr} : ∀ {names : List (Str × NameKind)} {cs : List (Str × Addr)}, p ∈ cs → p ∈ closL cells names cs
 | [], _, h => h
 | (n, k) :: r, cs, h => by
  unfold closL
  split
  ·exact closL_keeps (List.mem_cons_of_mem _ h)
  ·exact closL_keeps h
theorem closL_has {cells : List (Str × Addr)} {x : Str} : ∀ {names : List (Str × NameKind)} {cs : List (Str × Addr)}, (x, NameKind.free) ∈ names → ∃ c, (x, c) ∈ closL cells names cs
 | [], _, h => nomatch h
 | (n, k) :: r, cs, h => by
  unfold closL
  rcases List.mem_cons.mp h with e | h
  ·cases e
   rw [if_pos (show (NameKind.free == NameKind.free) = true from rfl)]
   exact ⟨_, closL_keeps List.mem_cons_self⟩
  ·split
   ·exact closL_has h
   ·exact closL_has h
theorem lookup_of_mem {α β : Type} [BEq α] [LawfulBEq α] {x : α} {c : β} : ∀ {l : List (α × β)}, (x, c) ∈ l → ∃ d, l.lookup x = some d
 | [], h => nomatch h
 | (y, d) :: r, h => by
  rw [List.lookup_cons]
  cases e : x == y with
  | true => exact ⟨d, rfl⟩
  | false =>
   rcases List.mem_cons.mp h with z | h
   ·cases z; rw [beq_self_eq_true] at e; cases e
   ·exact lookup_of_mem h
theorem closureFor_closL {scope : Scope} {env : Env} (h : ∀ x ∈ scope.names, x.2 = .free → ∃ c, env.cells.lookup x.1 = some c) : closureFor scope env = pure (closL env.cells scope.names []) := by
 have key : ∀ (names : List (Str × NameKind)) (cs : List (Str × Addr)), (∀ x ∈ names, x.2 = .free → ∃ c, env.cells.lookup x.1 = some c) →
   (forIn names cs fun x r => if (x.2 == NameKind.free) = true then (do let c ← cellOf env x.1; pure (ForInStep.yield ((x.1, c) :: r))) else pure (ForInStep.yield r) : Sem (List (Str × Addr))) = pure (closL env.cells names cs) := by
  intro names
  induction names with
  | nil => intro cs _; rfl
  | cons x r ih =>
   intro cs hn
   obtain ⟨n, k⟩ := x
   rw [List.forIn_cons]
   unfold closL
   have hr : ∀ x ∈ r, x.2 = .free → ∃ c, env.cells.lookup x.1 = some c := fun x hx => hn x (List.mem_cons_of_mem _ hx)
   by_cases hk : (k == NameKind.free) = true
   ·obtain ⟨c, hc⟩ := hn (n, k) List.mem_cons_self (by simpa using hk)
    have hc' : env.cells.lookup n = some c := hc
    have e : cellOf env n = pure c := by unfold cellOf; rw [hc']
    dsimp only
    rw [if_pos hk, if_pos hk, e, pure_bind, pure_bind, hc']
    exact ih _ hr
   ·dsimp only
    rw [if_neg hk, if_neg hk, pure_bind]
    exact ih _ hr
 have e := key scope.names [] h
 simp only [closureFor, bind_pure]
 exact e
theorem lookup_relabel {env : Env} {x : Str} : ∀ (names : List (Str × NameKind)),
  (names.map fun (n, k) => if (k == NameKind.free && env.scope.kind == .function && env.kindOf n == some .cell) then (n, NameKind.cell) else (n, k)).lookup x =
   (names.lookup x).map fun k => if (k == NameKind.free && env.scope.kind == .function && env.kindOf x == some .cell) then NameKind.cell else k
 | [] => rfl
 | (n, k) :: r => by
  have ih := lookup_relabel (env := env) (x := x) r
  show List.lookup x ((if (k == NameKind.free && env.scope.kind == .function && env.kindOf n == some .cell) = true then (n, NameKind.cell) else (n, k)) :: _) = _
  cases hx : x == n with
  | true =>
   have e : x = n := eq_of_beq hx
   subst e
   by_cases hc : (k == NameKind.free && env.scope.kind == .function && env.kindOf x == some .cell) = true
   ·rw [if_pos hc]; simp only [List.lookup_cons, hx, Option.map_some, hc, if_true]
   ·rw [if_neg hc]; simp only [List.lookup_cons, hx, Option.map_some, hc]; rfl
  | false =>
   by_cases hc : (k == NameKind.free && env.scope.kind == .function && env.kindOf n == some .cell) = true
   ·rw [if_pos hc]; simp only [List.lookup_cons, hx]; exact ih
   ·rw [if_neg hc]; simp only [List.lookup_cons, hx]; exact ih
def hid (xs : List Str) (y : Str) : Str := if xs.contains y then y ++ ("#" : Str) else y
def blkN (xs N : List Str) : List Str := xs ++ N.map (hid xs)
structure BlkScope (X : Cx) (xs : List Str) (sc : Scope) : Prop where
 kind : sc.kind = .function
 nocell : ∀ y ∈ sc.names, y.2 ≠ .cell
 locs : ∀ y ∈ sc.names, y.2 = .local → sc.names.lookup y.1 = some .local
 own : ∀ y ∈ sc.names, y.2 = .local → y.1 ∈ xs ∨ y.1 = (".0" : Str)
 free : ∀ y ∈ sc.names, y.2 = .free → X.env.kindOf y.1 = some .cell ∨ X.env.kindOf y.1 = some .free
 nohid : ∀ y ∈ X.N, sc.names.lookup (y ++ ("#" : Str)) = none
 nodot : (".0" : Str) ∉ X.N
def blk (X : Cx) (pins : List (Addr × Obj)) (xs : List Str) (sc : Scope) (C : Addr) (fp : List Addr) (s3 : Shared) (H3 : Hp) : Cx where
 prog := X.prog
 w := X.w
 K := X.K
 mg := X.mg
 base := X.base
 A := X.A
 N := blkN xs X.N
 s₀ := s3
 H₀ := H3
 env := compEnvC sc (closL X.env.cells sc.names []) C X.env
 outer := X.stack
 stack := X.stack
 ex := fp
 fn := fun _ => false
 calm := true
 pn := X.pn ++ pins
 xe := fun _ _ => False
def blkσ (xs : List Str) (σ : St) : St := List.replicate xs.length none ++ σ
theorem mem_of_lookup' {α β : Type} [BEq α] [LawfulBEq α] {x : α} {c : β} : ∀ {l : List (α × β)}, l.lookup x = some c → (x, c) ∈ l
 | [], h => nomatch h
 | (y, d) :: r, h => by
  rw [List.lookup_cons] at h
  cases e : x == y with
  | true => rw [e] at h; cases h; rw [eq_of_beq e]; exact List.mem_cons_self
  | false => rw [e] at h; exact List.mem_cons_of_mem _ (mem_of_lookup' h)
section
variable {X : Cx} {pins : List (Addr × Obj)} {xs : List Str} {sc : Scope} {σ : St} {H : Hp} {s : Shared}
theorem BlkScope.cells (B : BlkScope X xs sc) (ok : X.Ok) : ∀ y ∈ sc.names, y.2 = .free → ∃ c, X.env.cells.lookup y.1 = some c := fun y hy e => ok.has y.1 (B.free y hy e)
theorem BlkScope.sub (B : BlkScope X xs sc) (ok : X.Ok) {y : Str} {c : Addr} (h : (closL X.env.cells sc.names []).lookup y = some c) : X.env.cells.lookup y = some c :=
 closL_mem (cells := X.env.cells) (names := sc.names) (cs := []) (B.cells ok) (fun p hp => nomatch hp) (y, c) (mem_of_lookup' h)
theorem BlkScope.kindF (B : BlkScope X xs sc) {y : Str} (h : Vis (relabel sc X.env) y) : sc.names.lookup y = some .local ∨ sc.names.lookup y = some .free := by
 have e : (relabel sc X.env).names.lookup y = (sc.names.lookup y).map _ := lookup_relabel (env := X.env) (x := y) sc.names
 cases q : sc.names.lookup y with
 | none =>
  rw [q] at e
  rcases h with h | h | h <;> rw [e] at h <;> cases h
 | some k =>
  cases k with
  | «local» => exact .inl rfl
  | free => exact .inr rfl
  | cell => exact absurd rfl (B.nocell _ (mem_of_lookup' q))
  | globalImplicit => rw [q] at e; rcases h with h | h | h <;> rw [e] at h <;> cases h
  | globalExplicit => rw [q] at e; rcases h with h | h | h <;> rw [e] at h <;> cases h
theorem BlkScope.kindC (B : BlkScope X xs sc) {y : Str} (h : sc.names.lookup y = some .free) : (relabel sc X.env).names.lookup y = some .cell ∨ (relabel sc X.env).names.lookup y = some .free := by
 have e : (relabel sc X.env).names.lookup y = (sc.names.lookup y).map _ := lookup_relabel (env := X.env) (x := y) sc.names
 rw [h] at e
 by_cases hc : ((NameKind.free == NameKind.free) && X.env.scope.kind == .function && X.env.kindOf y == some .cell) = true
 ·left; rw [e]; show some (if _ then _ else _) = _; rw [if_pos hc]
 ·right; rw [e]; show some (if _ then _ else _) = _; rw [if_neg hc]
theorem BlkScope.ofC (B : BlkScope X xs sc) {y : Str} (h : (relabel sc X.env).names.lookup y = some .cell ∨ (relabel sc X.env).names.lookup y = some .free) : sc.names.lookup y = some .free := by
 have v : Vis (relabel sc X.env) y := .inr h
 rcases B.kindF v with q | q
 ·have e : (relabel sc X.env).names.lookup y = (sc.names.lookup y).map _ := lookup_relabel (env := X.env) (x := y) sc.names
  rw [q] at e
  rcases h with h | h <;> rw [e] at h <;> cases h
 ·exact q
theorem blk_start {fp : List Addr} {h1 : Heap} {tk : Nat} {m : Str → Option Value} (hcalm : X.calm = true) (B : BlkScope X xs sc) (I : Inv X pins σ H s) (hf : ∀ b ∈ fp, FpOk X pins H b) (hfl : ∀ b ∈ fp, b < s.heap.objs.size)
  (hn : h1.Ns (s.heap.objs.size + 1) m) (hk : ∀ b o, (s.heap.push { cls := .type "list", data := .seq ([] : List Value).toArray }).get? b = some o → h1.get? b = some o) :
  Inv (blk X pins xs sc (s.heap.objs.size + 1) fp { s with heap := s.heap.push { cls := .type "list", data := .seq ([] : List Value).toArray } } (upd H s.heap.objs.size (.lst []))) [] (blkσ xs σ)
   (upd H s.heap.objs.size (.lst [])) { s with heap := h1, toks := tk } := by
 have hsz : (s.heap.push { cls := .type "list", data := .seq ([] : List Value).toArray }).objs.size = s.heap.objs.size + 1 := Heap.size_push ..
 have lt : ∀ b o, s.heap.get? b = some o → b < s.heap.objs.size := fun b o e => Heap.lt_size e
 have updF : ∀ b, b < s.heap.objs.size → upd H s.heap.objs.size (.lst []) b = H b := fun b hb => upd_ne (Nat.ne_of_lt hb)
 have cl : ∀ x c, X.env.cells.lookup x = some c → c < s.heap.objs.size := fun x c e => by obtain ⟨v, q⟩ := I.cell x c e; exact q.lt
 have frlt : ∀ b ∈ frs X.stack, b < s.heap.objs.size := fun b hb => by
  rcases List.mem_cons.mp (I.stkSub b hb) with e | z
  ·rw [e]; exact I.lt
  ·exact Nat.lt_of_not_le fun z' => I.nofs z' z
 have pushK : ∀ b o, s.heap.get? b = some o → (s.heap.push { cls := .type "list", data := .seq ([] : List Value).toArray }).get? b = some o := fun b o e => Heap.get?_push_of_some _ e
 have hk0 : ∀ b o, s.heap.get? b = some o → h1.get? b = some o := fun b o e => hk b o (pushK b o e)
 have fresh : ∀ b, s.heap.objs.size ≤ b → H b = none := fun b hb => I.hok.fresh hb
 refine ⟨⟨I.ok.mod, B.kind, I.ok.glob, I.ok.blt, ?_, fun x y c h1 h2 => ?_, fun x hx => ?_, fun x c hx => ?_, fun _ => I.ok.hd hcalm, I.ok.frames, .inl rfl, fun b hb => ⟨?_, fun x c e => ?_⟩, fun b o e => ⟨?_, ?_⟩, ?_, fun b o e hb => ?_, fun b hb hfr => ?_, ?_, fun b hb => ?_⟩,
  rfl, I.bare, Un.kept hk, ⟨m, hn, fun i x v e1 e2 e3 => ?_⟩, fun x c e => ?_, ?_, fun x c e => ?_, fun p hp => ?_, ?_, ?_⟩
 ·show (s.heap.push { cls := .type "list", data := .seq ([] : List Value).toArray }).objs.size ≤ s.heap.objs.size + 1
  rw [hsz]; exact Nat.le_refl _
 ·exact I.ok.inj x y c (B.sub I.ok h1) (B.sub I.ok h2)
 ·have q := B.ofC (y := x) hx
  obtain ⟨c, hc⟩ := closL_has (cells := X.env.cells) (cs := []) (mem_of_lookup' q)
  exact lookup_of_mem hc
 ·exact absurd hx (by show ¬ (false = true); decide)
 ·exact Nat.ne_of_lt (Nat.lt_succ_of_lt (hfl b hb))
 ·exact (hf b hb).2.2.2.2.1 x c (B.sub I.ok e)
 ·exact pushK b o (I.bk b o e)
 ·show upd H s.heap.objs.size (.lst []) b = none
  rw [updF b (lt b o (I.bk b o e))]; exact (I.bs b o e).2
 ·show X.base.objs.size ≤ (s.heap.push { cls := .type "list", data := .seq ([] : List Value).toArray }).objs.size
  rw [hsz]; exact Nat.le_succ_of_le (Nat.le_trans I.ok.bsz I.sz)
 ·rcases (hf b hb).2.2.2.1 with z | z
  ·exact I.ok.noex b o e z
  ·have := Heap.lt_size e
   exact absurd (Nat.lt_of_lt_of_le this (Nat.le_trans I.ok.bsz z)) (Nat.lt_irrefl _)
 ·rcases List.mem_cons.mp (I.stkSub b hfr) with e | z
  ·exact (hf b hb).2.1 e
  ·exact (hf b hb).2.2.1 z
 ·exact Heap.FunFrames.of_keeps (fun b o e _ => ⟨o, pushK b o e, rfl⟩) I.stack
 ·show upd H s.heap.objs.size (.lst []) b = none
  rw [updF b (frlt b hb)]; exact I.stkFree b hb
 ·have hi : xs.length ≤ i := by
   rcases Nat.lt_or_ge i xs.length with z | z
   ·unfold blkσ at e2
    rw [List.getElem?_append_left (by simpa using z), List.getElem?_replicate, if_pos z] at e2
    cases e2
   ·exact z
  have e2' : σ[i - xs.length]? = some (some v) := by
   unfold blkσ at e2
   rw [List.getElem?_append_right (by simpa using hi), List.length_replicate] at e2
   exact e2
  have e1' : (X.N.map (hid xs))[i - xs.length]? = some x := by
   have q : (blkN xs X.N)[i]? = some x := e1
   unfold blkN at q
   rw [List.getElem?_append_right hi] at q
   exact q
  rw [List.getElem?_map] at e1'
  cases eN : X.N[i - xs.length]? with
  | none => rw [eN] at e1'; cases e1'
  | some y =>
   rw [eN] at e1'
   have ey : hid xs y = x := Option.some.inj e1'
   have hy : y ∈ X.N := List.mem_of_getElem? eN
   have kf := B.kindF (y := x) e3
   unfold hid at ey
   by_cases hc : xs.contains y = true
   ·rw [if_pos hc] at ey
    rw [← ey, B.nohid y hy] at kf
    rcases kf with z | z <;> cases z
   ·rw [if_neg hc] at ey
    subst ey
    rcases kf with z | z
    ·rcases B.own (y, .local) (mem_of_lookup' z) rfl with q | q
     ·exact absurd (List.contains_iff_mem.mpr q) hc
     ·exact absurd (show (".0" : Str) ∈ X.N from q ▸ hy) B.nodot
    ·have kk := B.free (y, .free) (mem_of_lookup' z) rfl
     obtain ⟨m0, hn0, hl0⟩ := I.loc
     obtain ⟨u, ru, lk⟩ := hl0 _ y v eN e2' (.inr kk)
     refine ⟨u, ru, ?_⟩
     rcases lk with ⟨kl, _⟩ | ⟨_, c, ec, zc⟩
     ·rcases kk with kk | kk
      ·rw [show X.env.kindOf y = some .local from kl] at kk; cases kk
      ·rw [show X.env.kindOf y = some .local from kl] at kk; cases kk
     ·obtain ⟨c1, hc1⟩ := closL_has (cells := X.env.cells) (cs := []) (mem_of_lookup' z)
      obtain ⟨c2, hc2⟩ := lookup_of_mem hc1
      have hc3 := B.sub I.ok hc2
      rw [ec] at hc3
      cases hc3
      obtain ⟨oc, hoc, hdc⟩ := zc
      exact .inr ⟨B.kindC z, c, hc2, oc, hk0 c oc hoc, hdc⟩
 ·obtain ⟨v, oc, hoc, hdc⟩ := I.cell x c (B.sub I.ok e)
  exact ⟨v, oc, hk0 c oc hoc, hdc⟩
 ·show upd H s.heap.objs.size (.lst []) (s.heap.objs.size + 1) = none
  rw [upd_ne (Nat.succ_ne_self _)]; exact fresh _ (Nat.le_succ _)
 ·have e' := B.sub I.ok e
  rw [updF c (cl x c e')]; exact I.freeC x c e'
 ·have hp' : p ∈ X.pn ++ pins := by
   rcases List.mem_append.mp hp with z | z
   ·exact z
   ·exact nomatch z
  obtain ⟨q1, q2, q3, q4, q5⟩ := I.pin p hp'
  refine ⟨hk0 _ _ q1, by rw [updF _ (lt _ _ q1)]; exact q2, ?_, fun z => ?_, q5⟩
  ·exact Nat.ne_of_lt (Nat.lt_succ_of_lt (lt _ _ q1))
  ·rcases List.mem_cons.mp (I.stkSub _ z) with e | z
   ·exact q3 e
   ·exact q4 z
 ·refine I.hok.laid hk0 (Nat.le_refl _) ?_
  exact ⟨Nat.zero_le _, [], 0, .nil, hk _ _ (Heap.get?_push_size _ rfl)⟩
 ·show (blkσ xs σ).length = (blkN xs X.N).length
  unfold blkσ blkN
  rw [List.length_append, List.length_append, List.length_replicate, List.length_map, I.len]
theorem blk_end {fp : List Addr} {s' : Shared} {σ' : St} {H' : Hp} (I : Inv X pins σ H s) (hf : ∀ b ∈ fp, FpOk X pins H b)
  (J : Inv (blk X pins xs sc (s.heap.objs.size + 1) fp { s with heap := s.heap.push { cls := .type "list", data := .seq ([] : List Value).toArray } } (upd H s.heap.objs.size (.lst []))) [] σ' H' s') :
  Inv X pins σ H' s' := by
 have u1 : Un (frs X.stack) fp H (upd H s.heap.objs.size (.lst [])) s.heap (s.heap.push { cls := .type "list", data := .seq ([] : List Value).toArray }) :=
  Un.laid (fun b o e => Heap.get?_push_of_some _ e) (Nat.le_refl _) (I.hok.fresh (Nat.le_refl _))
 have u2 : Un (frs X.stack) fp (upd H s.heap.objs.size (.lst [])) H' (s.heap.push { cls := .type "list", data := .seq ([] : List Value).toArray }) s'.heap := J.base
 exact I.call' (s' := s') (ch := fp) J.os (u1.trans u2) J.hok J.bare fun b hb => ⟨(hf b hb).2.2.2.1, (hf b hb).2.1, (hf b hb).2.2.2.2.1, (hf b hb).2.2.2.2.2⟩
theorem blk_gone {fp : List Addr} {s' s'' : Shared} {σ' σ2 : St} {H' H2 : Hp} {h' : Heap} (I : Inv X pins σ H s)
  (hC : H2 (s.heap.objs.size + 1) = none) (I2 : Inv X pins σ2 H2 s'') (hs : Heap.SameBut (s.heap.objs.size + 1) s''.heap h') : Inv X pins σ2 H2 { s'' with heap := h' } := by
 have hL : s.heap.objs.size + 1 ≠ X.env.locals := Nat.ne_of_gt (Nat.lt_succ_of_lt I.lt)
 refine I2.turned (t' := s''.toks) (it := s.heap.objs.size + 1) (fun b o hb e => (hs.2 b hb).trans e) hC hL (.inr (Nat.le_succ_of_le I.sz)) (fun x c e => ?_) fun p hp => ?_
 ·obtain ⟨v, q⟩ := I.cell x c e
  exact Nat.ne_of_lt (Nat.lt_succ_of_lt q.lt)
 ·exact Nat.ne_of_lt (Nat.lt_succ_of_lt (Heap.lt_size (I.pin p hp).1))
end
def PIf (X : Cx) (ifs : List Expr) (t : TT) : Prop :=
 ∀ (pins : List (Addr × Obj)) (s : Shared) (σ : St) (H : Hp) (Q : Bool → Hp → Prop), Inv X pins σ H s → t σ H Q →
  wpAny (model X.prog X.w) X.A (forIn ifs true fun c r => if r = true then do let ok ← isTrue c X.env (eval c X.env); pure (ForInStep.yield ok) else pure (ForInStep.yield r)) (TP X pins σ Q) X.xe s
def tTrue : TT := fun _ H Q => Q true H
theorem pif_nil {X : Cx} : PIf X [] tTrue := fun _ _ _ H _ I h => wpAny_tests_nil ⟨H, I, h⟩
theorem pif_one {X : Cx} {c : Expr} {t : TT} (h : PT X c t) : PIf X [c] t := fun pins s σ H Q I q => wpAny_tests_one (h pins s σ H Q I q)
def tTurns (J : It) (g : TG) (tc : TT) (te : TE) (D : Addr) (Q : Hp → Prop) (σ : St) (H : Hp) : Prop :=
 ∃ W : Nat → Nat → St → Hp → Prop, (∃ m, W 0 m σ H) ∧ ∀ i m σ H, W i m σ H →
  (J.stop i H ∧ Q H) ∨ (J.go i H ∧ ∃ N : St → Hp → Prop, (∀ σ' H', N σ' H' → ∃ m', m' < m ∧ W (i + 1) m' σ' H') ∧ ∀ x H', J.yld i H x H' → g x σ H' fun σ2 H2 => tc σ2 H2 fun b H3 =>
   if b = true then te σ2 H3 fun v H4 => ∃ ys, H4 D = some (.lst ys) ∧ ys.length < sizeLine ∧ N σ2 (upd H4 D (.lst (ys ++ [v]))) else N σ2 H3)
theorem comp_loop {P : Program} {w : World} {K : PySem.W.Frag} {Y : Cx} (hP : Y.prog = P) (hw : Y.w = w) (hK : Y.K = K) {tg iter elt : Expr} {ifs : List Expr} {scope : Scope} {pos : Pos} {J : It} {fp : List Addr} {it D : Addr} {tn : Nat → Heap → Prop} {g : TG} {tc : TT} {te : TE}
  {Q : Hp → Prop} {R : Result → Shared → Prop} {s : Shared} {σ : St} {H : Hp}
  (hcalm : Y.calm = true) (hx : Y.xe = fun _ _ => False) (T : Turn P w K tg J fp it tn) (hg : PG Y tg g) (hc : PIf Y ifs tc) (he : PE Y elt te) (I : Inv Y [] σ H s) (st : tn 0 s.heap) (hf : ∀ b ∈ fp, FpOk Y [] H b) (h : tTurns J g tc te D Q σ H)
  (hR : ∀ σ' H' s', Inv Y [] σ' H' s' → Q H' → R (.ok .next) s') :
  codeAny (model P w) Y.A (.compLoop (.ListComp elt [⟨tg, iter, ifs, 0⟩] scope pos) 0 (.ref it) (.ref D) Y.env) R s := by
 subst hP hw hK
 obtain ⟨W, ⟨m0, w0⟩, turn⟩ := h
 have stat : ∀ {H' : Hp}, (∀ b ∈ fp, H' b = none) → ∀ b ∈ fp, FpOk Y [] H' b := fun hn b hb => ⟨hn b hb, (hf b hb).2⟩
 have no : ∀ {α : Type} {t : Sem α} {Qa : α → Shared → Prop} {E : Value → Shared → Prop} {s : Shared}, wpAny (model Y.prog Y.w) Y.A t Qa Y.xe s → wpAny (model Y.prog Y.w) Y.A t Qa E s := fun z => wpAny_mono z (fun _ _ q => q) fun _ _ q => by rw [hx] at q; exact q.elim
 refine codeAny_loop rfl (fun n s' => ∃ i σ' H', Inv Y [] σ' H' s' ∧ tn i s'.heap ∧ (∀ b ∈ fp, H' b = none) ∧ W i n σ' H') ?_ m0 ⟨0, σ, H, I, st, fun b hb => (hf b hb).1, w0⟩
 rintro n s3 ⟨i, σ3, H3, I3, st3, fr3, w3⟩
 show wpAny _ Y.A ((compTurn (.ListComp elt [⟨tg, iter, ifs, 0⟩] scope pos) 0 (.ref it) (.ref D) Y.env).onRaise (fun x => do noteFrame x Y.env; theTreesLotGoes x)) _ _ s3
 refine wpAny_noted ?_
 rw [compTurn_list]
 refine wpAny_bind (wpAny_standAt (wpAny_bind ?_))
 rcases turn i n σ3 H3 w3 with ⟨stop, qn⟩ | ⟨go, N, hN, step⟩
 ·refine wpAny_mono (T.done Y rfl rfl rfl hcalm i [] s3 σ3 H3 _ I3 (stat fr3) st3 stop) (fun r s4 ⟨hr, I4⟩ => ?_) fun _ _ q => q
  subst hr
  exact wpAny_pure (hR σ3 H3 s4 I4 qn)
 ·refine wpAny_mono (T.item Y rfl rfl rfl hcalm i [] s3 σ3 H3 _ I3 (stat fr3) st3 go) (fun r s4 ⟨u, hr, h4⟩ => ?_) fun _ _ q => q
  subst hr
  refine wpAny_bind (wpAny_mono h4 (fun _ s5 ⟨x, H5, I5, r5, y5, st5, fr5⟩ => ?_) fun _ _ q => q)
  have I5' := I5.pinned (stat fr5) (T.obj _ _ st5)
  have again : ∀ {s7 : Shared} {σ7 : St} {H7 : Hp}, Inv Y ([] ++ pinsAt fp s5.heap) σ7 H7 s7 → N σ7 H7 → ∃ m, m < n ∧ ∃ i σ' H', Inv Y [] σ' H' s7 ∧ tn i s7.heap ∧ (∀ b ∈ fp, H' b = none) ∧ W i m σ' H' := fun {s7 σ7 H7} I7 n7 => by
   obtain ⟨m', hm, w7⟩ := hN σ7 H7 n7
   refine ⟨m', hm, i + 1, σ7, H7, I7.unpinned, T.keep _ _ _ st5 fun b hb o e => (I7.pin (b, o) (List.mem_append_right _ (List.mem_append_right _ (mem_pinsAt hb e)))).1, fun b hb => ?_, w7⟩
   obtain ⟨o, e, d⟩ := T.obj _ _ st5 b hb
   exact (I7.pin (b, o) (List.mem_append_right _ (List.mem_append_right _ (mem_pinsAt hb e)))).2.1
  refine wpAny_bind (no (thn (hg _ s5 σ3 H5 x u _ I5' r5 (step x H5 y5)) fun _ s6 ⟨σ6, H6, I6, q6⟩ => ?_))
  refine wpAny_bind (no (thn (hc _ s6 σ6 H6 _ I6 q6) fun ok s7 ⟨H7, I7, q7⟩ => ?_))
  cases ok with
  | false => exact wpAny_pure ⟨rfl, again I7 q7⟩
  | true =>
   refine wpAny_bind (wpAny_bind (no (thn (he _ s7 σ6 H7 _ I7 q7) fun v s8 ⟨y, H8, I8, r8, ys, eD, hz, n8⟩ => ?_)))
   refine wpAny_bind (no (thn (mt_append _ s8 σ6 H8 (.ref D) [y] (.ref D) [v] (fun _ H9 => N σ6 H9) I8 rfl (.cons r8 .nil) ⟨D, ys, y, rfl, rfl, eD, hz, n8⟩) fun _ s9 ⟨_, H9, I9, _, n9⟩ => ?_))
   exact wpAny_pure (wpAny_pure ⟨rfl, again I9 n9⟩)
section
variable {X : Cx}
def tComp (xs : List Str) (wi : TI) (g : TG) (tc : TT) (te : TE) : TE := fun σ H Q => wi σ H fun J H1 => ∀ D, H1 D = none → tTurns J g tc te D (fun H' => Q (.ref D) H') (blkσ xs σ) (upd H1 D (.lst []))
theorem comp_core {tg iter elt : Expr} {ifs : List Expr} {sc : Scope} {pos pos' : Pos} {xs : List Str} {wi : TI} {g : TG} {tc : TT} {te : TE} {use : Option (Value → Sem Unit)} (hcalm : X.calm = true) (B : BlkScope X xs sc) (hi : PI X tg iter wi)
  (hb : ∀ pins C fp s3 H3, PG (blk X pins xs sc C fp s3 H3) tg g ∧ PIf (blk X pins xs sc C fp s3 H3) ifs tc ∧ PE (blk X pins xs sc C fp s3 H3) elt te)
  {pins : List (Addr × Obj)} {s : Shared} {σ : St} {H : Hp} {Q : Value → Shared → Prop} {QA : Addr → Hp → Prop} (I : Inv X pins σ H s) (h : wi σ H fun J H1 => ∀ D, H1 D = none → tTurns J g tc te D (QA D) (blkσ xs σ) (upd H1 D (.lst [])))
  (fin : ∀ C D H' s' m, s'.heap.Ns C m → H' C = none → Inv X pins σ H' s' → QA D H' → (∀ σ2 H2 s2 h2, Inv X pins σ2 H2 s2 → H2 C = none → Heap.SameBut C s2.heap h2 → Inv X pins σ2 H2 { s2 with heap := h2 }) → C ≠ X.env.locals → (∀ x c, X.env.cells.lookup x = some c → c ≠ C) →
   match use with
   | none => ∀ h', Heap.SameBut C s'.heap h' → Q (.ref D) { s' with heap := h' }
   | some u => wpAny (model X.prog X.w) X.A (u (.ref D)) (fun _ s'' => ∃ m, s''.heap.Ns C m ∧ ∀ h', Heap.SameBut C s''.heap h' → Q .none { s'' with heap := h' }) X.xe s')
  (hs : ∀ x, foldedSetIterable iter X.env x = pure x := by intro _; rfl) :
  wpAny (model X.prog X.w) X.A (comprehension (.ListComp elt [⟨tg, iter, ifs, 0⟩] sc pos) sc X.env pos' (newList []) false (eval iter X.env) use) Q X.xe s := by
 refine wpAny_comprehension_free (cl := closL X.env.cells sc.names []) (use := use) rfl hs (closureFor_closL (B.cells I.ok)) B.kind B.locs
  (thn (hi pins s σ H _ I h) fun v s1 h1 => thn h1 fun itv s2 h2 => ?_)
 obtain ⟨it, fp, tn, J, H2, e, I2, T, st2, f2, tr⟩ := h2
 subst e
 have hfl : ∀ b ∈ fp, b < s2.heap.objs.size := fun b hb => by obtain ⟨o, e, _⟩ := T.obj _ _ st2 b hb; exact Heap.lt_size e
 have hD : H2 s2.heap.objs.size = none := I2.hok.fresh (Nat.le_refl _)
 refine wpAny_newObj_type (wpAny_newFunctionEnv B.nocell (by intro y hy; simp at hy) (fun h1 hns hsb => ?_) B.kind)
 have hsz : (s2.heap.push { cls := .type "list", data := .seq ([] : List Value).toArray }).objs.size = s2.heap.objs.size + 1 := Heap.size_push ..
 dsimp only at hns hsb ⊢
 rw [hsz] at hns hsb ⊢
 have hk : ∀ b o, (s2.heap.push { cls := .type "list", data := .seq ([] : List Value).toArray }).get? b = some o → h1.get? b = some o := fun b o e =>
  (hsb.2 b (Nat.ne_of_lt (by have := Heap.lt_size e; rw [hsz] at this; exact this))).trans (Heap.get?_push_of_some _ e)
 have J0 := blk_start (tk := s2.toks + ([] : List (Str × Value)).length) hcalm B I2 f2 hfl hns hk
 have st3 : tn 0 h1 := T.keep _ _ _ st2 fun b _ o e => hk b o (Heap.get?_push_of_some _ e)
 have fY : ∀ b ∈ fp, FpOk (blk X pins xs sc (s2.heap.objs.size + 1) fp { s2 with heap := s2.heap.push { cls := .type "list", data := .seq ([] : List Value).toArray } } (upd H2 s2.heap.objs.size (.lst []))) [] (upd H2 s2.heap.objs.size (.lst [])) b := fun b hb => by
  obtain ⟨q1, q2, q3, q4, q5, q6⟩ := f2 b hb
  refine ⟨by rw [upd_ne (Nat.ne_of_lt (hfl b hb))]; exact q1, Nat.ne_of_lt (Nat.lt_succ_of_lt (hfl b hb)), fun z => ?_, .inl hb, fun x c e => q5 x c (B.sub I2.ok e), fun p hp => ?_⟩
  ·rcases List.mem_cons.mp (I2.stkSub _ z) with e | z
   ·exact q2 e
   ·exact q3 z
  ·rcases List.mem_append.mp hp with z | z
   ·exact q6 p z
   ·exact nomatch z
 have loop : ∀ (RR : Result → Shared → Prop), (∀ σ' H' s', Inv (blk X pins xs sc (s2.heap.objs.size + 1) fp { s2 with heap := s2.heap.push { cls := .type "list", data := .seq ([] : List Value).toArray } } (upd H2 s2.heap.objs.size (.lst []))) [] σ' H' s' → QA s2.heap.objs.size H' → RR (.ok .next) s') →
   codeAny (model X.prog X.w) X.A (.compLoop (.ListComp elt [⟨tg, iter, ifs, 0⟩] sc pos) 0 (.ref it) (.ref s2.heap.objs.size) (compEnvC sc (closL X.env.cells sc.names []) (s2.heap.objs.size + 1) X.env)) RR
    { s2 with heap := h1, toks := s2.toks + ([] : List (Str × Value)).length } := fun RR hR =>
  comp_loop (Y := blk X pins xs sc (s2.heap.objs.size + 1) fp { s2 with heap := s2.heap.push { cls := .type "list", data := .seq ([] : List Value).toArray } } (upd H2 s2.heap.objs.size (.lst []))) rfl rfl rfl rfl rfl T (hb _ _ _ _ _).1 (hb _ _ _ _ _).2.1 (hb _ _ _ _ _).2.2 J0 st3 fY (tr _ hD) hR
 refine codeAny_compStart_list (loop _ ?_) (T.self _ 0 _ _ _ st3 (loop _ ?_))
 all_goals
  intro σ' H' s' J' q'
  have I' := blk_end (sc := sc) I2 f2 J'
  obtain ⟨m, hm, _⟩ := J'.loc
  have hC : H' (s2.heap.objs.size + 1) = none := J'.free
  have z := fin (s2.heap.objs.size + 1) s2.heap.objs.size H' s' m hm hC I' q' (fun σ3 H3 s3 h3 I3 c3 sb => blk_gone (fp := fp) (s' := s') (σ' := σ') (H' := H') I2 c3 I3 sb) (Nat.ne_of_gt (Nat.lt_succ_of_lt I2.lt))
   (fun x c e => by obtain ⟨v, q⟩ := I2.cell x c e; exact Nat.ne_of_lt (Nat.lt_succ_of_lt q.lt))
  cases use with
  | none => exact ⟨m, hm, fun h' sb => z h' sb⟩
  | some u => exact z
theorem pe_comp {tg iter elt : Expr} {ifs : List Expr} {sc : Scope} {pos : Pos} (xs : List Str) {wi : TI} {g : TG} {tc : TT} {te : TE} (hcalm : X.calm = true) (B : BlkScope X xs sc) (hi : PI X tg iter wi)
  (hb : ∀ pins C fp s3 H3, PG (blk X pins xs sc C fp s3 H3) tg g ∧ PIf (blk X pins xs sc C fp s3 H3) ifs tc ∧ PE (blk X pins xs sc C fp s3 H3) elt te) (hs : ∀ x, foldedSetIterable iter X.env x = pure x := by intro _; rfl) :
  PE X (.ListComp elt [⟨tg, iter, ifs, 0⟩] sc pos) (tComp xs wi g tc te) := by
 intro pins s σ H Q I h
 rw [eval_ListComp]
 exact comp_core (use := none) (Q := EP X pins σ Q) (QA := fun D H' => Q (.ref D) H') hcalm B hi hb I h (fun C D H' s' m _ hC I' q back _ _ h' sb => ⟨.ref D, H', back σ H' s' h' I' hC sb, rfl, q⟩) hs
theorem ps_comp {tg iter elt : Expr} {ifs : List Expr} {sc : Scope} {pos spos py : Pos} (xs : List Str) {j : Nat} {y : Str} {wi : TI} {g : TG} {tc : TT} {te : TE} (hcalm : X.calm = true) (B : BlkScope X xs sc) (hi : PI X tg iter wi)
  (hb : ∀ pins C fp s3 H3, PG (blk X pins xs sc C fp s3 H3) tg g ∧ PIf (blk X pins xs sc C fp s3 H3) ifs tc ∧ PE (blk X pins xs sc C fp s3 H3) elt te)
  (hN : X.N.Nodup) (hj : X.N[j]? = some y) (hy : Loc X.env.scope y) (hsw : swapsWith (.ListComp elt [⟨tg, iter, ifs, 0⟩] sc pos) (some (.Name y py)) spos.line X.env = pure true)
  (hfn : X.fn y = true ∨ X.env.scope.names.lookup y = some .local := by first | exact .inl rfl | exact .inr rfl | assumption) (hs : ∀ x, foldedSetIterable iter X.env x = pure x := by intro _; rfl) :
  PS X (.Assign [.Name y py] (.ListComp elt [⟨tg, iter, ifs, 0⟩] sc pos) spos) (tAsg (tComp xs wi g tc te) (gName j)) := by
 intro pins s σ H D I h
 rw [exec_Assign_Name_used _ _ _ _ hsw]
 refine wpAny_bind (wpAny_standAt (wpAny_bind ?_))
 show wpAny _ X.A (do let _ ← comprehension (.ListComp elt [⟨tg, iter, ifs, 0⟩] sc pos) sc X.env _ (newList []) false (eval iter X.env) (some (assign (.Name y py) X.env))) _ _ s
 refine wpAny_bind (wpAny_mono (comp_core (use := some (assign (.Name y py) X.env)) (Q := fun _ s' => SP X pins D .next s') (QA := fun Da H' => D.nx (σ.set j (some (.ref Da))) H') hcalm B hi hb I h (fun C Da H' s' m hm hC I' q back hCL hCc => ?_) hs) (fun _ s' hq => wpAny_pure (wpAny_pure hq)) fun _ _ e => e)
 refine wpAny_assign_Name (store_ok2 I' hN hj hy (v := .ref Da) rfl (fun s2 I2 ⟨a, sb, ha⟩ => ?_) hfn)
 have hne : C ≠ a := by
  rcases ha with z | z
  ·rw [z]; exact hCL
  ·exact fun e => hCc _ _ z e.symm
 exact ⟨m, hm.sameBut sb hne, fun h' sb' => ⟨_, H', back _ H' s2 h' I2 hC sb', q⟩⟩
end
end L2
namespace L2
open PySem PySem.Spec PyProof.Rows PySem.SeqAt
inductive EqV (K : PySem.W.Frag) (H : Hp) : Nat → V → V → Bool → Prop where
 | int {n : Nat} (i j : Int) : EqV K H n (.int i) (.int j) (i == j)
 | bl {n : Nat} (i j : Bool) : EqV K H n (.bl i) (.bl j) (i == j)
 | str {n : Nat} (i j : Str) : EqV K H n (.str i) (.str j) (i == j)
 | same {n : Nat} (a : Addr) : EqV K H n (.ref a) (.ref a) true
 | non {n : Nat} : EqV K H n .non .non true
 | lst {n : Nat} {a b : Addr} {xs ys : List V} {e : Nat → Bool} (ne : a ≠ b) (h1 : SqL K H a xs) (h2 : SqL K H b ys) (hl : xs.length = ys.length)
   (he : ∀ (j : Nat) (x y : V), xs[j]? = some x → ys[j]? = some y → EqV K H n x y (e j)) : EqV K H (n + 1) (.ref a) (.ref b) ((List.range xs.length).all e)
 | lstN {n : Nat} {a b : Addr} {xs ys : List V} (ne : a ≠ b) (h1 : SqL K H a xs) (h2 : SqL K H b ys) (hl : xs.length ≠ ys.length) : EqV K H (n + 1) (.ref a) (.ref b) false
 | tup {n : Nat} {a b : Addr} {xs ys : List V} {e : Nat → Bool} (ne : a ≠ b) (h1 : SqT K H a xs) (h2 : SqT K H b ys) (hl : xs.length = ys.length)
   (he : ∀ (j : Nat) (x y : V), xs[j]? = some x → ys[j]? = some y → EqV K H n x y (e j)) : EqV K H (n + 1) (.ref a) (.ref b) ((List.range xs.length).all e)
section
variable {X : Cx} {pins : List (Addr × Obj)} {σ : St} {H : Hp} {s : Shared}
theorem vals_at {xs : List V} {us : List Value} (r : Vals xs us) {j : Nat} (h : j < us.toArray.size) : ∃ x, xs[j]? = some x ∧ RelV x us.toArray[j] := by
 have hl := r.length
 have hj : j < xs.length := by rw [hl]; simpa using h
 obtain ⟨u, hu, ru⟩ := r.get (List.getElem?_eq_getElem hj)
 have e : us.toArray[j] = u := by
  have : us[j]? = some us.toArray[j] := by simp
  rw [this] at hu; exact Option.some.inj hu
 exact ⟨xs[j], List.getElem?_eq_getElem hj, by rw [e]; exact ru⟩
theorem EqV.at (I : Inv X pins σ H s) : ∀ {n : Nat} {x y : V} {b : Bool}, EqV X.K H n x y b → ∀ {A : Around} {u v : Value}, A.units + n < cLine → RelV x u → RelV y v → EqAt A s u v b := by
 intro n x y b h
 induction h with
 | int i j => intro A u v _ ru rv; obtain ⟨t, rfl⟩ := ru; obtain ⟨t', rfl⟩ := rv; exact EqAt.int_int _ _ _ _
 | bl i j => intro A u v _ ru rv; cases ru; cases rv; exact EqAt.bool_bool _ _
 | str i j => intro A u v _ ru rv; obtain ⟨t, rfl⟩ := ru; obtain ⟨t', rfl⟩ := rv; exact EqAt.str_str _ _ _ _
 | same a => intro A u v _ ru rv; cases ru; cases rv; exact EqAt.same _
 | non => intro A u v _ ru rv; cases ru; cases rv; exact EqAt.same _
 | @lst n a b xs ys e ne h1 h2 hl he ih =>
  intro A u v hu ru rv
  cases ru; cases rv
  obtain ⟨i1, r1, p1, _⟩ := I.list h1
  obtain ⟨i2, r2, p2, _⟩ := I.list h2
  have e1 : xs.length = i1.toArray.size := by rw [r1.length]; simp
  have e2 : ys.length = i2.toArray.size := by rw [r2.length]; simp
  rw [e1]
  refine EqAt.of_refs ne (RcAt.lists p1.isList p2.isList (by omega) (by omega) fun j k1 k2 => ?_)
  obtain ⟨x, hx, rx⟩ := vals_at r1 k1
  obtain ⟨y, hy, ry⟩ := vals_at r2 k2
  exact ih j x y hx hy (by show A.units + 1 + n < cLine; omega) rx ry
 | @lstN n a b xs ys ne h1 h2 hl =>
  intro A u v hu ru rv
  cases ru; cases rv
  obtain ⟨i1, r1, p1, _⟩ := I.list h1
  obtain ⟨i2, r2, p2, _⟩ := I.list h2
  refine EqAt.of_refs ne (RcAt.lists_lengths p1.isList p2.isList ?_ (by omega))
  have e1 : xs.length = i1.toArray.size := by rw [r1.length]; simp
  have e2 : ys.length = i2.toArray.size := by rw [r2.length]; simp
  exact bne_iff_ne.mpr (by omega)
 | @tup n a b xs ys e ne h1 h2 hl he ih =>
  intro A u v hu ru rv
  cases ru; cases rv
  obtain ⟨i1, r1, p1, _⟩ := I.tuple h1
  obtain ⟨i2, r2, p2, _⟩ := I.tuple h2
  have e1 : xs.length = i1.toArray.size := by rw [r1.length]; simp
  have e2 : ys.length = i2.toArray.size := by rw [r2.length]; simp
  have q := RcAt.tuples (A := A) (e := e) p1 p2 (by omega) fun j k1 k2 => by
   obtain ⟨x, hx, rx⟩ := vals_at r1 k1
   obtain ⟨y, hy, ry⟩ := vals_at r2 k2
   exact ih j x y hx hy (by show A.units + 1 + n < cLine; omega) rx ry
  have ez : i1.toArray.size = i2.toArray.size := by omega
  rw [ez, Nat.min_self, beq_self_eq_true, Bool.and_true, ← ez, ← e1] at q
  exact EqAt.of_refs ne q
inductive RcV (K : PySem.W.Frag) (H : Hp) : V → V → Bool → Prop where
 | lst {a b : Addr} {xs ys : List V} {e : Nat → Bool} (h1 : SqL K H a xs) (h2 : SqL K H b ys) (hl : xs.length = ys.length)
   (he : ∀ (j : Nat) (x y : V), xs[j]? = some x → ys[j]? = some y → EqV K H 4 x y (e j)) : RcV K H (.ref a) (.ref b) ((List.range xs.length).all e)
 | lstN {a b : Addr} {xs ys : List V} (h1 : SqL K H a xs) (h2 : SqL K H b ys) (hl : xs.length ≠ ys.length) : RcV K H (.ref a) (.ref b) false
 | tup {a b : Addr} {xs ys : List V} {e : Nat → Bool} (h1 : SqT K H a xs) (h2 : SqT K H b ys) (hl : xs.length = ys.length)
   (he : ∀ (j : Nat) (x y : V), xs[j]? = some x → ys[j]? = some y → EqV K H 4 x y (e j)) : RcV K H (.ref a) (.ref b) ((List.range xs.length).all e)
theorem RcV.at (I : Inv X pins σ H s) {x y : V} {b : Bool} (h : RcV X.K H x y b) {A : Around} {u v : Value} (hu : A.units + 8 < cLine) (ru : RelV x u) (rv : RelV y v) : RcAt A s u v b ∧ RcNeAt A s u v (!b) := by
 cases h with
 | @lst a b xs ys e h1 h2 hl he =>
  cases ru; cases rv
  obtain ⟨i1, r1, p1, _⟩ := I.list h1
  obtain ⟨i2, r2, p2, _⟩ := I.list h2
  have e1 : xs.length = i1.toArray.size := by rw [r1.length]; simp
  have e2 : ys.length = i2.toArray.size := by rw [r2.length]; simp
  have el : ∀ j (k1 : j < i1.toArray.size) (k2 : j < i2.toArray.size), EqAt A.in1 s i1.toArray[j] i2.toArray[j] (e j) := fun j k1 k2 => by
   obtain ⟨x, hx, rx⟩ := vals_at r1 k1
   obtain ⟨y, hy, ry⟩ := vals_at r2 k2
   exact (he j x y hx hy).at I (by show A.units + 1 + 4 < cLine; omega) rx ry
  rw [e1]
  exact ⟨RcAt.lists p1.isList p2.isList (by omega) (by omega) el, RcNeAt.lists p1.isList p2.isList (by omega) (by omega) el⟩
 | @lstN a b xs ys h1 h2 hl =>
  cases ru; cases rv
  obtain ⟨i1, r1, p1, _⟩ := I.list h1
  obtain ⟨i2, r2, p2, _⟩ := I.list h2
  have e1 : xs.length = i1.toArray.size := by rw [r1.length]; simp
  have e2 : ys.length = i2.toArray.size := by rw [r2.length]; simp
  have q : (i1.toArray.size != i2.toArray.size) = true := bne_iff_ne.mpr (by omega)
  exact ⟨RcAt.lists_lengths p1.isList p2.isList q (by omega), RcNeAt.lists_lengths p1.isList p2.isList q (by omega)⟩
 | @tup a b xs ys e h1 h2 hl he =>
  cases ru; cases rv
  obtain ⟨i1, r1, p1, _⟩ := I.tuple h1
  obtain ⟨i2, r2, p2, _⟩ := I.tuple h2
  have e1 : xs.length = i1.toArray.size := by rw [r1.length]; simp
  have e2 : ys.length = i2.toArray.size := by rw [r2.length]; simp
  have el : ∀ j (k1 : j < i1.toArray.size) (k2 : j < i2.toArray.size), EqAt A.in1 s i1.toArray[j] i2.toArray[j] (e j) := fun j k1 k2 => by
   obtain ⟨x, hx, rx⟩ := vals_at r1 k1
   obtain ⟨y, hy, ry⟩ := vals_at r2 k2
   exact (he j x y hx hy).at I (by show A.units + 1 + 4 < cLine; omega) rx ry
  have ez : i1.toArray.size = i2.toArray.size := by omega
  have q1 := RcAt.tuples (A := A) (e := e) p1 p2 (by omega) el
  have q2 := RcNeAt.tuples (A := A) (e := e) p1 p2 (by omega) el
  rw [ez, Nat.min_self, beq_self_eq_true, Bool.and_true, ← ez, ← e1] at q1 q2
  exact ⟨q1, q2⟩
def rEqD (K : PySem.W.Frag) : R2 := fun x y H Q => ∃ b, RcV K H x y b ∧ Q (.bl b) H
def rNeD (K : PySem.W.Frag) : R2 := fun x y H Q => ∃ b, RcV K H x y b ∧ Q (.bl (!b)) H
theorem op_eqD (hu : X.A.units + 64 < cLine) : OpR X (compareOp .Eq) (rEqD X.K) := by
 intro pins s σ H x y v u Q I rx ry ⟨b, h, q⟩
 exact (h.at I (by omega) rx ry).1 _ _ _ _ ⟨.bl b, H, I, rfl, q⟩
theorem op_neD (hu : X.A.units + 64 < cLine) : OpR X (compareOp .NotEq) (rNeD X.K) := by
 intro pins s σ H x y v u Q I rx ry ⟨b, h, q⟩
 exact (h.at I (by omega) rx ry).2 _ _ _ _ ⟨.bl (!b), H, I, rfl, q⟩
end
theorem range_all_eq {α : Type} [BEq α] [LawfulBEq α] : ∀ {xs ys : List α}, xs.length = ys.length → (List.range xs.length).all (fun j => xs[j]? == ys[j]?) = (xs == ys) := by
 intro xs ys hl
 rw [Bool.eq_iff_iff, List.all_eq_true, beq_iff_eq]
 constructor
 ·intro h
  refine List.ext_getElem? fun j => ?_
  by_cases hj : j < xs.length
  ·exact eq_of_beq (h j (List.mem_range.mpr hj))
  ·rw [List.getElem?_eq_none (by omega), List.getElem?_eq_none (by omega)]
 ·intro h j _
  rw [h]; exact beq_self_eq_true _
section
variable {K : PySem.W.Frag} {H : Hp}
theorem eqv_ints_item {n : Nat} {xs ys : List Int} : ∀ (j : Nat) (x y : V), (xs.map V.int)[j]? = some x → (ys.map V.int)[j]? = some y → EqV K H n x y (xs[j]? == ys[j]?) := by
 intro j x y hx hy
 rw [List.getElem?_map] at hx hy
 cases ex : xs[j]? with
 | none => rw [ex] at hx; cases hx
 | some i =>
  cases ey : ys[j]? with
  | none => rw [ey] at hy; cases hy
  | some k =>
   rw [ex] at hx; rw [ey] at hy; cases hx; cases hy
   have e : (some i == some k) = (i == k) := by rfl
   rw [e]
   exact EqV.int i k
theorem rcv_ints {a b : Addr} {xs ys : List Int} (h1 : SqL K H a (xs.map V.int)) (h2 : SqL K H b (ys.map V.int)) : RcV K H (.ref a) (.ref b) (xs == ys) := by
 by_cases hl : xs.length = ys.length
 ·have q := RcV.lst (e := fun j => xs[j]? == ys[j]?) h1 h2 (by simpa using hl) eqv_ints_item
  rw [List.length_map, range_all_eq hl] at q
  exact q
 ·have e : (xs == ys) = false := by rw [beq_eq_false_iff_ne]; intro e; exact hl (by rw [e])
  rw [e]
  exact RcV.lstN h1 h2 (by simpa using hl)
end
section
variable {X : Cx}
def rIsi (K : PySem.W.Frag) (T : String) : List V → Hp → VK → Prop := fun vs H Q => ∃ x t b, vs = [x, .ty T] ∧ TyOf K H x t ∧ PySem.W.kitOne K t (.type T) = some b ∧ Q (.bl b) H
theorem call_isi (T : String) : CallR X (.builtin "isinstance") (rIsi X.K T) := by
 intro pins s σ H xs us Q I r h
 obtain ⟨x, t, b, rfl, ty, e, q⟩ := h
 obtain ⟨u, v, rfl, ru, rv⟩ := r.two
 cases rv
 exact isinst_ok I ru ty e fun tk => ⟨.bl b, H, I.tok tk, rfl, q⟩
theorem rng_list {pins : List (Addr × Obj)} {σ : St} {H : Hp} {s : Shared} {Q : VK} {E : Value → Shared → Prop} {lo hi : Int} {t u v : Tok} {tk : Nat} (hcalm : X.calm = true) (I : Inv X pins σ H s) (h1 : -(2 ^ 20) ≤ lo) (h2 : lo < 2 ^ 20) (h3 : -(2 ^ 20) ≤ hi) (h4 : hi < 2 ^ 20)
  (q : ∀ p, H p = none → Q (.ref p) (upd H p (.lst ((List.range (hi - lo).toNat).map fun i : Nat => V.int (lo + i))))) :
  wpAny (model X.prog X.w) X.A (call (.type "list") [.ref s.heap.objs.size]) (EP X pins σ Q) E { s with heap := s.heap.push { cls := .type "range", data := .fields #[.int lo t, .int hi u, .int 1 v] }, toks := tk } := by
 have I1 : Inv X pins σ H { s with heap := s.heap.push { cls := .type "range", data := .fields #[.int lo t, .int hi u, .int 1 v] }, toks := tk } := I.kept fun b o e => Heap.get?_push_of_some _ e
 refine call_list_range (n := (hi - lo).toNat) (I.ok.hd hcalm) (IsRange.new ..) (small_one (by omega) (by omega) (by omega) (by omega)) (by rw [rangeSize_one]; split <;> omega) (by omega) fun h' tk' acc' c' hk hS hacc => ?_
 refine ⟨.ref _, _, I1.laid (t' := tk') hk (Nat.le_refl _) (show ObjOk X.prog X.w _ h' _ (.lst ((List.range (hi - lo).toNat).map fun i : Nat => V.int (lo + i))) from ⟨?_, acc'.toList, c', ?_, by simpa using hS⟩), rfl, q _ (I1.hok.fresh (Nat.le_refl _))⟩
 ·rw [List.length_map, List.length_range]
  exact Nat.le_trans (show (hi - lo).toNat ≤ 2 ^ 22 by omega) (by decide)
 ·have key : ∀ (n : Nat) (us : List Value) (f : Nat → Int), us.length = n → (∀ (j : Nat) (u : Value), us[j]? = some u → ∃ t, u = Value.int (f j) t) → Vals ((List.range n).map fun i : Nat => V.int (f i)) us := by
   intro n
   induction n with
   | zero => intro us f hl _; have : us = [] := List.eq_nil_of_length_eq_zero hl; subst this; exact .nil
   | succ n ih =>
    intro us f hl hu
    cases us with
    | nil => cases hl
    | cons u0 r =>
     rw [List.range_succ_eq_map, List.map_cons, List.map_map]
     refine .cons (hu 0 u0 rfl) ?_
     exact ih r (fun i => f (i + 1)) (by simpa using hl) fun j w hw => hu (j + 1) w (by simpa using hw)
  refine key _ _ (fun i => lo + i) (by rw [Array.length_toList]; exact hacc.1) fun j w hw => ?_
  obtain ⟨t, e⟩ := hacc.2 j w (by rw [← Array.getElem?_toList]; exact hw)
  exact ⟨t, by rw [e, Int.mul_one]⟩
def tLRng (ta : TA) (lo : List V → Option (Int × Int)) : TE := fun σ H Q => ta σ H fun vs H1 => ∃ i j, lo vs = some (i, j) ∧ (-(2 ^ 20) ≤ i ∧ i < 2 ^ 20 ∧ -(2 ^ 20) ≤ j ∧ j < 2 ^ 20) ∧ ∀ p, H1 p = none → Q (.ref p) (upd H1 p (.lst ((List.range (j - i).toNat).map fun k : Nat => V.int (i + k))))
def rg1 : List V → Option (Int × Int)
 | [.int j] => some (0, j)
 | _ => none
def rg2 : List V → Option (Int × Int)
 | [.int i, .int j] => some (i, j)
 | _ => none
theorem pe_list_range1 {a : Expr} {ta : TA} {p pos p' pos' : Pos} (hcalm : X.calm = true) (hg : Gl X "range") (hm : X.mg "range" = none) (hg' : Gl X "list") (hm' : X.mg "list" = none) (ha : PA X [a] ta) (hs : starEach [a] X.env = [(false, eval a X.env)] := by rfl)
  (hs' : starEach [.Call (.Name "range" p) [a] [] pos] X.env = [(false, eval (.Call (.Name "range" p) [a] [] pos) X.env)] := by rfl) :
  PE X (.Call (.Name "list" p') [.Call (.Name "range" p) [a] [] pos] [] pos') (tLRng ta rg1) := by
 intro pins s σ H Q I h
 refine Call_ (ld_blt I hg' hm' boot_list (PyProof.Rows.callWith_type1 ?_ hs' rfl))
 rw [hs']
 show wpAny _ _ (spliced ((false, eval (.Call (.Name "range" p) [a] [] pos) X.env) :: [])) _ _ s
 refine Calls.spliced_cons (Call_ (ld_blt I hg hm boot_range (PyProof.Rows.callWith_type1 (thn (ha pos pins s σ H _ I h) fun us s1 ⟨vs, H1, I1, r1, q1⟩ => ?_) hs rfl)))
 obtain ⟨i, j, e, ⟨q1, q2, q3, q4⟩, q⟩ := q1
 cases r1 with
 | nil => cases e
 | @cons x u xs us r rr =>
  cases rr with
  | cons _ _ => cases x <;> cases e
  | nil =>
   cases x with
   | int k =>
    cases e
    obtain ⟨t, rfl⟩ := r
    exact call_range_1 (Calls.spliced_nil (rng_list hcalm I1 q1 q2 q3 q4 q))
   | _ => cases e
theorem pe_list_range2 {a b : Expr} {ta : TA} {p pos p' pos' : Pos} (hcalm : X.calm = true) (hg : Gl X "range") (hm : X.mg "range" = none) (hg' : Gl X "list") (hm' : X.mg "list" = none) (ha : PA X [a, b] ta)
  (hs : starEach [a, b] X.env = [(false, eval a X.env), (false, eval b X.env)] := by rfl) (hs2 : starEach [b] X.env = [(false, eval b X.env)] := by rfl)
  (hs' : starEach [.Call (.Name "range" p) [a, b] [] pos] X.env = [(false, eval (.Call (.Name "range" p) [a, b] [] pos) X.env)] := by rfl) :
  PE X (.Call (.Name "list" p') [.Call (.Name "range" p) [a, b] [] pos] [] pos') (tLRng ta rg2) := by
 intro pins s σ H Q I h
 refine Call_ (ld_blt I hg' hm' boot_list (PyProof.Rows.callWith_type1 ?_ hs' rfl))
 rw [hs']
 show wpAny _ _ (spliced ((false, eval (.Call (.Name "range" p) [a, b] [] pos) X.env) :: [])) _ _ s
 refine Calls.spliced_cons (Call_ (ld_blt I hg hm boot_range (PyProof.Rows.callWith_type1 (thn (ha pos pins s σ H _ I h) fun us s1 ⟨vs, H1, I1, r1, q1⟩ => ?_) (by rw [hs, hs2]) (by rw [hs2]; rfl))))
 obtain ⟨i, j, e, ⟨q1, q2, q3, q4⟩, q⟩ := q1
 cases r1 with
 | nil => cases e
 | @cons x u xs us r rr =>
  cases rr with
  | nil => cases x <;> cases e
  | @cons y u' ys us' r' rr' =>
   cases rr' with
   | cons _ _ => cases x <;> cases y <;> cases e
   | nil =>
    cases x with
    | int k =>
     cases y with
     | int k' =>
      cases e
      obtain ⟨t, rfl⟩ := r
      obtain ⟨t', rfl⟩ := r'
      exact call_range_2 (Calls.spliced_nil (rng_list hcalm I1 q1 q2 q3 q4 q))
     | _ => cases e
    | _ => cases e
theorem vals_intsAre : ∀ {ns : List Int} {us : List Value}, Vals (ns.map V.int) us → IntsAre us ns
 | [], _, .nil => .nil
 | n :: r, _, .cons h t => by obtain ⟨k, rfl⟩ := h; exact .cons n k (vals_intsAre t)
theorem intsAre_vals : ∀ {us : List Value} {ns : List Int}, IntsAre us ns → Vals (ns.map V.int) us
 | _, _, .nil => .nil
 | _, _, .cons n t h => .cons ⟨t, rfl⟩ (intsAre_vals h)
def rSorted (K : PySem.W.Frag) : List V → Hp → VK → Prop := fun vs H Q => ∃ (p : Addr) (ns : List Int), vs = [.ref p] ∧ SqL K H p (ns.map V.int) ∧ ns.length < 64 ∧ ∀ (l : Addr) (ns' : List Int), H l = none → ns'.Perm ns → ns'.Pairwise (· ≤ ·) → Q (.ref l) (upd H l (.lst (ns'.map V.int)))
theorem call_sorted : CallR X (.builtin "sorted") (rSorted X.K) := by
 intro pins s σ H xs us Q I r h
 obtain ⟨p, ns, rfl, hq, h64, q⟩ := h
 obtain ⟨u, rfl, ru⟩ := r.one
 cases ru
 obtain ⟨its, rv, pl, hz⟩ := I.list hq
 have hl := rv.length
 rw [List.length_map] at hl
 refine sorted_ints (vs := its) pl.isList (vals_intsAre rv) (by omega) fun out ns' a1 a2 a3 => ?_
 obtain ⟨e, he⟩ := sortedAll_at s.heap its out
 have hlen : ns'.length = ns.length := a2.length_eq
 refine ⟨.ref _, _, I.laid (t' := s.toks) (fun _ _ => sortedAll_old) (Nat.le_succ _) (show ObjOk X.prog X.w _ _ _ (.lst (ns'.map V.int)) from ⟨?_, out.toList, e, intsAre_vals a1, by simpa using he⟩), rfl, q _ ns' (I.hok.fresh (Nat.le_succ _)) a2 a3⟩
 rw [List.length_map, hlen]
 exact Nat.le_trans (Nat.le_of_lt h64) (by decide)
end
section
variable {X : Cx} {pins : List (Addr × Obj)} {σ : St} {H : Hp} {s : Shared} {d : Addr} {kvs : List (Key × V)}
end
section
variable {X : Cx} {tg : Expr}
end
end L2
namespace L2
open PySem PySem.Spec PyProof.Rows
def blkOk (osc : Scope) (N xs : List Str) (sc : Scope) : Bool :=
 (sc.kind == .function) && sc.names.all (fun y => y.2 != .cell) && sc.names.all (fun y => y.2 != .local || (sc.names.lookup y.1 == some .local)) && sc.names.all (fun y => y.2 != .local || (xs.contains y.1 || y.1 == (".0" : Str))) &&
  sc.names.all (fun y => y.2 != .free || (osc.names.lookup y.1 == some .cell || osc.names.lookup y.1 == some .free)) && N.all (fun y => (sc.names.lookup (y ++ ("#" : Str))).isNone) && !N.contains (".0" : Str)
theorem blk_ok {X : Cx} {xs : List Str} {sc : Scope} (osc : Scope) (N : List Str) (hs : X.env.scope = osc) (hN : X.N = N) (h : blkOk osc N xs sc = true) : BlkScope X xs sc := by
 unfold blkOk at h
 simp only [Bool.and_eq_true, List.all_eq_true, Bool.or_eq_true, Bool.not_eq_true', bne_iff_ne, beq_iff_eq, List.contains_iff_mem] at h
 obtain ⟨⟨⟨⟨⟨⟨h1, h2⟩, h3⟩, h4⟩, h5⟩, h6⟩, h7⟩ := h
 refine ⟨h1, h2, fun y hy e => ?_, fun y hy e => ?_, fun y hy e => ?_, fun y hy => ?_, ?_⟩
 ·exact (h3 y hy).resolve_left fun z => z e
 ·exact (h4 y hy).resolve_left fun z => z e
 ·have z := (h5 y hy).resolve_left fun z => z e
  rw [← hs] at z
  exact z
 ·rw [hN] at hy
  exact Option.isNone_iff_eq_none.mp (h6 y hy)
 ·rw [hN]
  intro z
  rw [List.contains_iff_mem.mpr z] at h7
  cases h7
def Gives (t : TE) (σ : St) (H : Hp) (v : V) : Prop := ∀ P : VK, (∀ H2, Same H H2 → P v H2) → t σ H P
def Tells (t : TT) (σ : St) (H : Hp) (b : Bool) : Prop := ∀ P : Bool → Hp → Prop, (∀ H2, Same H H2 → P b H2) → t σ H P
theorem Same.rfl' {H : Hp} : Same H H := fun _ _ h => h
theorem Same.new {H : Hp} {p : Addr} (h : H p = none) (o : HO) : Same H (upd H p o) := fun b u q => by rw [upd_ne (ne_of_none q h)]; exact q
theorem tells_true {σ : St} {H : Hp} : Tells tTrue σ H true := fun _ h => h H Same.rfl'
theorem turns_gen {J : It} {n : Nat} {tc : TT} {te : TE} {D : Addr} {Q : Hp → Prop} {σ : St} {H1 : Hp} (item : Nat → V) (c : Nat → Bool) (v : Nat → V) (hD : H1 D = none) (hn : n ≤ 1000)
  (hgo : ∀ i H', Same H1 H' → i < n → J.go i H') (hyl : ∀ i H' x H2, Same H1 H' → i < n → J.yld i H' x H2 → H2 = H' ∧ x = item i) (hst : ∀ H', Same H1 H' → J.stop n H')
  (ht : ∀ i H', i < n → Same H1 H' → Tells tc (some (item i) :: σ) H' (c i)) (he : ∀ i H', i < n → c i = true → Same H1 H' → Gives te (some (item i) :: σ) H' (v i))
  (hq : ∀ H', Same H1 H' → H' D = some (.lst (((List.range n).filter c).map v)) → Q H') : tTurns J (gName 0) tc te D Q (none :: σ) (upd H1 D (.lst [])) := by
 refine ⟨fun i m σ' H' => ∃ x, σ' = x :: σ ∧ m = n - i ∧ i ≤ n ∧ Same H1 H' ∧ H' D = some (.lst (((List.range i).filter c).map v)), ⟨n, none, rfl, rfl, Nat.zero_le _, Same.new hD _, upd_same⟩, ?_⟩
 rintro i m σ' H' ⟨x, rfl, rfl, hi, g, hl⟩
 by_cases hlt : i < n
 ·refine .inr ⟨hgo i H' g hlt, fun σ2 H2 => ∃ x, σ2 = x :: σ ∧ Same H1 H2 ∧ H2 D = some (.lst (((List.range (i + 1)).filter c).map v)), ?_, fun x' H2 y => ?_⟩
  ·rintro σ2 H2 ⟨x, rfl, g2, l2⟩
   exact ⟨n - (i + 1), by omega, x, rfl, rfl, hlt, g2, l2⟩
  ·obtain ⟨rfl, rfl⟩ := hyl i H' x' H2 g hlt y
   show tc (some (item i) :: σ) H2 _
   refine ht i H2 hlt g _ fun H3 g3 => ?_
   have hr : (List.range (i + 1)).filter c = (List.range i).filter c ++ (if c i = true then [i] else []) := by
    rw [List.range_succ, List.filter_append, List.filter_cons, List.filter_nil]
   refine ite2 (fun hc => ?_) (fun hc => ?_)
   ·refine he i H3 hlt hc (g.trans g3) _ fun H4 g4 => ?_
    have l4 := g4 _ _ (g3 _ _ hl)
    refine ⟨_, l4, ?_, some (item i), rfl, fun b o hb => ?_, ?_⟩
    ·rw [List.length_map]
     have := List.length_filter_le c (List.range i)
     rw [List.length_range] at this
     exact small1000 (by omega)
    ·have hne : b ≠ D := fun e => by rw [e, hD] at hb; cases hb
     rw [upd_ne hne]
     exact g4 _ _ (g3 _ _ (g _ _ hb))
    ·rw [upd_same, hr, if_pos hc, List.map_append]
     rfl
   ·refine ⟨some (item i), rfl, g.trans g3, ?_⟩
    rw [hr, if_neg hc, List.append_nil]
    exact g3 _ _ hl
 ·have e : i = n := by omega
  subst e
  exact .inl ⟨hst H' g, hq H' g hl⟩
theorem turns_range {lo : Int} {n : Nat} {tc : TT} {te : TE} {D : Addr} {Q : Hp → Prop} {σ : St} {H1 : Hp} (c : Nat → Bool) (v : Nat → V) (hD : H1 D = none) (hn : n ≤ 1000)
  (ht : ∀ i H', i < n → Same H1 H' → Tells tc (some (.int (lo + i)) :: σ) H' (c i)) (he : ∀ i H', i < n → c i = true → Same H1 H' → Gives te (some (.int (lo + i)) :: σ) H' (v i))
  (hq : ∀ H', Same H1 H' → H' D = some (.lst (((List.range n).filter c).map v)) → Q H') : tTurns (Itr lo n) (gName 0) tc te D Q (none :: σ) (upd H1 D (.lst [])) :=
 turns_gen (fun i => .int (lo + i)) c v hD hn (fun i _ _ h => h) (fun i H' x H2 _ _ y => y) (fun _ _ => Nat.le_refl _) ht he hq
theorem range_getD_filter {α : Type} (c : α → Bool) (d : α) : ∀ (xs : List α), ((List.range xs.length).filter fun i => c (xs.getD i d)).map (fun i => xs.getD i d) = xs.filter c
 | [] => rfl
 | x :: xs => by
  have ih := range_getD_filter c d xs
  rw [List.length_cons, List.range_succ_eq_map, List.filter_cons]
  have e1 : (x :: xs).getD 0 d = x := rfl
  rw [e1]
  have e2 : (List.map Nat.succ (List.range xs.length)).filter (fun i => c ((x :: xs).getD i d)) = (((List.range xs.length).filter fun i => c (xs.getD i d)).map Nat.succ) := by
   rw [List.filter_map]
   rfl
  by_cases hc : c x = true
  ·rw [if_pos hc, List.filter_cons, if_pos hc, List.map_cons, e2, List.map_map, ← ih]
   rfl
  ·rw [if_neg hc, List.filter_cons, if_neg hc, e2, List.map_map, ← ih]
   rfl
theorem turns_list {K : PySem.W.Frag} {a : Addr} {xs : List V} {tc : TT} {te : TE} {D : Addr} {Q : Hp → Prop} {σ : St} {H1 : Hp} (c : Nat → Bool) (v : Nat → V) (hS : SqL K H1 a xs) (hD : H1 D = none) (hn : xs.length ≤ 1000)
  (ht : ∀ i H', i < xs.length → Same H1 H' → Tells tc (some (xs.getD i .non) :: σ) H' (c i)) (he : ∀ i H', i < xs.length → c i = true → Same H1 H' → Gives te (some (xs.getD i .non) :: σ) H' (v i))
  (hq : ∀ H', Same H1 H' → H' D = some (.lst (((List.range xs.length).filter c).map v)) → Q H') : tTurns (Itl K a) (gName 0) tc te D Q (none :: σ) (upd H1 D (.lst [])) := by
 refine turns_gen (fun i => xs.getD i .non) c v hD hn (fun i H' g h => ⟨xs, xs[i], g.seq hS, List.getElem?_eq_getElem h⟩) (fun i H' x H2 g h y => ⟨y.1, ?_⟩) (fun H' g => ⟨xs, g.seq hS, Nat.le_refl _⟩) ht he hq
 have := y.2 xs (g.seq hS)
 rw [List.getElem?_eq_getElem h] at this
 rw [List.getD_eq_getElem?_getD, List.getElem?_eq_getElem h]
 exact (Option.some.inj this).symm
theorem while_by2 {c : TT} {tb : TS} {D : Ends} {σ : St} {H : Hp} (Pv : St → Hp → Prop) (μ : St → Hp → Nat) (h0 : Pv σ H)
  (hs : ∀ σ H, Pv σ H → c σ H fun b H1 => if b = true then ∃ N : St → Hp → Prop, (∀ σ' H', N σ' H' → ∃ m', m' < μ σ H ∧ m' = μ σ' H' ∧ Pv σ' H') ∧ tb { D with nx := N, ct := N, bk := D.nx } σ H1 else D.nx σ H1) : tWhile c tb D σ H := by
 refine ⟨fun m σ H => m = μ σ H ∧ Pv σ H, ⟨_, rfl, h0⟩, ?_⟩
 rintro m σ H ⟨rfl, p⟩
 exact hs σ H p
theorem next_by {tb : TS} {D : Ends} {σ : St} {H H1 : Hp} {Pv : St → Hp → Prop} {μ : St → Hp → Nat} (h : tb { D with nx := fun σ' H' => Pv σ' H' ∧ μ σ' H' < μ σ H, ct := fun σ' H' => Pv σ' H' ∧ μ σ' H' < μ σ H, bk := D.nx } σ H1) :
  ∃ N : St → Hp → Prop, (∀ σ' H', N σ' H' → ∃ m', m' < μ σ H ∧ m' = μ σ' H' ∧ Pv σ' H') ∧ tb { D with nx := N, ct := N, bk := D.nx } σ H1 := ⟨_, fun _ _ h => ⟨_, h.2, rfl, h.1⟩, h⟩
end L2
namespace L2
open PySem PySem.Spec PyProof.Rows
structure KDict (K : PySem.W.Frag) (w : World) (d : Addr) (kvs : List (Str × Tok × Value)) : Prop where
 lo : (d == sysModules) = false
 nd : (kvs.map (·.1)).Nodup
 at' : ∃ n, K.lookup d = some { cls := .type "dict", data := .dict (kvs.map fun e => ({ hash := PyData.keyHash w.params e.1, key := .str e.1 e.2.1, val := e.2.2 } : DictEntry)).toArray n }
section
variable {X : Cx} {d : Addr} {kvs : List (Str × Tok × Value)} {o i : Expr} {td ty : TE} {pos : Pos}
end
theorem getD_map_int (xs : List Int) {i : Nat} (h : i < xs.length) : (xs.map V.int).getD i .non = .int (xs.getD i 0) := by
 rw [List.getD_eq_getElem?_getD, List.getElem?_map, List.getElem?_eq_getElem h, List.getD_eq_getElem?_getD, List.getElem?_eq_getElem h]
 rfl
end L2
namespace L2
open PySem PySem.Spec PyProof.Rows
section
variable {X : Cx} (K : PySem.W.Frag)
theorem ix_listK (h : X.K = K := by rfl) : IxR X (rIxL K) := h ▸ ix_list
theorem ix_tupK (h : X.K = K := by rfl) : IxR X (rIxT K) := h ▸ ix_tup
end
end L2
namespace L2
open PySem PySem.Spec PyProof.Rows
section
variable {X : Cx}
end
def Ex (S : Addr → Prop) (H H' : Hp) : Prop := ∀ b o, ¬ S b → H b = some o → H' b = some o
theorem Ex.refl {S : Addr → Prop} {H : Hp} : Ex S H H := fun _ _ _ h => h
theorem Ex.trans {S : Addr → Prop} {H H1 H2 : Hp} (a : Ex S H H1) (b : Ex S H1 H2) : Ex S H H2 := fun c o n h => b c o n (a c o n h)
theorem Ex.same {S : Addr → Prop} {H H1 : Hp} (a : Same H H1) : Ex S H H1 := fun c o _ h => a c o h
theorem Ex.put {S : Addr → Prop} {H : Hp} {p : Addr} (o : HO) (hp : S p) : Ex S H (upd H p o) := fun c o' n h => by
 have : c ≠ p := fun e => n (e ▸ hp)
 rw [upd_ne this]; exact h
theorem Ex.new {S : Addr → Prop} {H : Hp} {p : Addr} (o : HO) (hp : H p = none) : Ex S H (upd H p o) := Ex.same (Same.new hp o)
theorem Ex.wide {S S' : Addr → Prop} {H H1 : Hp} (a : Ex S H H1) (h : ∀ b, S b → S' b) : Ex S' H H1 := fun c o n e => a c o (fun z => n (h c z)) e
theorem pick_int (xs : List Int) {r : Int} (h0 : 0 ≤ r) (h1 : r < (xs.length : Nat)) : ∃ v, atI (xs.map V.int) r = some (.int v) ∧ v ∈ xs := by
 have hj : r.toNat < xs.length := by omega
 have e : r = ((r.toNat : Nat) : Int) := by omega
 refine ⟨xs[r.toNat], ?_, List.getElem_mem hj⟩
 have q : atI (xs.map V.int) ((r.toNat : Nat) : Int) = some (.int xs[r.toNat]) := atI_nat (by rw [List.getElem?_map, List.getElem?_eq_getElem hj] <;> rfl)
 rw [← e] at q
 exact q
inductive CInts : List Expr → List Int → Prop where
 | nil : CInts [] []
 | cons {n : Int} {j : Nat} {p : Pos} {es : List Expr} {ns : List Int} : CInts es ns → CInts (.Constant (.int n) j p :: es) (n :: ns)
inductive CLists : List Expr → List (List Int) → Prop where
 | nil : CLists [] []
 | cons {fs es : List Expr} {ns : List Int} {nss : List (List Int)} {p : Pos} : CInts fs ns → CLists es nss → CLists (.List fs p :: es) (ns :: nss)
section
variable {X : Cx}
end
end L2
namespace L2
open PySem PySem.Spec PyProof.Rows
theorem inV_int (x : Int) : ∀ xs : List Int, inV (.int x) (xs.map V.int) = xs.contains x
 | [] => rfl
 | y :: r => by
  have ih := inV_int x r
  unfold inV at ih ⊢
  rw [List.map_cons, List.any_cons, ih, List.contains_cons]
  have e : eqV (.int y) (.int x) = (x == y) := by
   show (y == x) = (x == y)
   exact Bool.eq_iff_iff.mpr ⟨fun h => beq_iff_eq.mpr (beq_iff_eq.mp h).symm, fun h => beq_iff_eq.mpr (beq_iff_eq.mp h).symm⟩
  rw [e]
theorem flat_ints : ∀ xs : List Int, (xs.map V.int).all flatV = true
 | [] => rfl
 | _ :: r => by rw [List.map_cons, List.all_cons, flat_ints r]; rfl
section
variable {X : Cx} (K : PySem.W.Frag)
def rInI (K : PySem.W.Frag) (neg : Bool) : R2 := fun x y H Q => ∃ (p : Addr) (i : Int) (xs : List Int), x = .int i ∧ y = .ref p ∧ SqL K H p (xs.map V.int) ∧ Q (.bl (if neg then !xs.contains i else xs.contains i)) H
theorem op_inI (h : X.K = K := by rfl) : OpR X (compareOp .In) (rInI K false) := by
 intro pins s σ H x y v u Q I rx ry ⟨p, i, xs, e1, e2, hs, q⟩
 subst e1 e2
 refine op_in_seq pins s σ H _ _ v u Q I rx ry ⟨p, xs.map V.int, rfl, .inl (h ▸ hs), rfl, flat_ints xs, ?_⟩
 rw [inV_int]
 exact q
theorem op_notInI (h : X.K = K := by rfl) : OpR X (compareOp .NotIn) (rInI K true) := by
 intro pins s σ H x y v u Q I rx ry ⟨p, i, xs, e1, e2, hs, q⟩
 subst e1 e2
 refine op_notIn_seq pins s σ H _ _ v u Q I rx ry ⟨p, xs.map V.int, rfl, .inl (h ▸ hs), rfl, flat_ints xs, ?_⟩
 rw [inV_int]
 exact q
end
end L2
namespace L2
open PySem PySem.Spec PyProof.Rows
def Ite (a : Addr) : It :=
 ⟨fun i H => ∃ xs x, H a = some (.lst xs) ∧ xs[i]? = some x, fun i H x H' => ∃ T xs y, H T = none ∧ H a = some (.lst xs) ∧ xs[i]? = some y ∧ x = .ref T ∧ H' = upd H T (.tup [.int i, y]), fun i H => ∃ xs, H a = some (.lst xs) ∧ xs.length ≤ i⟩
theorem turns_any {J : It} {n : Nat} {g : TG} {tc : TT} {te : TE} {D : Addr} {Q : Hp → Prop} {σ0 : St} {H0 : Hp} (W : Nat → St → Hp → Prop) (h0 : W 0 σ0 H0)
  (step : ∀ i σ H, i < n → W i σ H → J.go i H ∧ ∀ x H', J.yld i H x H' → g x σ H' fun σ2 H2 => tc σ2 H2 fun b H3 =>
   if b = true then te σ2 H3 fun v H4 => ∃ zs, H4 D = some (.lst zs) ∧ zs.length < sizeLine ∧ W (i + 1) σ2 (upd H4 D (.lst (zs ++ [v]))) else W (i + 1) σ2 H3)
  (stop : ∀ σ H, W n σ H → J.stop n H ∧ Q H) : tTurns J g tc te D Q σ0 H0 := by
 refine ⟨fun i m σ H => m = n - i ∧ i ≤ n ∧ W i σ H, ⟨n, rfl, Nat.zero_le _, h0⟩, ?_⟩
 rintro i m σ H ⟨rfl, hi, w⟩
 by_cases hlt : i < n
 ·obtain ⟨hg, hy⟩ := step i σ H hlt w
  exact .inr ⟨hg, W (i + 1), fun σ' H' w' => ⟨n - (i + 1), by omega, rfl, hlt, w'⟩, hy⟩
 ·have e : i = n := by omega
  subst e
  exact .inl (stop σ H w)
theorem turns_enum {K : PySem.W.Frag} {a : Addr} {xs : List V} {tc : TT} {te : TE} {D : Addr} {Q : Hp → Prop} {σ : St} {H1 : Hp} (c : Nat → Bool) (v : Nat → V) (hS : H1 a = some (.lst xs)) (hD : H1 D = none) (hn : xs.length ≤ 1000)
  (ht : ∀ i H', i < xs.length → Same H1 H' → Tells tc (some (.int (i : Int)) :: some (xs.getD i .non) :: σ) H' (c i)) (he : ∀ i H', i < xs.length → c i = true → Same H1 H' → Gives te (some (.int (i : Int)) :: some (xs.getD i .non) :: σ) H' (v i))
  (hq : ∀ H', Same H1 H' → H' D = some (.lst (((List.range xs.length).filter c).map v)) → Q H') : tTurns (Ite a) (gTup K 2 (gCons (gName 0) (gCons (gName 1) gNil))) tc te D Q (none :: none :: σ) (upd H1 D (.lst [])) := by
 refine turns_any (n := xs.length) (fun i σ' H' => ∃ x y, σ' = x :: y :: σ ∧ Same H1 H' ∧ H' D = some (.lst (((List.range i).filter c).map v))) ⟨none, none, rfl, Same.new hD _, upd_same⟩ ?_ ?_
 ·rintro i σ' H' hi ⟨x, y, rfl, g, hl⟩
  refine ⟨⟨xs, xs[i], g _ _ hS, List.getElem?_eq_getElem hi⟩, fun z H2 hz => ?_⟩
  obtain ⟨T, ys, u, hT, hy, hu, rfl, rfl⟩ := hz
  rw [g _ _ hS] at hy
  cases hy
  have eu : xs.getD i .non = u := by rw [List.getD_eq_getElem?_getD, hu]; rfl
  have g2 : Same H1 (upd H' T (.tup [.int (i : Int), u])) := fun b o hb => by
   have h1 := g _ _ hb
   rw [upd_ne (ne_of_none h1 hT)]; exact h1
  have hl2 : (upd H' T (.tup [.int (i : Int), u])) D = some (.lst (((List.range i).filter c).map v)) := by rw [upd_ne (ne_of_none hl hT)]; exact hl
  refine ⟨T, _, rfl, SqT.of upd_same, rfl, _, _, rfl, _, _, rfl, rfl, ?_⟩
  show tc (some (.int (i : Int)) :: some u :: σ) _ _
  rw [← eu] at g2 hl2 ⊢
  generalize upd H' T (.tup [.int (i : Int), xs.getD i .non]) = H3 at g2 hl2 ⊢
  refine ht i H3 hi g2 _ fun H4 g4 => ?_
  have hr : (List.range (i + 1)).filter c = (List.range i).filter c ++ (if c i = true then [i] else []) := by
   rw [List.range_succ, List.filter_append, List.filter_cons, List.filter_nil]
  refine ite2 (fun hc => ?_) (fun hc => ?_)
  ·refine he i H4 hi hc (g2.trans g4) _ fun H5 g5 => ?_
   have l5 := g5 _ _ (g4 _ _ hl2)
   refine ⟨_, l5, ?_, _, _, rfl, fun b o hb => ?_, ?_⟩
   ·rw [List.length_map]
    have := List.length_filter_le c (List.range i)
    rw [List.length_range] at this
    exact small1000 (by omega)
   ·have hne : b ≠ D := fun e => by rw [e, hD] at hb; cases hb
    rw [upd_ne hne]
    exact g5 _ _ (g4 _ _ (g2 _ _ hb))
   ·rw [upd_same, hr, if_pos hc, List.map_append]
    rfl
  ·refine ⟨_, _, rfl, g2.trans g4, ?_⟩
   rw [hr, if_neg hc, List.append_nil]
   exact g4 _ _ hl2
 ·rintro σ' H' ⟨x, y, rfl, g, hl⟩
  exact ⟨⟨xs, g _ _ hS, Nat.le_refl _⟩, hq H' g hl⟩
theorem fltT {α : Type} (l : List α) : l.filter (fun _ => true) = l := List.filter_eq_self.mpr fun _ _ => rfl
theorem rgD {α : Type} (xs : List α) (d : α) : (List.range xs.length).map (fun i => xs.getD i d) = xs := by
 have h := range_getD_filter (fun _ : α => true) d xs
 rw [fltT, fltT] at h
 exact h
def slotN (i : Nat) (σ : St) : Nat := match σ[i]? with
 | some (some (.int v)) => v.toNat
 | _ => 0
theorem small2000 {n : Nat} (h : n ≤ 2000) : n < sizeLine := by rw [sizeLine_eq]; omega
section
variable {X : Cx} {pins : List (Addr × Obj)} {σ : St} {H : Hp} {s : Shared}
theorem Inv.turnedL {h' : Heap} {t' : Nat} {fp : List Addr} (I : Inv X pins σ H s) (k : ∀ b o, b ∉ fp → s.heap.get? b = some o → h'.get? b = some o) (hf : ∀ b ∈ fp, FpOk X pins H b) : Inv X pins σ H { s with heap := h', toks := t' } := by
 have nit : ∀ b u, H b = some u → b ∉ fp := fun b u e z => by rw [(hf b z).1] at e; cases e
 refine I.step (g' := s.gens) (d' := s.drawn) (ch := fp) (fun b hb => ?_) (fun b o _ _ hc e _ => k b o hc e) (fun b o _ _ hc e _ => ⟨o.slots, k b o hc e⟩) (fun _ _ _ _ n => n)
  (fun b o hc e => ⟨o, k b o hc e⟩) (fun _ _ e => e) (fun _ _ _ e => e) (fun b ps e => ⟨#[], by rw [e]; simp⟩) (fun m hm => ?_) (fun b u e => ?_) I.bare
 ·obtain ⟨_, f1, _, f3, f4, f5⟩ := hf b hb
  exact ⟨f3, f1, f4, f5⟩
 ·obtain ⟨o, es, ep, ho, r⟩ := hm
  exact ⟨o, es, ep, k _ o (fun z => (hf _ z).2.1 rfl) ho, r⟩
 ·refine (I.hok b u e).stay (fun c v hc q => k c v ?_ q) (fun _ q => q) fun _ _ q => q
  rcases hc with z | z
  ·rw [z]; exact nit b u e
  ·exact nit c _ z
end
theorem turn_enum {P : Program} {w : World} {K : PySem.W.Frag} {es : List Expr} {k : Nat} {pos : Pos} (a e it : Addr) (hei : e ≠ it) :
  Turn P w K (.Tuple es k pos) (Ite a) [e, it] e (fun i h => (∃ old, IsEnum h e it ((i : Nat) : Int) old) ∧ h.IsListIter it a i) where
 mem := by simp
 obj := fun i h st b hb => by
  obtain ⟨⟨old, he⟩, o, e1, c, d⟩ := st
  rcases List.mem_cons.mp hb with z | z
  ·subst z
   exact ⟨_, he, fun v z => by cases z⟩
  ·have z : b = it := by simpa using z
   subst z
   exact ⟨o, e1, fun v z => by rw [d] at z; cases z⟩
 keep := fun i h h' st k => ⟨let ⟨old, he⟩ := st.1; ⟨old, k e (by simp) _ he⟩, st.2.at fun o e => k it (by simp) o e⟩
 item := by
  intro X hP hw hK hc i pins s σ H E I hf st hg
  subst hP hw hK
  obtain ⟨xs, x, hq, hx⟩ := hg
  obtain ⟨hz, its, n, r, hl, ea⟩ := I.lstM hq
  obtain ⟨u, hu, ru⟩ := r.get hx
  obtain ⟨⟨old, he⟩, hit⟩ := st
  have hL : s.heap.IsList a its.toArray := ⟨_, ea, rfl, n, rfl⟩
  have helt : e < s.heap.objs.size := Heap.lt_size he
  have hilt : it < s.heap.objs.size := by obtain ⟨_, x, _⟩ := id hit; exact Heap.lt_size x
  have hun : ∀ b ∈ [e, it], b < s.heap.objs.size := fun b hb => by
   rcases List.mem_cons.mp hb with z | z
   ·rw [z]; exact helt
   ·rw [show b = it by simpa using z]; exact hilt
  refine wpAny_pyNext_enum_item he hit hL (x := u) (by simpa using hu) hei fun h' ho hit' hT hsz hk => ?_
  refine ⟨_, rfl, wpAny_letOwnedTupleGo_enum ho fun h2 he2 hs2 => ?_⟩
  replace hs2 : Heap.SameBut e h' h2 := hs2
  have I1 : Inv X pins σ (upd H s.heap.objs.size (.tup [.int i, x])) { s with heap := s.heap.push { cls := .type "tuple", data := .seq #[.int i s.toks, u] }, toks := s.toks + 1 } :=
   I.laid (fun b o q => Heap.get?_push_of_some _ q) (Nat.le_refl _) ⟨by show 2 ≤ sizeLine; decide, [.int i s.toks, u], .cons ⟨_, rfl⟩ (.cons ru .nil), ⟨_, Heap.get?_push_size _ rfl, rfl, _, rfl⟩⟩
  have frs : ∀ b ∈ [e, it], upd H s.heap.objs.size (.tup [.int i, x]) b = none := fun b hb => by
   rw [upd_ne (Nat.ne_of_lt (hun b hb))]; exact (hf b hb).1
  have I2 : Inv X pins σ (upd H s.heap.objs.size (.tup [.int i, x])) { s with heap := h2, toks := s.toks + 1 } := by
   refine Inv.turnedL (s := { s with heap := s.heap.push { cls := .type "tuple", data := .seq #[.int i s.toks, u] }, toks := s.toks + 1 }) (h' := h2) (t' := s.toks + 1) (fp := [e, it]) I1 (fun b o hb q => ?_) (fun b hb => ⟨frs b hb, (hf b hb).2⟩)
   have n1 : b ≠ e := fun z => hb (by simp [z])
   have n2 : b ≠ it := fun z => hb (by simp [z])
   refine (hs2.2 b n1).trans ?_
   rcases Heap.get?_push_cases q with ⟨eb, eo⟩ | q
   ·rw [eb, eo]; exact hT
   ·exact hk b o n1 n2 q
  refine ⟨.ref s.heap.objs.size, _, I2, rfl, ⟨_, xs, x, I.fresh, hq, hx, rfl, rfl⟩, ⟨⟨u, ?_⟩, ?_⟩, frs⟩
  ·have e1 : (((i + 1 : Nat)) : Int) = (i : Int) + 1 := by simp
   rw [e1]; exact he2
  ·exact hit'.at fun o y => (hs2.2 it hei.symm).trans y
 done := by
  intro X hP hw hK hc i pins s σ H E I hf st hg
  subst hP hw hK
  obtain ⟨xs, hq, hx⟩ := hg
  obtain ⟨hz, its, n, r, hl, ea⟩ := I.lstM hq
  obtain ⟨⟨old, he⟩, hit⟩ := st
  have hL : s.heap.IsList a its.toArray := ⟨_, ea, rfl, n, rfl⟩
  exact wpAny_pyNext_enum_end (I.ok.hd hc) he hit hL (by simp; omega) fun h' eb => ⟨rfl, I.turnedL (t' := s.toks) (fp := [e, it]) (fun b o hb q => eb b o (fun z => hb (by simp [z])) q) hf⟩
 self := fun _ _ _ _ _ st h => let ⟨_, he⟩ := st.1; wpAny_pyIter_enum he h
section
variable {X : Cx}
def iEnum (ta : TA) : TI := fun σ H R => ta σ H fun vs H1 => ∃ a xs, vs = [.ref a] ∧ H1 a = some (.lst xs) ∧ R (Ite a) H1
theorem pg_tupK (K : PySem.W.Frag) {es : List Expr} {k : Nat} {t : TGs} {n : Nat} {pos : Pos} (hc : X.calm = true) (h : PGs X es t) (hK : X.K = K := by rfl)
  (hn : (assignEach es X.env).length = n := by rfl) (hst : (assignEach es X.env).findIdx? (·.1) = none := by rfl) : PG X (.Tuple es k pos) (gTup K n t) := hK ▸ pg_tup hc h hn hst
theorem boot_enumerate : bootBuiltins "enumerate" = some (.type "enumerate") := by decide +kernel
theorem pi_enum {es : List Expr} {k : Nat} {tp : Pos} {a : Expr} {ta : TA} {p pos : Pos} (hg : Gl X "enumerate") (hm : X.mg "enumerate" = none) (ha : PA X [a] ta) (hs : starEach [a] X.env = [(false, eval a X.env)] := by rfl) :
  PI X (.Tuple es k tp) (.Call (.Name "enumerate" p) [a] [] pos) (iEnum ta) := by
 intro pins s σ H R I h
 refine wpAny_Call_Name_kw (ld_blt I hg hm boot_enumerate ?_ (by decide) (by decide))
 refine PyProof.Rows.callWith_type1 (thn (ha pos pins s σ H _ I h) fun us s1 ⟨vs, H1, I1, r1, q1⟩ => ?_) hs rfl
 obtain ⟨a, xs, e, hq, q⟩ := q1
 subst e
 obtain ⟨u, rfl, ru⟩ := r1.one
 cases ru
 obtain ⟨hz, its, n, r, hl, ea⟩ := I1.lstM hq
 refine call_enumerate_1 ea fun h' he hit hsz hk => ?_
 refine wpAny_pyIter_enum he ?_
 have I2 : Inv X pins σ H1 { s1 with heap := h' } := I1.kept (t' := s1.toks) hk
 refine ⟨s1.heap.objs.size + 1, [s1.heap.objs.size + 1, s1.heap.objs.size], _, _, H1, rfl, I2, turn_enum a _ _ (Nat.succ_ne_self _), ⟨⟨_, he⟩, hit⟩, fun b hb => ?_, q⟩
 rcases List.mem_cons.mp hb with z | z
 ·subst z; exact I1.fpOk (Nat.le_succ _) (I1.hok.fresh (Nat.le_succ _))
 ·have z : b = s1.heap.objs.size := by simpa using z
  subst z; exact I1.fpOk (Nat.le_refl _) (I1.hok.fresh (Nat.le_refl _))
theorem pt_valI {e : Expr} {t : TE} (h : PE X e t) (he : ∀ whole, isTrue e X.env whole = (do let v ← whole; standAt e.pos; holding [v] (truthy v)) := by intro _; rfl) : PT X e (fun σ H Q => t σ H fun x H1 => ∃ i, x = .int i ∧ Q (i != 0) H1) := by
 intro pins s σ H Q I hw
 refine isTrue_plain (thn (h pins s σ H _ I hw) fun v s1 ⟨x, H1, I1, r1, i, ex, q⟩ => ?_) (he _)
 subst ex
 obtain ⟨tk, rfl⟩ := r1
 exact PySem.P.truthy_int ⟨H1, I1, q⟩
end
structure Base (K : PySem.W.Frag) (C : Addr) (mc : Value) (m : Str) (f : Addr) : Prop where
 ga : PySem.W.specialIn K (.ref C) "__getattribute__" = some (some (.builtin "type.__getattribute__"))
 rd : PySem.W.readsIn K C mc = true
 at_ : PySem.W.findCls K (.ref C) mc m = some (.val (.ref f))
 kp : PySem.W.keepIn K (.ref f) = true
section
variable {X : Cx} {CX : CXT} {k : Nat} {f C : Addr} {mc : Value} {fd : FuncData} {ps : List Str} {sp : Sp} {dvs : List V} {ds : List Value} {E : XK} {x m : Str} {p pos apos : Pos} {e : Expr} {es : List Expr} {t : TA}
theorem pe_base {pl : Sem Bool} (B : Base X.K C mc m f) (F : FnOk X.prog X.w X.K X.mg X.base CX k f fd ps sp) (hr : Room k X.A) (hg : Gl X x) (hm : X.mg x = some (.ref C)) (hb : Binds X.K fd ps ds) (hd : Vals dvs ds) (hx : Passes CX X E) (ha : PA X (e :: es) t)
  (hdb : (x == ("__debug__" : Str)) = false := by decide) (hst : starEach (e :: es) X.env = (false, eval e X.env) :: starEach es X.env := by rfl) (hpl : (backTo pos (starEach es X.env)).any (·.1) = false := by rfl)
  (ht : eval (.Call (.Attribute (.Name x p) m apos) (e :: es) [] pos) X.env = (do
   let ov ← eval (.Name x p) X.env
   standAt apos.atName
   let (f, first) ← holding [ov] (getMethod ov m pl)
   callWith pos f first (backTo pos (starEach (e :: es) X.env)) (backToKw pos (keywordEach [] X.env))) := by rfl) :
  PE X (.Call (.Attribute (.Name x p) m apos) (e :: es) [] pos) (tCall sp dvs E t) := by
 intro pins s σ H Q I h
 refine PySem.W.methodCall_KW (pl := pl) (thn (pe_glob (v := .ref C) (pos := p) hg hm rfl hdb pins s σ H (fun v H1 => v = .ref C ∧ H1 = H) I ⟨rfl, rfl⟩) fun u s1 ⟨x, H1, I1, rx, ex, eH⟩ => ?_) ht
 subst ex eH
 obtain rfl : u = Value.ref C := rx
 refine PySem.W.method_cls I1.kIn B.ga (PySem.W.cls_value I1.kIn B.rd B.at_ rfl ?_)
 have I2 : Inv X pins σ H1 { s1 with toks := s1.toks + 1 } := I1.tok _
 refine PySem.W.callWith_K (first := []) (h₀ := X.base) I2.ok.mod.kin B.kp (thn (ha pos pins _ σ H1 _ I2 h) fun us s2 ⟨vs, H2, I3, r, q2⟩ => ⟨I3.kIn, ?_⟩) hst hpl
 exact run_fn F hr hb hd hx I3 r q2
end
end L2
namespace L2
open PySem PySem.Spec PyProof.Rows
section
variable {X : Cx}
theorem call_sumL (hcalm : X.calm = true) : CallR X (.builtin "sum") (fun vs H Q => ∃ (p : Addr) (ns : List Int), vs = [.ref p] ∧ H p = some (.lst (ns.map V.int)) ∧ Q (.int ns.sum) H) := by
 intro pins s σ H xs us Q I r h
 obtain ⟨p, ns, rfl, hq, q⟩ := h
 obtain ⟨u, rfl, ru⟩ := r.one
 cases ru
 obtain ⟨its, rv, pl, hz⟩ := I.list (SqL.of hq)
 have hi := vals_intsAre rv
 obtain ⟨ws, e⟩ := hi.allInts.items
 have hns : ns = ws.toList.map (·.1) := by rw [← hi.numsOf, ← nums_intItems, ← e]
 refine sum_intListG (I.ok.hd hcalm) (l := p) (xs := ws) (e ▸ pl.isList) fun h' tk t' hk => ⟨.int _, H, I.kept hk, ⟨t', rfl⟩, ?_⟩
 have es : preSum (numAt ws) ws.size = ns.sum := by rw [hns, preSum_eq, List.take_of_length_le (by simp)]
 rw [es]
 exact q
end
def Itz (a b : Addr) : It :=
  ⟨fun i H => ∃ xs ys x y, H a = some (.lst xs) ∧ H b = some (.lst ys) ∧ xs[i]? = some x ∧ ys[i]? = some y,
   fun i H v H' => ∃ T xs ys x y, H T = none ∧ H a = some (.lst xs) ∧ H b = some (.lst ys) ∧ xs[i]? = some x ∧ ys[i]? = some y ∧ v = .ref T ∧ H' = upd H T (.tup [x, y]),
   fun i H => ∃ xs ys, H a = some (.lst xs) ∧ H b = some (.lst ys) ∧ (xs.length ≤ i ∨ ys.length ≤ i)⟩
theorem turn_zip {P : Program} {w : World} {K : PySem.W.Frag} {es : List Expr} {k : Nat} {pos : Pos} {a b z TI TO i1 i2 : Addr} (D : ZipApart z TI TO i1 i2 a b) :
  Turn P w K (.Tuple es k pos) (Itz a b) [z, TI, TO, i1, i2] z (fun i h => IsZip h z TI TO .none ∧ IsPair h TI (.ref i1) (.ref i2) ∧ (∃ u v, IsPair h TO u v) ∧ h.IsListIter i1 a i ∧ h.IsListIter i2 b i) where
 mem := by simp
 obj := fun i h st c hc => by
  obtain ⟨hz, hTI, ⟨u, v, hTO⟩, h1, h2⟩ := st
  simp only [List.mem_cons, List.not_mem_nil, or_false] at hc
  rcases hc with rfl | rfl | rfl | rfl | rfl
  ·exact ⟨_, hz, fun v z => by cases z⟩
  ·exact ⟨_, hTI, fun v z => by cases z⟩
  ·exact ⟨_, hTO, fun v z => by cases z⟩
  ·obtain ⟨o, e1, c, d⟩ := h1
   exact ⟨o, e1, fun v z => by rw [d] at z; cases z⟩
  ·obtain ⟨o, e1, c, d⟩ := h2
   exact ⟨o, e1, fun v z => by rw [d] at z; cases z⟩
 keep := fun i h h' st k => by
  obtain ⟨hz, hTI, ⟨u, v, hTO⟩, h1, h2⟩ := st
  exact ⟨k z (by simp) _ hz, k TI (by simp) _ hTI, ⟨u, v, k TO (by simp) _ hTO⟩, h1.at fun o e => k i1 (by simp) o e, h2.at fun o e => k i2 (by simp) o e⟩
 item := by
  intro X hP hw hK hc i pins s σ H E I hf st hg
  subst hP hw hK
  obtain ⟨xs, ys, x, y, hqa, hqb, hx, hy⟩ := hg
  obtain ⟨_, its1, n1, r1, hl1, ea⟩ := I.lstM hqa
  obtain ⟨_, its2, n2, r2, hl2, eb⟩ := I.lstM hqb
  obtain ⟨u1, hu1, ru1⟩ := r1.get hx
  obtain ⟨u2, hu2, ru2⟩ := r2.get hy
  obtain ⟨hz, hTI, ⟨p, q, hTO⟩, h1, h2⟩ := st
  have hA : s.heap.IsList a its1.toArray := ⟨_, ea, rfl, n1, rfl⟩
  have hB : s.heap.IsList b its2.toArray := ⟨_, eb, rfl, n2, rfl⟩
  have lt : ∀ c ∈ [z, TI, TO, i1, i2], c < s.heap.objs.size := fun c hc => by
   simp only [List.mem_cons, List.not_mem_nil, or_false] at hc
   rcases hc with rfl | rfl | rfl | rfl | rfl
   ·exact Heap.lt_size hz
   ·exact Heap.lt_size hTI
   ·exact Heap.lt_size hTO
   ·obtain ⟨_, e, _⟩ := h1; exact Heap.lt_size e
   ·obtain ⟨_, e, _⟩ := h2; exact Heap.lt_size e
  refine wpAny_pyNext_zip_item D hz hTI hTO h1 h2 hA hB (x := u1) (y := u2) (by simpa using hu1) (by simpa using hu2) fun h' a1 a2 a3 a4 a5 a6 hk => ?_
  refine ⟨_, rfl, wpAny_letOwnedTupleGo_zip a1 fun h2' hz2 hs2 => ?_⟩
  replace hs2 : Heap.SameBut z h' h2' := hs2
  have I1 : Inv X pins σ (upd H s.heap.objs.size (.tup [x, y])) { s with heap := s.heap.push { cls := .type "tuple", data := .seq #[u1, u2] }, toks := s.toks } :=
   I.laid (fun b o q => Heap.get?_push_of_some _ q) (Nat.le_refl _) ⟨by show 2 ≤ sizeLine; decide, [u1, u2], .cons ru1 (.cons ru2 .nil), ⟨_, Heap.get?_push_size _ rfl, rfl, _, rfl⟩⟩
  have frs : ∀ c ∈ [z, TI, TO, i1, i2], upd H s.heap.objs.size (.tup [x, y]) c = none := fun c hc => by
   rw [upd_ne (Nat.ne_of_lt (lt c hc))]; exact (hf c hc).1
  have I2 : Inv X pins σ (upd H s.heap.objs.size (.tup [x, y])) { s with heap := h2', toks := s.toks } := by
   refine Inv.turnedL (s := { s with heap := s.heap.push { cls := .type "tuple", data := .seq #[u1, u2] }, toks := s.toks }) (h' := h2') (t' := s.toks) (fp := [z, TI, TO, i1, i2]) I1 (fun c o hc q => ?_) (fun c hc => ⟨frs c hc, (hf c hc).2⟩)
   have n1 : c ≠ z := fun e => hc (by simp [e])
   refine (hs2.2 c n1).trans ?_
   rcases Heap.get?_push_cases q with ⟨ec, eo⟩ | q
   ·rw [ec, eo]; exact a5
   ·exact hk c o n1 (fun e => hc (by simp [e])) (fun e => hc (by simp [e])) (fun e => hc (by simp [e])) q
  refine ⟨.ref s.heap.objs.size, _, I2, rfl, ⟨_, xs, ys, x, y, I.fresh, hqa, hqb, hx, hy, rfl, rfl⟩, ⟨hz2, ?_, ⟨_, _, hs2.extBut _ _ D.TOz a2⟩, a3.extBut hs2.extBut D.i1z, a4.extBut hs2.extBut D.i2z⟩, frs⟩
  exact hs2.extBut _ _ D.TIz (hk _ _ D.TIz D.TITO D.TIi1 D.TIi2 hTI)
 done := by
  intro X hP hw hK hc i pins s σ H E I hf st hg
  subst hP hw hK
  obtain ⟨xs, ys, hqa, hqb, hend⟩ := hg
  obtain ⟨_, its1, n1, r1, hl1, ea⟩ := I.lstM hqa
  obtain ⟨_, its2, n2, r2, hl2, eb⟩ := I.lstM hqb
  obtain ⟨hz, hTI, ⟨p, q, hTO⟩, h1, h2⟩ := st
  have hA : s.heap.IsList a its1.toArray := ⟨_, ea, rfl, n1, rfl⟩
  have hB : s.heap.IsList b its2.toArray := ⟨_, eb, rfl, n2, rfl⟩
  have he : its1.toArray[i]? = none ∨ its2.toArray[i]? = none := by
   rcases hend with z | z
   ·exact .inl (by simp; omega)
   ·exact .inr (by simp; omega)
  exact wpAny_pyNext_zip_end (I.ok.hd hc) D hz hTI hTO h1 h2 hA hB he fun h' hk => ⟨rfl, I.turnedL (t' := s.toks) (fp := [z, TI, TO, i1, i2]) (fun c o hc q => hk c o (fun e => hc (by simp [e])) (fun e => hc (by simp [e])) (fun e => hc (by simp [e])) (fun e => hc (by simp [e])) q) hf⟩
 self := fun _ _ _ _ _ st h => wpAny_pyIter_zip st.1 h
section
variable {X : Cx}
def iZip (ta : TA) : TI := fun σ H R => ta σ H fun vs H1 => ∃ a b xs ys, vs = [.ref a, .ref b] ∧ H1 a = some (.lst xs) ∧ H1 b = some (.lst ys) ∧ R (Itz a b) H1
theorem pi_zip {es : List Expr} {k : Nat} {tp : Pos} {a b : Expr} {ta : TA} {p pos : Pos} (hg : Gl X "zip") (hm : X.mg "zip" = none) (ha : PA X [a, b] ta) (hs : starEach [a, b] X.env = (false, eval a X.env) :: starEach [b] X.env := by rfl) (hpl : (backTo pos (starEach [b] X.env)).any (·.1) = false := by rfl) :
  PI X (.Tuple es k tp) (.Call (.Name "zip" p) [a, b] [] pos) (iZip ta) := by
 intro pins s σ H R I h
 refine wpAny_Call_Name_kw (ld_blt I hg hm boot_zip ?_ (by decide) (by decide))
 refine PyProof.Rows.callWith_type1 (thn (ha pos pins s σ H _ I h) fun us s1 ⟨vs, H1, I1, r1, q1⟩ => ?_) hs hpl
 obtain ⟨a, b, xs, ys, e, hqa, hqb, q⟩ := q1
 subst e
 obtain ⟨u1, u2, rfl, ru1, ru2⟩ : ∃ u1 u2, us = [u1, u2] ∧ RelV (.ref a) u1 ∧ RelV (.ref b) u2 := by
  cases r1 with
  | cons x1 t1 =>
   cases t1 with
   | cons x2 t2 =>
    cases t2
    exact ⟨_, _, rfl, x1, x2⟩
 cases ru1
 cases ru2
 obtain ⟨_, its1, n1, rv1, hl1, ea⟩ := I1.lstM hqa
 obtain ⟨_, its2, n2, rv2, hl2, eb⟩ := I1.lstM hqb
 refine call_zip_2 (xs := its1.toArray) (ys := its2.toArray) ⟨_, ea, rfl, n1, rfl⟩ ⟨_, eb, rfl, n2, rfl⟩ fun h' hz hTI hTO hi1 hi2 hsz hk => ?_
 refine wpAny_pyIter_zip hz ?_
 have I2 : Inv X pins σ H1 { s1 with heap := h' } := I1.kept (t' := s1.toks) hk
 refine ⟨s1.heap.objs.size + 4, [s1.heap.objs.size + 4, s1.heap.objs.size + 2, s1.heap.objs.size + 3, s1.heap.objs.size, s1.heap.objs.size + 1], _, _, H1, rfl, I2, turn_zip (zipApart_new (Heap.lt_size ea) (Heap.lt_size eb)), ⟨hz, hTI, ⟨_, _, hTO⟩, hi1, hi2⟩, fun c hc => ?_, q⟩
 have hge : s1.heap.objs.size ≤ c := by
  simp only [List.mem_cons, List.not_mem_nil, or_false] at hc
  rcases hc with rfl | rfl | rfl | rfl | rfl <;> omega
 exact I1.fpOk hge (I1.hok.fresh hge)
end
theorem turns_zip {K : PySem.W.Frag} {a b : Addr} {xs ys : List V} {tc : TT} {te : TE} {D : Addr} {Q : Hp → Prop} {σ : St} {H1 : Hp} {n : Nat} (c : Nat → Bool) (v : Nat → V) (hA : H1 a = some (.lst xs)) (hB : H1 b = some (.lst ys)) (hmin : n = min xs.length ys.length) (hD : H1 D = none) (hn : n ≤ 1000)
  (ht : ∀ i H', i < n → Same H1 H' → Tells tc (some (xs.getD i .non) :: some (ys.getD i .non) :: σ) H' (c i)) (he : ∀ i H', i < n → c i = true → Same H1 H' → Gives te (some (xs.getD i .non) :: some (ys.getD i .non) :: σ) H' (v i))
  (hq : ∀ H', Same H1 H' → H' D = some (.lst (((List.range n).filter c).map v)) → Q H') : tTurns (Itz a b) (gTup K 2 (gCons (gName 0) (gCons (gName 1) gNil))) tc te D Q (none :: none :: σ) (upd H1 D (.lst [])) := by
 refine turns_any (n := n) (fun i σ' H' => ∃ x y, σ' = x :: y :: σ ∧ Same H1 H' ∧ H' D = some (.lst (((List.range i).filter c).map v))) ⟨none, none, rfl, Same.new hD _, upd_same⟩ ?_ ?_
 ·rintro i σ' H' hi ⟨x, y, rfl, g, hl⟩
  have hix : i < xs.length := by omega
  have hiy : i < ys.length := by omega
  refine ⟨⟨xs, ys, xs[i], ys[i], g _ _ hA, g _ _ hB, List.getElem?_eq_getElem hix, List.getElem?_eq_getElem hiy⟩, fun z H2 hz => ?_⟩
  obtain ⟨T, xs', ys', u, u', hT, hxs, hys, hu, hu', rfl, rfl⟩ := hz
  rw [g _ _ hA] at hxs
  rw [g _ _ hB] at hys
  cases hxs
  cases hys
  have eu : u = xs.getD i .non := by rw [List.getD_eq_getElem?_getD, hu]; rfl
  have eu' : u' = ys.getD i .non := by rw [List.getD_eq_getElem?_getD, hu']; rfl
  subst eu eu'
  have g2 : Same H1 (upd H' T (.tup [xs.getD i .non, ys.getD i .non])) := fun b o hb => by
   have h1 := g _ _ hb
   rw [upd_ne (ne_of_none h1 hT)]; exact h1
  have hl2 : (upd H' T (.tup [xs.getD i .non, ys.getD i .non])) D = some (.lst (((List.range i).filter c).map v)) := by rw [upd_ne (ne_of_none hl hT)]; exact hl
  refine ⟨T, _, rfl, SqT.of upd_same, rfl, _, _, rfl, _, _, rfl, rfl, ?_⟩
  show tc (some (xs.getD i .non) :: some (ys.getD i .non) :: σ) _ _
  generalize upd H' T (.tup [xs.getD i .non, ys.getD i .non]) = H3 at g2 hl2 ⊢
  refine ht i H3 hi g2 _ fun H4 g4 => ?_
  have hr : (List.range (i + 1)).filter c = (List.range i).filter c ++ (if c i = true then [i] else []) := by
   rw [List.range_succ, List.filter_append, List.filter_cons, List.filter_nil]
  refine ite2 (fun hc => ?_) (fun hc => ?_)
  ·refine he i H4 hi hc (g2.trans g4) _ fun H5 g5 => ?_
   have l5 := g5 _ _ (g4 _ _ hl2)
   refine ⟨_, l5, ?_, _, _, rfl, fun b o hb => ?_, ?_⟩
   ·rw [List.length_map]
    have := List.length_filter_le c (List.range i)
    rw [List.length_range] at this
    exact small1000 (by omega)
   ·have hne : b ≠ D := fun e => by rw [e, hD] at hb; cases hb
    rw [upd_ne hne]
    exact g5 _ _ (g4 _ _ (g2 _ _ hb))
   ·rw [upd_same, hr, if_pos hc, List.map_append]
    rfl
  ·refine ⟨_, _, rfl, g2.trans g4, ?_⟩
   rw [hr, if_neg hc, List.append_nil]
   exact g4 _ _ hl2
 ·rintro σ' H' ⟨x, y, rfl, g, hl⟩
  exact ⟨⟨xs, ys, g _ _ hA, g _ _ hB, by omega⟩, hq H' g hl⟩
end L2
namespace L2
open PySem PySem.Spec PyProof.Rows
end L2
namespace L2
open PySem PySem.Spec PyProof.Rows
section
variable {X : Cx}
end
end L2
namespace L2
open PySem PySem.Spec PyProof.Rows
mutual
inductive Dat (H : Hp) : V → PyData → Prop
 | non : Dat H .non .none
 | bl (b : Bool) : Dat H (.bl b) (.bool b)
 | int (i : Int) : Dat H (.int i) (.int i)
 | str (x : Str) : Dat H (.str x) (.str x)
 | lst {a : Addr} {xs : List V} {ds : List PyData} : H a = some (.lst xs) → DatAll H xs ds → Dat H (.ref a) (.list ds)
 | tup {a : Addr} {xs : List V} {ds : List PyData} : H a = some (.tup xs) → DatAll H xs ds → Dat H (.ref a) (.tuple ds)
 | dct {a : Addr} : H a = some (.dK []) → Dat H (.ref a) (.dict [])
inductive DatAll (H : Hp) : List V → List PyData → Prop
 | nil : DatAll H [] []
 | cons {x : V} {d : PyData} {xs : List V} {ds : List PyData} : Dat H x d → DatAll H xs ds → DatAll H (x :: xs) (d :: ds)
end
mutual
theorem Dat.same {H H' : Hp} (g : Same H H') : ∀ {x : V} {d : PyData}, Dat H x d → Dat H' x d
 | _, _, .non => .non
 | _, _, .bl b => .bl b
 | _, _, .int i => .int i
 | _, _, .str x => .str x
 | _, _, .lst e h => .lst (g _ _ e) (h.same g)
 | _, _, .tup e h => .tup (g _ _ e) (h.same g)
 | _, _, .dct e => .dct (g _ _ e)
theorem DatAll.same {H H' : Hp} (g : Same H H') : ∀ {xs : List V} {ds : List PyData}, DatAll H xs ds → DatAll H' xs ds
 | _, _, .nil => .nil
 | _, _, .cons h t => .cons (h.same g) (t.same g)
end
theorem DatAll.app {H : Hp} : ∀ {xs ys : List V} {ds es : List PyData}, DatAll H xs ds → DatAll H ys es → DatAll H (xs ++ ys) (ds ++ es)
 | _, _, _, _, .nil, h => h
 | _, _, _, _, .cons a t, h => .cons a (t.app h)
theorem DatAll.ints {H : Hp} : ∀ (ns : List Int), DatAll H (ns.map V.int) (ns.map PyData.int)
 | [] => .nil
 | n :: r => .cons (.int n) (DatAll.ints r)
section
variable {X : Cx} {pins : List (Addr × Obj)} {σ : St} {H : Hp} {s : Shared}
mutual
theorem Dat.reads (I : Inv X pins σ H s) : ∀ {x : V} {d : PyData} {u : Value}, Dat H x d → RelV x u → ∃ as, Reads s.heap u d as
 | _, _, _, .non, r => by cases r; exact ⟨_, .none⟩
 | _, _, _, .bl b, r => by cases r; exact ⟨_, .bool b⟩
 | _, _, _, .int i, r => by obtain ⟨t, rfl⟩ := r; exact ⟨_, .int i t⟩
 | _, _, _, .str x, r => by obtain ⟨t, rfl⟩ := r; exact ⟨_, .str x t⟩
 | _, _, _, .lst (a := a) e h, r => by
  cases r
  obtain ⟨_, its, n, rv, _, eo⟩ := I.lstM e
  obtain ⟨as, q⟩ := h.reads I rv
  exact ⟨_, .list eo rfl rfl (by simpa using q)⟩
 | _, _, _, .tup e h, r => by
  cases r
  obtain ⟨_, its, rv, o, h1, h2, n, h3⟩ := I.hok _ _ e
  obtain ⟨as, q⟩ := h.reads I rv
  exact ⟨_, .tuple h1 h2 h3 (by simpa using q)⟩
 | _, _, _, .dct e, r => by
  cases r
  obtain ⟨z, y, vs, rv, ob, es, ep, h1, h2, h3, _, h5, _⟩ := I.hok _ _ e
  cases rv
  have he : es.toList = [] := by
   cases hh : es.toList with
   | nil => rfl
   | cons x r => rw [hh] at h5; cases h5
  exact ⟨_, .dict (kvs := []) (as := []) (bs := []) h1 h2.1 h3 (by rw [he]; exact .nil) (by rw [he]; exact .nil)⟩
theorem DatAll.reads (I : Inv X pins σ H s) : ∀ {xs : List V} {ds : List PyData} {us : List Value}, DatAll H xs ds → Vals xs us → ∃ as, ReadsAll s.heap us ds as
 | _, _, _, .nil, r => by cases r; exact ⟨_, .nil⟩
 | _, _, _, .cons h t, r => by
  cases r with
  | cons r1 r2 =>
   obtain ⟨as, q1⟩ := h.reads I r1
   obtain ⟨bs, q2⟩ := t.reads I r2
   exact ⟨_, .cons q1 q2⟩
end
def AllFit (ds : List PyData) : Prop := ∀ t ∈ PyData.shownAll ds, t.length ≤ sizeLine
mutual
theorem Dat.rk (I : Inv X pins σ H s) : ∀ {x : V} {d : PyData} {u : Value}, Dat H x d → RelV x u → d.showable = true → d.shown.length ≤ sizeLine → ∃ bs, ReadAtMost s.heap d.depth bs ∧ ReprK X.prog X.w bs s.heap d.depth u d.shown
 | _, _, _, .non, r, _, _ => by
  cases r
  rw [PyData.shown_none]
  exact ⟨[], fun _ h => (nomatch h), ReprK.of_is ReprIs.none _ _ _⟩
 | _, _, _, .bl b, r, _, _ => by
  cases r
  rw [PyData.shown_bool]
  exact ⟨[], fun _ h => (nomatch h), ReprK.of_is (ReprIs.bool b) _ _ _⟩
 | _, _, _, .int i, r, hs, _ => by
  obtain ⟨t, rfl⟩ := r
  rw [PyData.shown_int]
  refine ⟨[], fun _ h => (nomatch h), ReprK.of_is (ReprIs.int t ?_) _ _ _⟩
  simpa [PyData.showable] using hs
 | _, _, _, .str x, r, _, hz => by
  obtain ⟨t, rfl⟩ := r
  rw [PyData.shown_str] at hz ⊢
  exact ⟨[], fun _ h => (nomatch h), ReprK.of_is (ReprIs.str x t hz) _ _ _⟩
 | _, _, _, .lst (a := a) (ds := ds) e h, r, hs, hz => by
  cases r
  obtain ⟨_, its, n, rv, _, eo⟩ := I.lstM e
  obtain ⟨as, q⟩ := h.reads I rv
  have rd : Reads s.heap (.ref a) (.list ds) (a :: as) := .list eo rfl rfl (by simpa using q)
  have hz2 : (listText (PyData.shownAll ds)).length ≤ sizeLine := by
   rw [PyData.shown] at hz
   exact hz
  obtain ⟨bs, hb, hk⟩ := h.rk I rv (by simpa [PyData.showable] using hs) fun t ht => Nat.le_trans (listText_mem_le ht) hz2
  have hlt : PyData.depthAll ds < (PyData.list ds).depth := by simp only [PyData.depth]; omega
  refine ⟨a :: bs, ReadAtMost.cons rd (Nat.le_of_lt hlt) hb, ?_⟩
  have hn := not_mem_of_deeper rd hlt hb
  rw [PyData.depth, PyData.shown]
  cases its with
  | nil =>
   cases q
   rw [PyData.shownAll, listText_nil]
   exact ReprK.listEmpty eo rfl rfl
  | cons y l =>
   refine ReprK.list eo rfl rfl hn ?_ fun i z ez => hk.item i z ?_
   ·have := hk.length_eq
    simpa using this
   ·simpa using ez
 | _, _, _, .tup (a := a) (ds := ds) e h, r, hs, hz => by
  cases r
  obtain ⟨_, its, rv, o, h1, h2, n, h3⟩ := I.hok _ _ e
  obtain ⟨as, q⟩ := h.reads I rv
  have rd : Reads s.heap (.ref a) (.tuple ds) as := .tuple h1 h2 h3 (by simpa using q)
  have hz2 : (tupleText (PyData.shownAll ds)).length ≤ sizeLine := by
   rw [PyData.shown] at hz
   exact hz
  obtain ⟨bs, hb, hk⟩ := h.rk I rv (by simpa [PyData.showable] using hs) fun t ht => Nat.le_trans (tupleText_mem_le ht) hz2
  have hlt : PyData.depthAll ds < (PyData.tuple ds).depth := by simp only [PyData.depth]; omega
  refine ⟨a :: bs, ReadAtMost.cons rd (Nat.le_of_lt hlt) hb, ?_⟩
  have hn := not_mem_of_deeper rd hlt hb
  rw [PyData.depth, PyData.shown]
  exact ReprK.tuple h1 h2 h3 hn (by simpa using hk)
 | _, _, _, .dct (a := a) e, r, hs, hz => by
  obtain ⟨as, rd⟩ := (Dat.dct e).reads I r
  cases r
  obtain ⟨z, y, vs, rv, ob, es, ep, h1, h2, h3, _, h5, _⟩ := I.hok _ _ e
  cases rv
  have he : es.toList = [] := by
   cases hh : es.toList with
   | nil => rfl
   | cons x r => rw [hh] at h5; cases h5
  have hlt : 0 < (PyData.dict []).depth := by simp only [PyData.depth]; omega
  refine ⟨[a], ReadAtMost.cons (n := 0) rd (Nat.zero_le _) (fun _ h => (nomatch h)), ?_⟩
  rw [PyData.depth, PyData.shown]
  have hd := ReprK.dict (prog := X.prog) (w := X.w) (as := []) (d := PyData.depthKv []) (ps := []) h1 h2.1 h3 y (fun h => (nomatch h)) (by rw [he]; exact .nil)
  simpa [PyData.shownKv] using hd
theorem DatAll.rk (I : Inv X pins σ H s) : ∀ {xs : List V} {ds : List PyData} {us : List Value}, DatAll H xs ds → Vals xs us → PyData.showableAll ds = true → AllFit ds → ∃ bs, ReadAtMost s.heap (PyData.depthAll ds) bs ∧ ReprAllK X.prog X.w bs s.heap (PyData.depthAll ds) us (PyData.shownAll ds)
 | _, _, _, .nil, r, _, _ => by
  cases r
  rw [PyData.shownAll]
  exact ⟨[], fun _ h => (nomatch h), .nil⟩
 | _, _, _, .cons (d := d) (ds := ds) h t, r, hs, hz => by
  cases r with
  | cons r1 r2 =>
   have hs' : d.showable = true ∧ PyData.showableAll ds = true := by simpa [PyData.showableAll] using hs
   have hz' : ∀ t ∈ d.shown :: PyData.shownAll ds, t.length ≤ sizeLine := by
    have := hz
    unfold AllFit at this
    rw [PyData.shownAll] at this
    exact this
   obtain ⟨b1, m1, k1⟩ := h.rk I r1 hs'.1 (hz' _ List.mem_cons_self)
   obtain ⟨b2, m2, k2⟩ := t.rk I r2 hs'.2 fun t ht => hz' t (List.mem_cons_of_mem _ ht)
   have l1 : d.depth ≤ PyData.depthAll (d :: ds) := by simp only [PyData.depthAll]; omega
   have l2 : PyData.depthAll ds ≤ PyData.depthAll (d :: ds) := by simp only [PyData.depthAll]; omega
   refine ⟨b1 ++ b2, (m1.mono l1).append (m2.mono l2), ?_⟩
   rw [PyData.shownAll]
   exact .cons ((k1.more fun b hb => List.mem_append_left b2 hb).level_le l1) (k2.more_le (fun b hb => List.mem_append_right b1 hb) l2)
end
theorem call_repr (hu : X.A.units + 64 < cLine) (hg : X.A.guards = some []) : CallR X (.builtin "repr") (fun vs H Q => ∃ x d, vs = [x] ∧ Dat H x d ∧ d.showable = true ∧ d.depth ≤ 8 ∧ d.shown.length ≤ sizeLine ∧ Q (.str d.shown) H) := by
 intro pins s σ H xs us Q I r h
 obtain ⟨x, d, rfl, hd, hs, hp, hz, q⟩ := h
 obtain ⟨u, rfl, ru⟩ := r.one
 have fin : ∀ (h' : Heap) (t : Tok) (tk : Nat), (∀ b o, s.heap.get? b = some o → h'.get? b = some o) → EP X pins σ Q (.str d.shown t) { s with heap := h', toks := tk } := fun h' t tk hk => ⟨.str d.shown, H, I.kept hk, ⟨t, rfl⟩, q⟩
 cases hd with
 | non =>
  cases ru
  rw [PyData.shown_none] at fin
  exact PySem.P.repr_of_none (fin s.heap _ _ fun _ _ e => e)
 | bl b =>
  cases ru
  rw [PyData.shown_bool] at fin
  exact PySem.P.repr_of_bool (fin s.heap _ _ fun _ _ e => e)
 | int i =>
  obtain ⟨t, rfl⟩ := ru
  rw [PyData.shown_int] at fin
  exact PySem.P.repr_of_int (by simpa [PyData.showable] using hs) (fin s.heap _ _ fun _ _ e => e)
 | str x =>
  obtain ⟨t, rfl⟩ := ru
  rw [PyData.shown_str] at fin hz
  exact PySem.P.repr_of_str (fin s.heap _ _ fun _ _ e => e) hz
 | lst e h =>
  rename_i a xs ds
  cases ru
  obtain ⟨_, its, n, rv, _, eo⟩ := I.lstM e
  obtain ⟨as, q2⟩ := h.reads I rv
  have rd : Reads s.heap (.ref a) (.list ds) (a :: as) := .list eo rfl rfl (by simpa using q2)
  rw [PyData.shown] at hz fin
  rw [PyData.depth] at hp
  obtain ⟨bs, hb, hk⟩ := h.rk I rv (by simpa [PyData.showable] using hs) fun t ht => Nat.le_trans (listText_mem_le ht) hz
  have hn := not_mem_of_deeper rd (by simp only [PyData.depth]; omega) hb
  refine call_repr_slot (by omega) ⟨_, eo, rfl⟩ F.slot_list_repr.toG ?_
  cases its with
  | nil =>
   cases q2
   rw [PyData.shownAll, listText_nil] at fin
   exact call_list_repr_empty ⟨_, eo, rfl⟩ eo rfl ⟨_, _, rfl, fin s.heap _ _ fun _ _ e => e⟩
  | cons y l =>
   refine call_list_reprK eo rfl rfl hn ?_ (fun i z ez => hk.item i z ?_) hg (fun b _ => Clear.nil b) ?_ (fun _ _ e => e) (fun h' u tk hk' => ⟨_, _, rfl, fin h' u tk hk'⟩) hz
   ·have := hk.length_eq
    simpa using this
   ·simpa using ez
   ·show X.A.units + 1 + (PyData.depthAll ds + 1) < cLine
    omega
 | tup e h =>
  rename_i a xs ds
  cases ru
  obtain ⟨_, its, rv, o, h1, h2, n, h3⟩ := I.hok _ _ e
  obtain ⟨as, q2⟩ := h.reads I rv
  have rd : Reads s.heap (.ref a) (.tuple ds) as := .tuple h1 h2 h3 (by simpa using q2)
  rw [PyData.shown] at hz fin
  rw [PyData.depth] at hp
  obtain ⟨bs, hb, hk⟩ := h.rk I rv (by simpa [PyData.showable] using hs) fun t ht => Nat.le_trans (tupleText_mem_le ht) hz
  have hn := not_mem_of_deeper rd (by simp only [PyData.depth]; omega) hb
  refine call_repr_slot (by omega) ⟨_, h1, h2⟩ F.slot_tuple_repr (call_tuple_reprK h1 h2 h3 hn (by simpa using hk) hg (fun b _ => Clear.nil b) ?_ (fun _ _ e => e) (fun h' u tk hk' => ⟨_, _, rfl, fin h' u tk hk'⟩) hz)
  show X.A.units + 1 + (PyData.depthAll ds + 1) < cLine
  omega
 | dct e =>
  rename_i a
  cases ru
  obtain ⟨z, y, vs, rv, ob, es, ep, h1, h2, h3, _, h5, _⟩ := I.hok _ _ e
  cases rv
  have he : es.toList = [] := by
   cases hh : es.toList with
   | nil => rfl
   | cons x r => rw [hh] at h5; cases h5
  have ht : (PyData.dict []).shown = dictText [] := by simp only [PyData.shown, PyData.shownKv]
  rw [ht] at hz fin
  refine call_repr_slot (by omega) ⟨_, h1, h2.1⟩ F.slot_dict_repr (call_dict_reprK (as := []) (d := 0) (ps := []) h1 h2.1 h3 y (fun h => (nomatch h)) (by rw [he]; exact .nil) hg (fun b _ => Clear.nil b) ?_ (fun _ _ e => e) (fun h' u tk hk' => ⟨_, _, rfl, fin h' u tk hk'⟩) hz)
  show X.A.units + 1 + (0 + 1) < cLine
  omega
end
end L2
namespace L2
open PySem PySem.Spec PyProof.Rows
noncomputable def msk (S : Addr → Prop) (H : Hp) : Hp := fun b => open Classical in if S b then none else H b
theorem msk_in {S : Addr → Prop} {H : Hp} {b : Addr} (h : ¬ S b) : msk S H b = H b := if_neg h
theorem msk_some {S : Addr → Prop} {H : Hp} {b : Addr} {o : HO} (h : msk S H b = some o) : ¬ S b ∧ H b = some o := by
 unfold msk at h
 split at h
 ·cases h
 ·exact ⟨by assumption, h⟩
theorem msk_le {S : Addr → Prop} {H : Hp} : Same (msk S H) H := fun _ _ h => (msk_some h).2
theorem msk_same {S : Addr → Prop} {H H' : Hp} (g : Same H H') : Same (msk S H) (msk S H') := fun b o h => by
 obtain ⟨n, e⟩ := msk_some h
 rw [msk_in n]
 exact g b o e
structure Fine (n k : Nat) (d : PyData) : Prop where
 show_ : d.showable = true
 leaf : d.leavesShort 40 = true
 bulk : d.bulk ≤ n
 deep : d.depth ≤ k
def Th (H : Hp) (v : V) (n k : Nat) : Prop := ∃ d, Dat H v d ∧ Fine n k d
theorem Th.mono {H : Hp} {v : V} {n k n' k' : Nat} (h : Th H v n k) (hn : n ≤ n') (hk : k ≤ k') : Th H v n' k' := by
 obtain ⟨d, a, b⟩ := h
 exact ⟨d, a, b.show_, b.leaf, Nat.le_trans b.bulk hn, Nat.le_trans b.deep hk⟩
theorem Fine.len {n k : Nat} {d : PyData} (h : Fine n k d) (hn : n ≤ 10000) : d.shown.length ≤ sizeLine := by
 have q := PyData.shown_le_bulk 40 (by decide) d h.leaf
 have b := h.bulk
 have e : sizeLine = 2 ^ 24 := rfl
 rw [e]
 omega
theorem Th.non {H : Hp} {n k : Nat} : Th H .non n k := ⟨_, .non, rfl, rfl, Nat.zero_le _, Nat.zero_le _⟩
theorem Th.bl {H : Hp} {n k : Nat} (b : Bool) : Th H (.bl b) n k := ⟨_, .bl b, rfl, rfl, Nat.zero_le _, Nat.zero_le _⟩
theorem Th.int {H : Hp} {n k : Nat} {i : Int} (h : i.natAbs < 10 ^ 30) : Th H (.int i) n k := by
 refine ⟨_, .int i, ?_, ?_, Nat.zero_le _, Nat.zero_le _⟩
 ·rw [PyData.showable]
  refine decide_eq_true ?_
  by_cases z : i.natAbs = 0
  ·rw [z]; decide
  ·exact (Nat.log2_lt z).mpr (Nat.lt_trans h (Nat.lt_of_lt_of_le (show 10 ^ 30 < 2 ^ 100 by decide) (Nat.pow_le_pow_right (by decide) (by decide))))
 ·have q := int_text_length_le10 (k := 30) (by decide) h
  simp only [PyData.leavesShort, PyData.shown_int, decide_eq_true_eq]
  rw [PySem.ofString_length]
  omega
theorem Th.str {H : Hp} {n k : Nat} {x : Str} (h1 : x.cps.toList.all (fun c => decide (c < 16 ^ 8)) = true) (h2 : x.cps.size ≤ n) : Th H (.str x) n k := ⟨_, .str x, rfl, by rw [PyData.leavesShort]; exact h1, h2, Nat.zero_le _⟩
theorem things {H : Hp} {n k : Nat} : ∀ {xs : List V}, (∀ x ∈ xs, Th H x n k) → ∃ ds, DatAll H xs ds ∧ PyData.showableAll ds = true ∧ PyData.leavesShortAll 40 ds = true ∧ PyData.bulkAll ds ≤ xs.length * (n + 1) ∧ PyData.depthAll ds ≤ k
 | [], _ => ⟨[], .nil, rfl, rfl, Nat.zero_le _, Nat.zero_le _⟩
 | x :: r, h => by
  obtain ⟨d, q, f⟩ := h x List.mem_cons_self
  obtain ⟨ds, q2, a, b, c, e⟩ := things fun y hy => h y (List.mem_cons_of_mem _ hy)
  refine ⟨d :: ds, .cons q q2, ?_, ?_, ?_, ?_⟩
  ·rw [PyData.showableAll, f.show_, a]; rfl
  ·rw [PyData.leavesShortAll, f.leaf, b]; rfl
  ·have := f.bulk
   rw [PyData.bulkAll, List.length_cons, Nat.succ_mul]
   omega
  ·have := f.deep
   rw [PyData.depthAll]
   omega
theorem Th.lst {H : Hp} {a : Addr} {xs : List V} {n k : Nat} (e : H a = some (.lst xs)) (h : ∀ x ∈ xs, Th H x n k) : Th H (.ref a) (xs.length * (n + 1)) (k + 1) := by
 obtain ⟨ds, q, a1, a2, a3, a4⟩ := things h
 refine ⟨_, .lst e q, ?_, ?_, ?_, ?_⟩
 ·rw [PyData.showable]; exact a1
 ·rw [PyData.leavesShort]; exact a2
 ·rw [PyData.bulk]; exact a3
 ·rw [PyData.depth]; omega
theorem Th.tup {H : Hp} {a : Addr} {xs : List V} {n k : Nat} (e : H a = some (.tup xs)) (h : ∀ x ∈ xs, Th H x n k) : Th H (.ref a) (xs.length * (n + 1)) (k + 1) := by
 obtain ⟨ds, q, a1, a2, a3, a4⟩ := things h
 refine ⟨_, .tup e q, ?_, ?_, ?_, ?_⟩
 ·rw [PyData.showable]; exact a1
 ·rw [PyData.leavesShort]; exact a2
 ·rw [PyData.bulk]; exact a3
 ·rw [PyData.depth]; omega
theorem Th.dct {H : Hp} {a : Addr} {n k : Nat} (e : H a = some (.dK [])) : Th H (.ref a) n (k + 1) := ⟨_, .dct e, rfl, rfl, Nat.zero_le _, by simp [PyData.depth, PyData.depthKv]⟩
theorem pick_any {xs : List V} {r : Int} (h0 : 0 ≤ r) (h1 : r < (xs.length : Nat)) : ∃ v, atI xs r = some v ∧ v ∈ xs := by
 have hj : r.toNat < xs.length := by omega
 have e : r = ((r.toNat : Nat) : Int) := by omega
 refine ⟨xs[r.toNat], ?_, List.getElem_mem hj⟩
 have q : atI xs ((r.toNat : Nat) : Int) = some xs[r.toNat] := atI_nat (List.getElem?_eq_getElem hj)
 rw [← e] at q
 exact q
def tyD : PyData → String
 | .none => "NoneType" | .bool _ => "bool" | .int _ => "int" | .str _ => "str" | .list _ => "list" | .tuple _ => "tuple" | .dict _ => "dict"
theorem Dat.ty {K : PySem.W.Frag} {H : Hp} {v : V} {d : PyData} (h : Dat H v d) : TyOf K H v (.type (tyD d)) := by
 cases h with
 | non => exact .non
 | bl b => exact .bl b
 | int i => exact .int i
 | str x => exact .str x
 | lst e _ => exact .lst e
 | tup e _ => exact .tup e
 | dct e => exact .dK e
def isL : PyData → Bool
 | .list _ => true
 | _ => false
def isT : PyData → Bool
 | .tuple _ => true
 | _ => false
def isI : PyData → Bool
 | .int _ => true
 | .bool _ => true
 | _ => false
def isB : PyData → Bool
 | .bool _ => true
 | _ => false
def isW : PyData → Bool
 | .int _ => true
 | _ => false
theorem kit_l (K : PySem.W.Frag) (d : PyData) : PySem.W.kitOne K (.type (tyD d)) (.type "list") = some (isL d) := by cases d <;> rfl
theorem kit_t (K : PySem.W.Frag) (d : PyData) : PySem.W.kitOne K (.type (tyD d)) (.type "tuple") = some (isT d) := by cases d <;> rfl
theorem kit_i (K : PySem.W.Frag) (d : PyData) : PySem.W.kitOne K (.type (tyD d)) (.type "int") = some (isI d) := by cases d <;> rfl
theorem kit_b (K : PySem.W.Frag) (d : PyData) : PySem.W.kitOne K (.type (tyD d)) (.type "bool") = some (isB d) := by cases d <;> rfl
def riseGo : Int → List PyData → Bool
 | _, [] => true
 | b, .int n :: r => decide (b < n) && riseGo n r
 | _, _ :: _ => false
def riseD (few : Int) : PyData → Bool
 | .list ds => decide (few ≤ (ds.length : Int)) && (decide (ds.length ≤ 10) && riseGo (-1) ds)
 | _ => false
def planD : PyData → Bool
 | .tuple [x, y] => riseD 1 x && riseD 0 y
 | _ => false
theorem DatAll.len {H : Hp} : ∀ {xs : List V} {ds : List PyData}, DatAll H xs ds → xs.length = ds.length
 | _, _, .nil => rfl
 | _, _, .cons _ h => by rw [List.length_cons, List.length_cons, h.len]
theorem DatAll.at {H : Hp} : ∀ {xs : List V} {ds : List PyData} (_ : DatAll H xs ds) {i : Nat} {x : V}, xs[i]? = some x → ∃ d, ds[i]? = some d ∧ Dat H x d
 | _, _, .nil, i, x, h => nomatch h
 | _, _, .cons q _, 0, x, h => by cases h; exact ⟨_, rfl, q⟩
 | _, _, .cons _ t, i + 1, x, h => by
  obtain ⟨d, e, q⟩ := t.at (i := i) (x := x) h
  exact ⟨d, e, q⟩
section
variable {X : Cx}
end
end L2
namespace L2
open PySem PySem.Spec PyProof.Rows
end L2
namespace L2
open PySem PySem.Spec PyProof.Rows
theorem for_enum {a : Addr} {xs : List V} {g : TG} {tb : TS} {D : Ends} {σ : St} {H : Hp} (Pv : Nat → St → Hp → Prop) (h0 : Pv 0 σ H) (hl : ∀ i σ H, i ≤ xs.length → Pv i σ H → H a = some (.lst xs))
  (hs : ∀ i x σ H T, xs[i]? = some x → Pv i σ H → H T = none → g (.ref T) σ (upd H T (.tup [.int (i : Int), x])) fun σ2 H2 => tb { D with nx := Pv (i + 1), ct := Pv (i + 1), bk := D.nx } σ2 H2) (hd : ∀ σ H, Pv xs.length σ H → D.nx σ H) :
  ∃ W : Nat → Nat → St → Hp → Prop, (∃ m, W 0 m σ H) ∧ ∀ i m σ H, W i m σ H →
   ((Ite a).stop i H ∧ D.nx σ H) ∨ ((Ite a).go i H ∧ ∃ N : St → Hp → Prop, (∀ σ' H', N σ' H' → ∃ m', m' < m ∧ W (i + 1) m' σ' H') ∧ ∀ x H', (Ite a).yld i H x H' → g x σ H' fun σ2 H2 => tb { D with nx := N, ct := N, bk := D.nx } σ2 H2) := by
 refine ⟨fun i m σ H => m = xs.length - i ∧ i ≤ xs.length ∧ Pv i σ H, ⟨xs.length, by simp, Nat.zero_le _, h0⟩, ?_⟩
 rintro i m σ H ⟨rfl, hi, p⟩
 have q := hl i σ H hi p
 by_cases hlt : i < xs.length
 ·refine .inr ⟨⟨xs, xs[i], q, List.getElem?_eq_getElem hlt⟩, Pv (i + 1), fun σ' H' p' => ⟨xs.length - (i + 1), by omega, rfl, hlt, p'⟩, fun x H' y => ?_⟩
  obtain ⟨T, ys, u, hT, hy, hu, rfl, rfl⟩ := y
  rw [q] at hy
  cases hy
  exact hs i u σ H T hu p hT
 ·have e : i = xs.length := by omega
  subst e
  exact .inl ⟨⟨xs, q, Nat.le_refl _⟩, hd σ H p⟩
end L2
namespace L2
open PySem PySem.Spec PyProof.Rows
section
variable {prog : Program} {w : World} {A : Around} {E : Value → Shared → Prop} {s : Shared}
end
end L2
namespace L2
open PySem PySem.Spec PyProof.Rows
section
variable {X : Cx}
end
end L2
namespace HT
open PySem PyProof.Rows
section
variable {prog : Program} {w : World} {A : Around} {R : Result → Shared → Prop} {I S : Addr} {fp wr : List Addr} {n : Nat} {P : Nat → Value → Prop} {St : Nat → Heap → Prop}
end
end HT
namespace L2
open PySem PySem.Spec PyProof.Rows
section
variable {X : Cx}
end
end L2
namespace HT
open PySem PyProof.Rows PySem.SeqAt PySem.MeetsSeq PySem.MeetsSeq2 PySem.MeetsSeq3
inductive OrdK
 | lt
 | le
 | gt
end HT
namespace L2
open PySem PySem.Spec PyProof.Rows
section
variable {X : Cx}
end
end L2
namespace HT
open PySem PyProof.Rows
section
variable {prog : Program} {w : World} {A : Around} {E : Value → Shared → Prop} {s : Shared}
theorem draw_w {I : Addr} {fp wr : List Addr} {n : Nat} {P : Nat → Value → Prop} {St : Nat → Heap → Prop} (W : Walks prog w A I fp wr n P St) (its : Nat → Value) (hv : ∀ i v, P i v → v = its i) : ∀ (k i : Nat) (s : Shared) (Q : List Value → Shared → Prop), i + k ≤ n → St i s.heap →
  (∀ h' tk, St (i + k) h' → (∀ b o, b ∉ wr → s.heap.get? b = some o → h'.get? b = some o) → Q ((List.range k).map fun j => its (i + j)) { s with heap := h', toks := tk }) → wpAny (model prog w) A (draw (.ref I) k) Q E s
 | 0, i, s, Q, _, st, q => wpAny_pure (q s.heap s.toks st fun _ _ _ e => e)
 | k + 1, i, s, Q, hi, st, q => by
  refine wpAny_bind (m := pyNext (.ref I)) (W.item i s _ _ (by omega) st fun v h1 t1 hP st1 k1 => ?_)
  cases hv i v hP
  refine wpAny_bind (wpAny_holding (draw_w W its hv k (i + 1) _ _ (by omega) st1 fun h2 t2 st2 k2 => wpAny_pure ?_))
  have e : ((List.range (k + 1)).map fun j => its (i + j)) = its i :: (List.range k).map fun j => its (i + 1 + j) := by
   rw [List.range_succ_eq_map, List.map_cons, List.map_map]
   exact congrArg (its i :: ·) (List.map_congr_left fun j _ => by show its (i + (j + 1)) = _; rw [show i + (j + 1) = i + 1 + j by omega])
  have z := q h2 t2 (by rw [show i + (k + 1) = i + 1 + k by omega]; exact st2) fun b o hb e => k2 b o hb (k1 b o hb e)
  rw [e] at z
  exact z
theorem unpackL {l : Addr} {items : Array Value} {targets : List (Bool × (Value → Sem Unit))} {Q : Unit → Shared → Prop} (hh : A.handled = none) (hl : s.heap.IsList l items) (hn : targets.length = items.size) (hst : targets.findIdx? (·.1) = none)
  (q : ∀ h' tk, (∀ b o, s.heap.get? b = some o → h'.get? b = some o) → wpAny (model prog w) A (assignInOrder (targets.map (·.2)) items.toList) Q E { s with heap := h', toks := tk }) : wpAny (model prog w) A (unpack (.ref l) targets) Q E s := by
 have lt : l < s.heap.objs.size := by obtain ⟨_, e, _⟩ := hl; exact Heap.lt_size e
 have W := Walks.list (prog := prog) (w := w) (A := A) hh s.heap.objs.size l (Nat.ne_of_lt lt) items
 unfold unpack
 rw [hn, hst]
 refine wpAny_bind (wpAny_holding ?_)
 unfold unpackItems notIterableAtAll
 refine wpAny_bind (wpAny_bind (wpAny_specialOf hl.typeIs slot_list_iter.lookup (wpAny_pure ?_)))
 refine wpAny_bind (wpAny_holding (wpAny_pyIter_list hl ?_))
 refine wpAny_bind (wpAny_holding (draw_w W (fun i => items.getD i .none) (fun i v h => by rw [Array.getD_eq_getD_getElem?, h]; rfl) items.size 0 _ _ (by omega) ⟨⟨_, Heap.get?_push_size _ rfl, rfl, rfl⟩, hl.push _⟩ fun h1 t1 st1 k1 => ?_))
 have e : ((List.range items.size).map fun j => items.getD (0 + j) .none) = items.toList := by
  refine List.ext_getElem (by rw [List.length_map, List.length_range, Array.length_toList]) fun i a b => ?_
  have hi : i < items.size := by rw [Array.length_toList] at b; exact b
  rw [List.getElem_map, List.getElem_range, Nat.zero_add, Array.getD_eq_getD_getElem?, Array.getElem?_eq_getElem hi, Array.getElem_toList]
  rfl
 rw [e, if_neg (by rw [Array.length_toList]; exact Nat.lt_irrefl _)]
 rw [Nat.zero_add] at st1
 refine wpAny_bind (wpAny_holding (W.done _ _ _ st1 fun h2 t2 k2 => ?_))
 refine wpAny_pure (q h2 t2 fun b o hb => ?_)
 have nb : b ∉ [s.heap.objs.size] := fun z => by
  rw [List.mem_singleton] at z
  exact absurd (z ▸ Heap.lt_size hb) (Nat.lt_irrefl _)
 exact k2 b o nb (k1 b o nb (Heap.get?_push_of_some _ hb))
end
section
variable {prog : Program} {w : World} {A : Around} {R : Result → Shared → Prop} {I S : Addr} {fp wr : List Addr} {n : Nat} {P : Nat → Value → Prop} {St : Nat → Heap → Prop}
end
end HT
namespace L2
open PySem PySem.Spec PyProof.Rows
section
variable {X : Cx}
def gTupL (K : PySem.W.Frag) (n : Nat) (t : TGs) : TG := fun v σ H Q => ∃ a xs, v = .ref a ∧ SqL K H a xs ∧ xs.length = n ∧ t xs σ H Q
theorem pg_tupL {es : List Expr} {k : Nat} {t : TGs} {n : Nat} {pos : Pos} (hc : X.calm = true) (h : PGs X es t) (hn : (assignEach es X.env).length = n := by rfl) (hst : (assignEach es X.env).findIdx? (·.1) = none := by rfl) : PG X (.Tuple es k pos) (gTupL X.K n t) := by
 rintro pins s σ H v u Q I r ⟨a, xs, rfl, hq, hl, hw⟩
 cases r
 obtain ⟨its, rv, ht, hz⟩ := I.list hq
 rw [assign_Tuple]
 refine wpAny_bind (wpAny_standAt (HT.unpackL (I.ok.hd hc) ht.isList (by rw [hn, ← hl, List.size_toArray, rv.length]) hst fun h' tk hx => ?_))
 exact h pins _ σ H xs _ Q (I.kept hx) (by simpa using rv) hw
end
end L2
namespace HT
open PySem PyProof.Rows
def UpP (xs : Array Nat) : Prop := xs.toList.Pairwise (· < ·)
theorem UpP.at {xs : Array Nat} (u : UpP xs) {i k : Nat} (h : i < k) (hk : k < xs.size) : xs.getD i 0 < xs.getD k 0 := by
 have := List.pairwise_iff_getElem.mp u i k (by rw [Array.length_toList]; omega) (by rw [Array.length_toList]; exact hk) h
 rw [Array.getElem_toList, Array.getElem_toList] at this
 rw [Array.getD_eq_getD_getElem?, Array.getD_eq_getD_getElem?, Array.getElem?_eq_getElem (by omega), Array.getElem?_eq_getElem hk]
 exact this
structure BelowAt (xs : Array Nat) (j b : Nat) : Prop where
 le : b ≤ xs.size
 lo : ∀ i < b, xs.getD i 0 < j
 hi : ∀ i, b ≤ i → i < xs.size → j ≤ xs.getD i 0
theorem below_go {xs : Array Nat} (u : UpP xs) (j : Nat) : ∀ (fuel lo hi : Nat), lo ≤ hi → hi ≤ xs.size → hi - lo ≤ fuel → (∀ i < lo, xs.getD i 0 < j) → (∀ i, hi ≤ i → i < xs.size → j ≤ xs.getD i 0) → BelowAt xs j (SetTable.below.go xs j fuel lo hi)
 | 0, lo, hi, h1, h2, h3, h4, h5 => ⟨by show lo ≤ _; omega, h4, fun i a b => h5 i (by have a' : lo ≤ i := a; omega) b⟩
 | fuel + 1, lo, hi, h1, h2, h3, h4, h5 => by
  unfold SetTable.below.go
  by_cases hlt : lo < hi
  ·rw [if_pos hlt]
   have hm : (lo + hi) / 2 < xs.size := by omega
   have em : xs.getD ((lo + hi) / 2) j = xs.getD ((lo + hi) / 2) 0 := by rw [Array.getD_eq_getD_getElem?, Array.getD_eq_getD_getElem?, Array.getElem?_eq_getElem hm]; rfl
   show BelowAt xs j (if xs.getD ((lo + hi) / 2) j < j then SetTable.below.go xs j fuel ((lo + hi) / 2 + 1) hi else SetTable.below.go xs j fuel lo ((lo + hi) / 2))
   rw [em]
   by_cases hc : xs.getD ((lo + hi) / 2) 0 < j
   ·rw [if_pos hc]
    refine below_go u j fuel _ hi (by omega) h2 (by omega) (fun i hi' => ?_) h5
    by_cases e : i = (lo + hi) / 2
    ·rw [e]; exact hc
    ·exact Nat.lt_trans (u.at (show i < (lo + hi) / 2 by omega) hm) hc
   ·rw [if_neg hc]
    refine below_go u j fuel lo _ (by omega) (by omega) (by omega) h4 fun i a b => ?_
    by_cases e : i = (lo + hi) / 2
    ·rw [e]; omega
    ·have := u.at (show (lo + hi) / 2 < i by omega) b
     omega
  ·rw [if_neg hlt]
   exact ⟨by omega, h4, fun i a b => h5 i (by omega) b⟩
theorem below_is {xs : Array Nat} (u : UpP xs) (j : Nat) : BelowAt xs j (SetTable.below xs j) := below_go u j _ 0 xs.size (Nat.zero_le _) (Nat.le_refl _) (by omega) (fun i h => absurd h (Nat.not_lt_zero _)) (fun i h1 h2 => by omega)
theorem has_nil (j : Nat) : SetTable.has #[] j = false := by
 unfold SetTable.has
 rw [show (#[] : Array Nat)[SetTable.below #[] j]? = none by simp]
 rfl
theorem slot_empty {t : SetTable} (u : UpP t.place) {j : Nat} (h : t.slot j = .empty) : ∀ x ∈ t.place.toList, x ≠ j := by
 intro x hx e
 subst e
 obtain ⟨i, hi, ei⟩ := List.mem_iff_getElem.mp hx
 rw [Array.length_toList] at hi
 rw [Array.getElem_toList] at ei
 have gi : t.place.getD i 0 = x := by rw [Array.getD_eq_getD_getElem?, Array.getElem?_eq_getElem hi, ei]; rfl
 have B := below_is u x
 have hbi : SetTable.below t.place x ≤ i := Nat.le_of_not_lt fun z => by have := B.lo i z; omega
 have hb : SetTable.below t.place x < t.place.size := by omega
 have eb : SetTable.below t.place x = i := by
  rcases Nat.lt_or_ge (SetTable.below t.place x) i with z | z
  ·have h1 := B.hi _ (Nat.le_refl _) hb
   have h2 := u.at z hi
   omega
  ·omega
 have e1 : (t.place[SetTable.below t.place x]? == some x) = true := by rw [eb, Array.getElem?_eq_getElem hi, ei]; exact beq_self_eq_true _
 unfold SetTable.slot at h
 dsimp only at h
 rw [if_pos e1] at h
 cases h
theorem slot_nodummy {t : SetTable} (d : t.dummies = #[]) (j : Nat) : t.slot j ≠ .dummy := by
 unfold SetTable.slot
 dsimp only
 rw [d, has_nil]
 split
 ·exact fun z => nomatch z
 ·exact fun z => nomatch z
theorem probe_empty {t : SetTable} (d : t.dummies = #[]) (hashAt : Nat → Int) (h : Int) : ∀ (fuel : Nat) (p : SetTable.Probe) (j : Nat) (dm : Option Nat), SetTable.probe.go t hashAt h fuel p = some (.empty j dm) → t.slot j = .empty ∧ dm = p.dummy
 | 0, _, _, _, e => by cases e
 | fuel + 1, p, j, dm, e => by
  unfold SetTable.probe.go at e
  cases hs : t.slot p.j with
  | empty =>
   rw [hs] at e
   cases e
   exact ⟨hs, rfl⟩
  | dummy => exact absurd hs (slot_nodummy d _)
  | live i =>
   rw [hs] at e
   dsimp only at e
   have adv : (t.advance p).dummy = p.dummy := by
    unfold SetTable.advance
    split <;> rfl
   split at e
   ·cases e
   ·have ih := probe_empty d hashAt h fuel (t.advance p) j dm e
    rw [adv] at ih
    exact ih
theorem free_empty {t : SetTable} (d : t.dummies = #[]) {h : Int} {j : Nat} {wd : Bool} (e : t.freeSlot h = some (j, wd)) : t.slot j = .empty := by
 unfold SetTable.freeSlot at e
 split at e
 ·rename_i j' dm hp
  obtain ⟨h1, h2⟩ := probe_empty d _ _ _ _ _ _ hp
  have h3 : dm = none := h2
  rw [h3] at e
  cases e
  exact h1
 ·cases e
structure TabOk (t : SetTable) (led : Bool) : Prop where
 up : UpP t.place
 dum : t.dummies = #[]
 led : t.led = led
theorem up_range (n : Nat) : UpP (Array.range n) := by
 unfold UpP
 rw [Array.toList_range]
 exact List.pairwise_lt_range
theorem TabOk.standIn {t : SetTable} {led : Bool} (T : TabOk t led) (n : Nat) : TabOk (t.standIn n) led := ⟨up_range n, rfl, T.led⟩
theorem TabOk.layNew {t : SetTable} {led : Bool} (T : TabOk t led) (es : Array (Int × Value)) (h : Int) (x : Value) : TabOk (layNew t es h x).2.1 led := by
 unfold PySem.layNew
 split
 ·rename_i slot wd hf
  have hE := free_empty T.dum hf
  have T' : TabOk (t.put slot).1 led := by
   refine ⟨?_, ?_, T.led⟩
   ·have B := below_is T.up slot
    have ne := slot_empty T.up hE
    show UpP (SetTable.insertAt t.place (SetTable.below t.place slot) slot)
    unfold UpP
    rw [SetTable.toList_insertAt]
    have lt : ∀ a ∈ t.place.toList.take (SetTable.below t.place slot), a < slot := fun a ha => by
     obtain ⟨i, hi, ei⟩ := List.mem_iff_getElem.mp ha
     rw [List.length_take, Array.length_toList] at hi
     rw [List.getElem_take, Array.getElem_toList] at ei
     have := B.lo i (by omega)
     rw [Array.getD_eq_getD_getElem?, Array.getElem?_eq_getElem (by omega), ei] at this
     exact this
    have gt : ∀ a ∈ t.place.toList.drop (SetTable.below t.place slot), slot < a := fun a ha => by
     obtain ⟨i, hi, ei⟩ := List.mem_iff_getElem.mp ha
     rw [List.length_drop, Array.length_toList] at hi
     rw [List.getElem_drop, Array.getElem_toList] at ei
     have := B.hi (SetTable.below t.place slot + i) (by omega) (by omega)
     rw [Array.getD_eq_getD_getElem?, Array.getElem?_eq_getElem (by omega), ei] at this
     have this' : slot ≤ a := this
     have := ne a (List.mem_of_mem_drop ha)
     omega
    refine List.pairwise_append.mpr ⟨T.up.sublist (List.take_sublist _ _), List.pairwise_cons.mpr ⟨gt, T.up.sublist (List.drop_sublist _ _)⟩, fun a ha b hb => ?_⟩
    rcases List.mem_cons.mp hb with z | z
    ·rw [z]; exact lt a ha
    ·exact Nat.lt_trans (lt a ha) (gt b z)
   ·show (if SetTable.has t.dummies slot then SetTable.eraseAt t.dummies (SetTable.below t.dummies slot) else t.dummies) = #[]
    rw [T.dum, has_nil]
    rfl
  show TabOk ((t.put slot).1.orStandIn _) led
  unfold SetTable.orStandIn
  split
  ·exact T'
  ·exact T'.standIn _
 ·exact T.standIn _
theorem TabOk.laid {mask finger moves : Nat} {led plain : Bool} {hs : Array Int} {t : SetTable} {order : Array Nat} (e : SetTable.laid mask finger moves led plain hs = some (t, order)) : TabOk t led := by
 unfold SetTable.laid at e
 cases hl : SetTable.layClean mask hs with
 | none => rw [hl] at e; cases e
 | some owner =>
  rw [hl] at e
  have e' := Option.some.inj e
  have e1 : _ = t := congrArg Prod.fst e'
  rw [← e1]
  refine ⟨?_, rfl, rfl⟩
  show ((((List.range (mask + 1)).filterMap fun j => (owner.getD j none).map (j, ·)).map (·.1)).toArray).toList.Pairwise (· < ·)
  have key : ∀ (l : List Nat), l.Pairwise (· < ·) → ((l.filterMap fun j => (owner.getD j none).map (j, ·)).map (·.1)).Pairwise (· < ·) ∧ ∀ a ∈ (l.filterMap fun j => (owner.getD j none).map (j, ·)).map (·.1), a ∈ l := by
   intro l
   induction l with
   | nil => intro _; exact ⟨List.Pairwise.nil, (fun _ h => nomatch h)⟩
   | cons a r ih =>
    intro hp
    obtain ⟨i1, i2⟩ := ih hp.of_cons
    rw [List.filterMap_cons]
    cases owner.getD a none with
    | none => exact ⟨i1, fun x hx => List.mem_cons_of_mem _ (i2 x hx)⟩
    | some k =>
     refine ⟨List.pairwise_cons.mpr ⟨fun x hx => List.rel_of_pairwise_cons hp (i2 x hx), i1⟩, fun x hx => ?_⟩
     rcases List.mem_cons.mp hx with z | z
     ·rw [z]; exact List.mem_cons_self
     ·exact List.mem_cons_of_mem _ (i2 x z)
  exact (key _ List.pairwise_lt_range).1
theorem TabOk.relayAll {t : SetTable} {led : Bool} (T : TabOk t led) (es : Array (Int × Value)) (n : Nat) : TabOk (relayAll t es n).2.1 led := by
 unfold PySem.relayAll
 split
 ·rename_i t' order hr
  have T' : TabOk t' t.led := TabOk.laid hr
  rw [T.led] at T'
  dsimp only
  split
  ·exact T'
  ·exact T.standIn _
 ·exact T.standIn _
end HT
namespace HT
open PySem PyProof.Rows
def GoodE (e : Int × Value) : Prop := ∃ k t, e = (hashInt k, .int k t)
def keyE (e : Int × Value) : Int := match e.2 with
 | .int k _ => k
 | _ => 0
section
variable {prog : Program} {w : World}
def SetI (h : Heap) (a : Addr) (ks : List Int) (led : Bool) : Prop := ∃ o es ep t, h.get? a = some o ∧ o.ExactSet ∧ o.data = .set es ep t ∧ (∀ e ∈ es.toList, GoodE e) ∧ es.toList.map keyE = ks ∧ ks.Nodup ∧ es.size < scanBound ∧ t.fits es.size = true ∧ TabOk t led
theorem good_elems {es : List (Int × Value)} (h : ∀ e ∈ es, GoodE e) : ElemsOf (intKind prog w) es := fun e he => by
 obtain ⟨k, t, rfl⟩ := h e he
 exact ⟨⟨k, intKind_is _ _ _ _, rfl⟩, rfl⟩
theorem good_is {e : Int × Value} (h : GoodE e) (k : Int) : (intKind prog w).is k e.2 = decide (keyE e = k) := by
 obtain ⟨k', t, rfl⟩ := h
 show Value.isInt k (.int k' t) = decide (k' = k)
 unfold Value.isInt
 rw [Bool.eq_iff_iff, decide_eq_true_iff]
 first | (rw [beq_iff_eq]) | simp
variable {A : Around} {E : Value → Shared → Prop} {s : Shared} {a : Addr} {ks : List Int} {led : Bool}
theorem SetI.store {h : Heap} {o : Obj} {es es' : Array (Int × Value)} {ep : Nat} {t t' : SetTable} (ho : h.get? a = some o) (hx : o.ExactSet) (hd : o.data = .set es ep t) (g : ∀ e ∈ es'.toList, GoodE e) (nd : (es'.toList.map keyE).Nodup) (hb : es'.size < scanBound) (hf : t'.fits es'.size = true) (T : TabOk t' led) :
  (h.update a (Obj.putSet es' t')).get? a = some { o with data := .set es' (ep + 1) t' } ∧ SetI (h.update a (Obj.putSet es' t')) a (es'.toList.map keyE) led := by
 have e := Heap.get?_update_self (Obj.putSet es' t') ho (by rw [putSet_of es' t' hd]; rfl)
 rw [putSet_of es' t' hd] at e
 exact ⟨e, _, es', ep + 1, t', e, hx, rfl, g, rfl, nd, hb, hf, T⟩
theorem setAdd_I {k : Int} {tk : Tok} {Q : Bool → Shared → Prop} (S : SetI s.heap a ks led) (room : ks.length + 1 < scanBound)
  (q : ∀ b h' ks', Heap.SameBut a s.heap h' → SetI h' a ks' led → (k ∈ ks → ks'.Perm ks) → (k ∉ ks → ks'.Perm (ks ++ [k])) → Q b { s with heap := h' }) : wpAny (model prog w) A (setAddHashed a (.int k tk) (hashInt k)) Q E s := by
 obtain ⟨o, es, ep, t, ho, hx, hd, hg, hk, nd, hb, hf, T⟩ := S
 have hel : ElemsOf (intKind prog w) es.toList := good_elems hg
 have sc : (Value.int k tk).scannable = true := rfl
 have isk : (intKind prog w).is k (.int k tk) = true := intKind_is _ _ _ _
 have len : ks.length = es.size := by rw [← hk, List.length_map, Array.length_toList]
 have idx : (k ∈ ks ↔ ∃ e ∈ es.toList, (intKind prog w).is k e.2 = true) := by
  rw [← hk, List.mem_map]
  exact ⟨fun ⟨e, h1, h2⟩ => ⟨e, h1, by rw [good_is (hg e h1)]; exact decide_eq_true h2⟩, fun ⟨e, h1, h2⟩ => ⟨e, h1, by rw [good_is (hg e h1)] at h2; exact of_decide_eq_true h2⟩⟩
 unfold setAddHashed setAddHashedIn
 refine wpAny_holding (wpAny_bind (wpAny_setState_of ho hd hf ?_))
 dsimp only
 rw [byScan_of sc hb hel, if_pos rfl]
 unfold setAddByScan
 refine wpAny_bind (wpAny_bind (wpAny_rule (wpAny_bind (wpAny_setScan_of isk ho hd hf hel ?_))))
 cases hr : List.findIdx? (fun e => (intKind prog w).is k e.2) es.toList with
 | some j =>
  obtain ⟨hj, hpj, _⟩ := List.findIdx?_eq_some_iff_getElem.mp hr
  have hm : k ∈ ks := idx.mpr ⟨_, List.getElem_mem hj, hpj⟩
  dsimp only
  exact wpAny_pure (wpAny_pure (q false s.heap ks (Heap.SameBut.refl a s.heap) ⟨o, es, ep, t, ho, hx, hd, hg, hk, nd, hb, hf, T⟩ (fun _ => List.Perm.refl _) (fun z => absurd hm z)))
 | none =>
  have hn : k ∉ ks := fun z => by
   obtain ⟨e, h1, h2⟩ := idx.mp z
   have := List.findIdx?_eq_none_iff.mp hr e h1
   rw [h2] at this
   cases this
  dsimp only
  have gw : ∀ (b : Bool) {s1 : Shared} {Q' : Unit → Shared → Prop}, Q' () s1 → wpAny (model prog w) A (match b with | true => rule "set.scan.the-table-gave-way" | false => pure ()) Q' E s1 := fun b s1 Q' z => by
   cases b
   ·exact wpAny_pure z
   ·exact wpAny_rule z
  have p1 := layNew_perm t es (hashInt k) (.int k tk)
  have f1 := layNew_fits t es (hashInt k) (.int k tk)
  have T1 := T.layNew es (hashInt k) (.int k tk)
  generalize layNew t es (hashInt k) (.int k tk) = L at p1 f1 T1 ⊢
  obtain ⟨es1, t1, wd, gv⟩ := L
  dsimp only at p1 f1 T1 ⊢
  rw [Array.toList_push] at p1
  have g1 : ∀ e ∈ es1.toList, GoodE e := fun e he => by
   rcases List.mem_append.mp (p1.mem_iff.mp he) with z | z
   ·exact hg e z
   ·rw [List.mem_singleton.mp z]; exact ⟨k, tk, rfl⟩
  have pk : (es1.toList.map keyE).Perm (ks ++ [k]) := by
   have := p1.map keyE
   rw [List.map_append, hk] at this
   exact this
  have nd1 : (es1.toList.map keyE).Nodup := pk.nodup_iff.mpr (List.nodup_append.mpr ⟨nd, List.nodup_cons.mpr ⟨(fun h => nomatch h), List.nodup_nil⟩, fun x hx' y hy e => hn (by rw [← List.mem_singleton.mp hy, ← e]; exact hx')⟩)
  have b1 : es1.size < scanBound := by
   rw [← Array.length_toList, p1.length_eq, List.length_append, Array.length_toList]
   show es.size + 1 < _
   omega
  have fin : ∀ (g : Bool → Sem Unit) (_ : ∀ (b : Bool) (s1 : Shared) (Q' : Unit → Shared → Prop), Q' () s1 → wpAny (model prog w) A (g b) Q' E s1) (t2 : SetTable), t2.fits es1.size = true → TabOk t2 led → wpAny (model prog w) A (do
    storeSet a es1 t2
    if (!wd && t2.tooFull) = true then do
      g (relayAll t2 es1 (SetTable.grown es1.size)).2.2
      storeSet a (relayAll t2 es1 (SetTable.grown es1.size)).1 (relayAll t2 es1 (SetTable.grown es1.size)).2.1
      pure (some true)
     else pure (some true)) (fun r s' => wpAny (model prog w) A (match r with | some added => pure added | none => setAddHashedIn a (.int k tk) (hashInt k) 99999) Q E s') E s := by
   intro g hg2 t2 f2 T2
   refine wpAny_bind (wpAny_storeSet_of ho hd ?_ (fits_of_scanBound b1))
   obtain ⟨e1, S1⟩ := SetI.store (led := led) ho hx hd g1 nd1 b1 f2 T2
   have sb := Heap.SameBut.update s.heap a (Obj.putSet es1 t2)
   by_cases hc : (!wd && t2.tooFull) = true
   ·rw [if_pos hc]
    have p2 := relayAll_perm t2 es1 (SetTable.grown es1.size)
    have f3 := relayAll_fits t2 es1 (SetTable.grown es1.size)
    have T3 := T2.relayAll es1 (SetTable.grown es1.size)
    generalize relayAll t2 es1 (SetTable.grown es1.size) = L at p2 f3 T3 ⊢
    obtain ⟨es2, t3, gv2⟩ := L
    dsimp only at p2 f3 T3 ⊢
    have sz : es2.size = es1.size := by rw [← Array.length_toList, p2.length_eq, Array.length_toList]
    have pk2 := (p2.map keyE).trans pk
    refine wpAny_bind (hg2 _ _ _ (wpAny_bind (wpAny_storeSet_of e1 rfl ?_ (fits_of_scanBound (by rw [sz]; exact b1)))))
    obtain ⟨_, S2⟩ := SetI.store (led := led) (es' := es2) (t' := t3) e1 hx rfl (fun e he => g1 e (p2.mem_iff.mp he)) ((p2.map keyE).nodup_iff.mpr nd1) (by rw [sz]; exact b1) f3 T3
    exact wpAny_pure (wpAny_pure (q true _ _ (sb.trans (Heap.SameBut.update _ a _)) S2 (fun z => absurd z hn) fun _ => pk2))
   ·rw [if_neg hc]
    exact wpAny_pure (wpAny_pure (q true _ _ sb S1 (fun z => absurd z hn) fun _ => pk))
  refine wpAny_bind (gw _ ?_)
  split
  ·refine wpAny_bind ?_
   rw [hashByValue_scannable 8 sc]
   refine wpAny_pure ?_
   exact fin _ (fun b s1 Q' z => by cases b <;> first | exact wpAny_pure z | exact wpAny_rule z) _ (by split; exact f1; exact SetTable.fits_plain_off f1) (by split; exact T1; exact ⟨T1.up, T1.dum, T1.led⟩)
  ·refine wpAny_bind (wpAny_pure ?_)
   exact fin _ (fun b s1 Q' z => by cases b <;> first | exact wpAny_pure z | exact wpAny_rule z) _ f1 T1
end
end HT
namespace HT
open PySem PyProof.Rows
section
variable {prog : Program} {w : World} {A : Around} {E : Value → Shared → Prop} {s : Shared}
def ledW (w : World) : Bool := !w.params.followText "set-order"
def freshSet (w : World) : Obj := { cls := .type "set", dict := none, data := .set #[] 0 (.fresh 0 0 (ledW w)) }
theorem freshSet_I {h : Heap} {a : Addr} (e : h.get? a = some (freshSet w)) : SetI h a [] (ledW w) :=
 ⟨_, #[], 0, .fresh 0 0 (ledW w), e, ⟨rfl, rfl, rfl⟩, rfl, (fun _ h => nomatch h), rfl, List.nodup_nil, by show 0 < scanBound; decide, rfl, ⟨List.Pairwise.nil, rfl, rfl⟩⟩
theorem set_newL (v : Value) {R : Value → Shared → Prop} (q : R (.ref s.heap.objs.size) { s with heap := s.heap.push (freshSet w) }) : codeAny (model prog w) A (.call (.builtin "set.__new__") ⟨[.type "set", v], []⟩) (wants R E) s := by
 refine codeAny_of_tree ?_
 change wpAny _ A.in1 (checkBuiltinCall "set.__new__" ⟨[.type "set", v], []⟩ >>= fun _ => again (.builtin "set.__new__" ⟨[.type "set", v], []⟩)) _ _ s
 refine wpAny_bind (wpAny_of_eq (F.newCall_set_1 v) (wpAny_pure ⟨plainId_quiet F.plain_set_new _, codeAny_builtin F.entry_set_new ?_⟩))
 rw [Around.under_plainId F.plain_set_new _]
 unfold Builtin.«set.__new__» Builtin.Frozenset.newClass
 have sub := sub_set_self
 obtain ⟨h0, g0, d0, t0, o0⟩ := s
 dsimp only
 wp_walk
 refine wpAny_askSetting (wpAny_pure ?_)
 dsimp only
 simp only [newObj]
 exact wpAny_bind (wpAny_alloc (wpAny_pure (wpAny_pure q)))
theorem set_fill {I S : Addr} {fp wr : List Addr} {n : Nat} {P : Nat → Value → Prop} {St : Nat → Heap → Prop} {R : Result → Shared → Prop} {led : Bool} (W : Walks prog w A.in1 I fp wr n P St) (nS : S ∉ fp) (val : Nat → Int) (hv : ∀ i v, P i v → ∃ t, v = .int (val i) t) (hb : ∀ ks : List Int, ks.Nodup → (∀ x ∈ ks, ∃ j < n, val j = x) → ks.length + 1 < scanBound) :
  ∀ (k i : Nat) (s : Shared) (ks : List Int), i + k = n → St i s.heap → SetI s.heap S ks led → ks.length ≤ i → (∀ x, x ∈ ks ↔ ∃ j < i, val j = x) →
   (∀ h' tk ks', SetI h' S ks' led → (∀ x, x ∈ ks' ↔ ∃ j < n, val j = x) → (∀ b o, b ∉ wr → b ≠ S → s.heap.get? b = some o → h'.get? b = some o) → R (.ok (.ret .none)) { s with heap := h', toks := tk }) →
   codeAny (model prog w) A (.builtin "set.update.loop" ⟨[.ref S, .ref I], []⟩) R s := by
 have nW : S ∉ wr := fun z => nS (W.sub S z)
 intro k
 induction k with
 | zero =>
  intro i s ks hi hst hS _ hm q
  have ei : i = n := by omega
  subst ei
  refine codeAny_builtin F.entry_set_update_loop ?_
  rw [Around.under_plainId F.plain_set_update_loop _]
  refine wpAny_bind (m := pyNext (.ref I)) (W.done s _ _ hst fun h' tk kp => ?_)
  obtain ⟨o, es, ep, t, ho, rest⟩ := hS
  exact wpAny_pure (q h' tk ks ⟨o, es, ep, t, kp S _ nW ho, rest⟩ hm fun b o h1 _ h3 => kp b o h1 h3)
 | succ k ih =>
  intro i s ks hi hst hS hlen hm q
  refine codeAny_builtin F.entry_set_update_loop ?_
  rw [Around.under_plainId F.plain_set_update_loop _]
  refine wpAny_bind (m := pyNext (.ref I)) (W.item i s _ _ (by omega) hst fun v h1 t1 hP st1 kp => ?_)
  obtain ⟨tv, rfl⟩ := hv i v hP
  have hS1 : SetI h1 S ks led := by
   obtain ⟨o, es, ep, t, ho, rest⟩ := hS
   exact ⟨o, es, ep, t, kp S _ nW ho, rest⟩
  refine wpAny_bind (m := holding [Value.int (val i) tv] (setAdd S (.int (val i) tv))) (wpAny_holding ?_)
  unfold setAdd
  refine wpAny_holding (wpAny_bind (wpAny_pyHash_int ?_))
  refine setAdd_I (s := { s with heap := h1, toks := t1 + 1 }) hS1 (hb ks (let ⟨_, _, _, _, _, _, _, _, _, nd, _⟩ := hS; nd) fun x hx => let ⟨j, h1, h2⟩ := (hm x).mp hx; ⟨j, by omega, h2⟩) fun b h2 ks2 sb S2 c1 c2 => ?_
  have m2 : ∀ x, x ∈ ks2 ↔ ∃ j < i + 1, val j = x := fun x => by
   by_cases hin : val i ∈ ks
   ·rw [(c1 hin).mem_iff, hm x]
    refine ⟨fun ⟨j, h1, h2⟩ => ⟨j, by omega, h2⟩, fun ⟨j, h1, h2⟩ => ?_⟩
    by_cases e : j = i
    ·rw [e] at h2
     rw [h2] at hin
     exact (hm x).mp hin
    ·exact ⟨j, by omega, h2⟩
   ·rw [(c2 hin).mem_iff, List.mem_append, List.mem_singleton, hm x]
    refine ⟨fun z => z.elim (fun ⟨j, h1, h2⟩ => ⟨j, by omega, h2⟩) fun e => ⟨i, by omega, e.symm⟩, fun ⟨j, h1, h2⟩ => ?_⟩
    by_cases e : j = i
    ·rw [e] at h2
     exact .inr h2.symm
    ·exact .inl ⟨j, by omega, h2⟩
  have l2 : ks2.length ≤ i + 1 := by
   by_cases hin : val i ∈ ks
   ·rw [(c1 hin).length_eq]; omega
   ·rw [(c2 hin).length_eq, List.length_append]
    show ks.length + 1 ≤ _
    omega
  refine wpAny_pure ⟨plainId_quiet F.plain_set_update_loop _, ih (i + 1) _ ks2 (by omega) (W.frame _ _ _ st1 fun c hc o h => ?_) S2 l2 m2 fun h' tk ks' S' m' kp' => q h' tk ks' S' m' fun c o h1' h2' h3' => kp' c o h1' h2' ?_⟩
  ·rw [sb.2 c (fun z : c = S => nS (by rw [← z]; exact hc))]; exact h
  ·show h2.get? c = some o
   rw [sb.2 c h2']; exact kp c o h1' h3'
set_option maxHeartbeats 6400000 in
theorem call_setI {l : Addr} {items : Array Value} {ns : List Int} {Q : Value → Shared → Prop} (hh : A.handled = none) (hl : s.heap.IsList l items) (hi : IntsAre items.toList ns) (hb : ∀ ks : List Int, ks.Nodup → (∀ x ∈ ks, x ∈ ns) → ks.length + 1 < scanBound)
  (q : ∀ h' tk ks, SetI h' s.heap.objs.size ks (ledW w) → (∀ x, x ∈ ks ↔ x ∈ ns) → (∀ b o, b < s.heap.objs.size → s.heap.get? b = some o → h'.get? b = some o) → Q (.ref s.heap.objs.size) { s with heap := h', toks := tk }) : wpAny (model prog w) A (call (.type "set") [.ref l]) Q E s := by
 obtain ⟨c0, tl0, mro0⟩ := F.called_set.mro
 have made0 := F.called_set.made
 have sub0 := F.called_set.sub
 have lt : l < s.heap.objs.size := by obtain ⟨_, e, _⟩ := hl; exact Heap.lt_size e
 refine wpAny_call (codeAny_of_tree ?_)
 change wpAny _ _ (callAny (.type "set") _) _ _ _
 refine wpAny_pure ⟨Code.quiet_builtin _ (by decide +kernel), codeAny_builtin F.entry_type_call ?_⟩
 rw [Around.under_plain (weight_type_call_type "set" [.ref l] []) rfl]
 have nt := F.called_set.notType
 have cc := F.called_set.canCreate
 have tc := F.typeCall_set_1 (.ref l)
 repeat (any_goals (first | assumption | wp_step))
 refine codeAny_mono (set_newL (.ref l) (E := E) (R := fun ob s1 => ob = .ref s.heap.objs.size ∧ s1 = { s with heap := s.heap.push (freshSet w) }) ⟨rfl, rfl⟩) fun r s1 hr => ?_
 cases r with
 | error e => exact hr
 | ok fl =>
  cases fl with
  | ret ob =>
   obtain ⟨rfl, rfl⟩ := hr
   have eS : (s.heap.push (freshSet w)).get? s.heap.objs.size = some (freshSet w) := Heap.get?_push_size _ rfl
   have tS : Shared.TypeIs { s with heap := s.heap.push (freshSet w) } (.ref s.heap.objs.size) "set" := ⟨_, eS, rfl⟩
   have li := F.called_set.init.lookup
   have bi := F.called_set.init.bind (.ref s.heap.objs.size)
   repeat (any_goals (first | assumption | wp_step))
   refine codeAny_mono (codeAny_call_builtin (R := wants (fun r s2 => r = .none ∧ ∃ h' tk ks, s2 = { s with heap := h', toks := tk } ∧ SetI h' s.heap.objs.size ks (ledW w) ∧ (∀ x, x ∈ ks ↔ x ∈ ns) ∧ (∀ b o, b < s.heap.objs.size → s.heap.get? b = some o → h'.get? b = some o)) E) F.called_set.init.plain F.entry_set_init (check_set_init_1 tS ?_)) fun r2 s2 hr2 => ?_
   ·have ll : (s.heap.push (freshSet w)).IsList l items := hl.push _
    obtain ⟨⟨oc, od, odat, osl⟩, ho, hc, nl, hd⟩ := id ll
    simp only at hc hd
    subst hc hd
    have s1 := F.sub_list_set
    have s2 := F.sub_list_frozenset
    have nd : (Value.type "list" == Value.type "dict") = false := by decide
    unfold freshSet at eS
    unfold Builtin.«set.__init__» noKeywords Builtin.Frozenset.updateFrom
    generalize ePI : pyIter = PI
    wp_walk
    subst ePI
    refine wpAny_pyIter_list ll (wpAny_bind (wpAny_runValue ?_))
    have h3 : A.in1.in1.in1.handled = none := by simp [hh]
    have sz : (s.heap.push (freshSet w)).objs.size = s.heap.objs.size + 1 := Heap.size_push ..
    have ne : l ≠ (s.heap.push (freshSet w)).objs.size := by rw [sz]; exact Nat.ne_of_lt (Nat.lt_succ_of_lt lt)
    have nf : s.heap.objs.size ∉ [(s.heap.push (freshSet w)).objs.size, l] := by
     rw [sz, List.mem_cons, List.mem_singleton]
     exact fun z => z.elim (fun y => absurd y (Nat.ne_of_lt (Nat.lt_succ_self _))) fun y => absurd y (Nat.ne_of_gt lt)
    have hsz : ns.length = items.size := by rw [← hi.length, Array.length_toList]
    refine set_fill (Walks.list h3 _ l ne items) nf (fun i => ns.getD i 0) (fun i v hv => IntsAre.int_at hi i v (by rw [Array.getElem?_toList]; exact hv)) (fun ks nd m => hb ks nd fun x hx => by
     obtain ⟨j, hj, rfl⟩ := m x hx
     rw [List.getD_eq_getElem?_getD, List.getElem?_eq_getElem (by omega)]
     exact List.getElem_mem _) items.size 0 _ [] (Nat.zero_add _)
     ⟨⟨_, Heap.get?_push_size _ rfl, rfl, rfl⟩, ll.push _⟩ (freshSet_I (Heap.get?_push_of_some _ eS)) (Nat.zero_le _) (fun x => ⟨(fun z => nomatch z), fun ⟨j, hj, _⟩ => absurd hj (Nat.not_lt_zero _)⟩) fun h' tk ks S' m' kp => ?_
    refine wpAny_pure (wpAny_pure ⟨rfl, h', tk, ks, rfl, S', fun x => ?_, fun b o hb' e => ?_⟩)
    ·rw [m' x]
     constructor
     ·rintro ⟨j, hj, rfl⟩
      rw [List.getD_eq_getElem?_getD, List.getElem?_eq_getElem (by omega)]
      exact List.getElem_mem _
     ·intro hx
      obtain ⟨j, hj, e⟩ := List.mem_iff_getElem.mp hx
      exact ⟨j, by omega, by rw [List.getD_eq_getElem?_getD, List.getElem?_eq_getElem hj]; exact e⟩
    ·refine kp b o (fun z => ?_) (Nat.ne_of_lt hb') (Heap.get?_push_of_some _ (Heap.get?_push_of_some _ e))
     rw [List.mem_singleton, sz] at z
     have y := Nat.lt_succ_of_lt hb'
     rw [z] at y
     exact absurd y (Nat.lt_irrefl _)
   ·cases r2 with
    | error e => exact hr2
    | ok fl2 =>
     cases fl2 with
     | ret r =>
      obtain ⟨rfl, h', tk, ks, rfl, S', m', kp⟩ := hr2
      repeat (any_goals (first | assumption | wp_step))
      exact q _ _ _ S' m' kp
     | _ => exact hr2.elim
  | _ => exact hr.elim
end
end HT
namespace HT
open PySem PyProof.Rows
theorem slot_seti_next : Slot "set_iterator" "__next__" "set_iterator.__next__" :=
 .of (owner := "set_iterator") (n := "__next__") (by rw [typeLookup_type, builtinLookup_eq_fast]; kernel_rfl) (by decide +kernel) (by decide +kernel) (by decide +kernel) (by first | exact .inl (by decide +kernel) | exact .inr (by decide +kernel)) (by rw [isSubtype_type]; kernel_rfl)
theorem entry_seti_next : entryFor table "set_iterator.__next__" = some Builtin.«set_iterator.__next__» := entryFor_of_fast (by kernel_rfl)
theorem args_seti_next (a : Value) : argsOk "set_iterator.__next__" ⟨[a], []⟩ := by unfold argsOk; kernel_rfl
theorem entry_set_iter : entryFor table "set.__iter__" = some Builtin.«frozenset.__iter__» := entryFor_alias (id' := "frozenset.__iter__") (by kernel_rfl) rfl (by decide +kernel) (by kernel_rfl)
theorem choose_wp {M : Model} {A : Around} {E : Value → Shared → Prop} {s : Shared} {src : Source} {n : Nat} {Q : Nat → Shared → Prop} (hn : n ≠ 0) (q : ∀ i d, i < n → Q i { s with drawn := d }) : wpAny M A (choose src n) Q E s :=
 fun _ _ _ => ⟨hn, q _ _ (Nat.mod_lt _ (Nat.pos_of_ne_zero hn))⟩
theorem perm_out {α : Type} : ∀ {l : List α} {i : Nat} (h : i < l.length), (l[i] :: l.eraseIdx i).Perm l
 | _ :: _, 0, _ => List.Perm.refl _
 | a :: r, i + 1, h => ((List.Perm.swap a _ _).trans (List.Perm.cons a (perm_out (l := r) (i := i) (Nat.lt_of_succ_lt_succ h))))
theorem draw_perm {M : Model} {A : Around} {E : Value → Shared → Prop} {α : Type} (n : Nat) : ∀ (xs : List α) (s : Shared) (Q : List α → Shared → Prop), xs.length ≤ n → (∀ ys d, ys.Perm xs → Q ys { s with drawn := d }) → wpAny M A (drawOrder n xs) Q E s := by
 induction n with
 | zero =>
  intro xs s Q hl q
  have e : xs = [] := List.length_eq_zero_iff.mp (by omega)
  subst e
  exact wpAny_pure (q [] s.drawn (List.Perm.refl _))
 | succ n ih =>
  intro xs s Q hl q
  cases xs with
  | nil => exact wpAny_pure (q [] s.drawn (List.Perm.refl _))
  | cons x r =>
   unfold drawOrder
   refine wpAny_bind (choose_wp (by simp) fun i d hi => ?_)
   rw [List.getElem?_eq_getElem hi]
   refine wpAny_bind (ih _ _ _ ?_ fun ys d' hp => wpAny_pure (q _ d' ?_))
   ·rw [List.length_eraseIdx_of_lt hi]
    rw [List.length_cons] at hl ⊢
    omega
   ·exact (List.Perm.cons _ hp).trans (perm_out hi)
theorem pick_go {α : Type} (next : Nat → Nat) : ∀ (fuel k : Nat) (left : List α) (out : Array α), left.length = fuel → (pickOrder.go next fuel k left out).toList.Perm (out.toList ++ left)
 | 0, k, [], out, _ => by show out.toList.Perm _; rw [List.append_nil]
 | fuel + 1, k, left, out, hl => by
  have hi : next k % left.length < left.length := Nat.mod_lt _ (by omega)
  unfold pickOrder.go
  rw [List.getElem?_eq_getElem hi]
  refine (pick_go next fuel (k + 1) _ _ (by rw [List.length_eraseIdx_of_lt hi]; omega)).trans ?_
  rw [Array.toList_push, List.append_assoc]
  exact List.Perm.append_left _ (perm_out hi)
theorem pick_perm {α : Type} (next : Nat → Nat) (xs : Array α) : (pickOrder next xs).toList.Perm xs.toList := pick_go next _ 0 _ #[] (Array.length_toList)
def slotAt (place : Array Nat) (i : Nat) : Nat := if i = 0 then 0 else place.getD (i - 1) 0 + 1
theorem BelowAt.uniq {xs : Array Nat} {j b c : Nat} (B : BelowAt xs j b) (C : BelowAt xs j c) : b = c := by
 rcases Nat.lt_trichotomy b c with z | z | z
 ·have h1 := C.lo b z
  have h2 := B.hi b (Nat.le_refl _) (by have := C.le; omega)
  omega
 ·exact z
 ·have h1 := B.lo c z
  have h2 := C.hi c (Nat.le_refl _) (by have := B.le; omega)
  omega
theorem slotAt_below {xs : Array Nat} (u : UpP xs) {i : Nat} (hi : i ≤ xs.size) : SetTable.below xs (slotAt xs i) = i := by
 refine (below_is u _).uniq ?_
 unfold slotAt
 by_cases h0 : i = 0
 ·rw [if_pos h0, h0]
  exact ⟨Nat.zero_le _, fun k h => absurd h (Nat.not_lt_zero _), fun k _ _ => Nat.zero_le _⟩
 ·rw [if_neg h0]
  refine ⟨hi, fun k hk => ?_, fun k h1 h2 => ?_⟩
  ·by_cases e : k = i - 1
   ·rw [e]; exact Nat.lt_succ_self _
   ·have := u.at (show k < i - 1 by omega) (by omega)
    omega
  ·exact u.at (show i - 1 < k by omega) h2
section
variable {prog : Program} {w : World} {A : Around} {E : Value → Shared → Prop} {s : Shared} {a : Addr} {o : Obj} {es : Array (Int × Value)} {ep : Nat} {t : SetTable}
theorem next_text {slot given : Nat} {Q : Option (Value × Nat) → Shared → Prop} (ho : s.heap.get? a = some o) (hd : o.data = .set es ep t) (hf : t.fits es.size = true) (hT : w.params.followText "set-order" = true)
  (q : Q (((pickOrder (w.params.setOrder a ep) es)[given]?).map fun e => (e.2, slot)) s) : wpAny (model prog w) A (setNext a slot given ep) Q E s := by
 have by_ : ∀ {Q' : Bool → Shared → Prop}, Q' true s → wpAny (model prog w) A setsByText Q' E s := fun z => by
  unfold setsByText
  have z' := z
  rw [← hT] at z'
  exact wpAny_bind (wpAny_askSetting (wpAny_pure z'))
 unfold setNext
 refine wpAny_bind (wpAny_setState_of ho hd hf (wpAny_bind (by_ ?_)))
 rw [if_pos rfl]
 dsimp only
 rw [if_neg (by simp)]
 unfold setWalk
 refine wpAny_bind (wpAny_bind (wpAny_setState_of ho hd hf (wpAny_bind (by_ ?_))))
 rw [if_pos rfl]
 exact wpAny_bind (wpAny_askSetting (wpAny_pure (wpAny_pure q)))
theorem next_led {slot given : Nat} {Q : Option (Value × Nat) → Shared → Prop} (ho : s.heap.get? a = some o) (hd : o.data = .set es ep t) (hf : t.fits es.size = true) (hT : w.params.followText "set-order" = false) (hl : t.led = true) (hp : (!t.plain && decide (es.size > 1)) = false)
  (q : Q (match es[SetTable.below t.place slot]?, t.place[SetTable.below t.place slot]? with | some (_, x), some j => some (x, j + 1) | _, _ => none) s) : wpAny (model prog w) A (setNext a slot given ep) Q E s := by
 have by_ : ∀ {Q' : Bool → Shared → Prop}, Q' false s → wpAny (model prog w) A setsByText Q' E s := fun z => by
  unfold setsByText
  have z' := z
  rw [← hT] at z'
  exact wpAny_bind (wpAny_askSetting (wpAny_pure z'))
 unfold setNext
 refine wpAny_bind (wpAny_setState_of ho hd hf (wpAny_bind (by_ ?_)))
 rw [if_neg Bool.false_ne_true]
 dsimp only
 change wpAny _ _ (if (!t.plain && decide (es.size > 1)) = true then _ else _) _ _ _
 rw [if_neg (by rw [hp]; exact Bool.false_ne_true)]
 change wpAny _ _ ((if (!t.led && !es.isEmpty) = true then _ else _) >>= _) _ _ _
 rw [if_neg (by rw [hl]; exact Bool.false_ne_true)]
 exact wpAny_bind (wpAny_pure (wpAny_pure q))
end
end HT
namespace HT
open PySem PyProof.Rows
def itO (first : Value) (i n ep : Nat) (a : Addr) : Obj := { cls := .type "set_iterator", dict := none, data := .fields #[first, rawInt i, .ref a, rawInt n, rawInt ep], slots := #[] }
section
variable {prog : Program} {w : World} {A : Around} {E : Value → Shared → Prop} {s : Shared} {a I : Addr} {o : Obj} {es : Array (Int × Value)} {ep : Nat} {t : SetTable}
theorem entries_wp {Q : Array (Int × Value) → Shared → Prop} (ho : s.heap.get? a = some o) (hd : o.data = .set es ep t) (hf : t.fits es.size = true) (q : Q es s) : wpAny (model prog w) A (setEntries a) Q E s := by
 unfold setEntries
 exact wpAny_bind (wpAny_setState_of ho hd hf (wpAny_pure q))
theorem stop_wp {Q : Option Value → Shared → Prop} {K : Value → Sem (Option Value)} (hh : A.handled = none) (q : ∀ h', (∀ b o, s.heap.get? b = some o → h'.get? b = some o) → ∀ x, (∃ oo, h'.get? x = some oo ∧ oo.cls = .type "StopIteration") → wpAny (model prog w) A (K (.ref x)) Q E { s with heap := h' }) :
  wpAny (model prog w) A.in1 (newExc (.type "StopIteration") [] >>= fun x => raiseNew (α := Fin) x) (fun _ _ => False) (fun e s' => wpAny (model prog w) A (K e) Q E s') s := by
 refine wpAny_bind ?_
 simp only [newExc, newTuple]
 refine wpAny_bind (wpAny_newObj_type ?_ (by size_fits))
 refine wpAny_bind (m := firstArgMember _ _) (wpAny_of_eq (a := Value.none) (by first | rfl | (simp only [firstArgMember]; rfl)) ?_)
 refine wpAny_newObj_type ?_ (by size_fits)
 simp only [raiseNew]
 refine wpAny_bind (wpAny_handled ?_)
 rw [show A.in1.handled = none from hh]
 refine wpAny_bind (wpAny_pure (wpAny_throw ?_))
 exact q _ (fun b o e => Heap.get?_push_of_some _ (Heap.get?_push_of_some _ e)) _ ⟨_, Heap.get?_push_size _ rfl, rfl⟩
theorem seti_item {sl sl' i n : Nat} {v : Value} {Q : Option Value → Shared → Prop} (hI : s.heap.get? I = some (itO (rawInt sl) i n ep a)) (ho : s.heap.get? a = some o) (hd : o.data = .set es ep t) (hf : t.fits es.size = true) (hz : es.size = n)
  (hn : ∀ (E' : Value → Shared → Prop) (Q' : Option (Value × Nat) → Shared → Prop), Q' (some (v, sl')) s → wpAny (model prog w) A.in1 (setNext a sl i ep) Q' E' s)
  (q : ∀ h', h'.get? I = some (itO (rawInt sl') (i + 1) n ep a) → Heap.SameBut I s.heap h' → Q (some v) { s with heap := h' }) : wpAny (model prog w) A (pyNext (.ref I)) Q E s := by
 have ty : s.TypeIs (.ref I) "set_iterator" := ⟨_, hI, rfl⟩
 unfold pyNext
 refine wpAny_bind (wpAny_attempt (wpAny_callSpecial?_slot (name := Str.ofString "__next__") ty slot_seti_next (wpAny_call_entry slot_seti_next ty entry_seti_next ?_ (args_seti_next _))))
 change wpAny _ _ (fieldsOf (.ref I) >>= _) _ _ s
 refine wpAny_bind (wpAny_fieldsOf hI rfl ?_)
 change wpAny _ _ (setEntries a >>= _) _ _ s
 refine wpAny_bind (entries_wp ho hd hf ?_)
 rw [hz]
 change wpAny _ _ (if (((n : Nat) : Int) != ((n : Nat) : Int)) = true then _ else _) _ _ s
 rw [if_neg (by simp)]
 change wpAny _ _ (setNext a ((sl : Nat) : Int).toNat ((i : Nat) : Int).toNat ((ep : Nat) : Int).toNat >>= _) _ _ s
 rw [Int.toNat_natCast, Int.toNat_natCast, Int.toNat_natCast]
 refine wpAny_bind (hn _ _ ?_)
 change wpAny _ _ (setField (.ref I) 0 (rawInt (sl' : Nat)) >>= _) _ _ s
 refine wpAny_bind (wpAny_setField_rec hI (by simp) fun h1 e1 sb1 => ?_)
 refine wpAny_bind (m := setField (.ref I) 1 (rawInt (((i : Nat) : Int) + 1))) (wpAny_setField_rec e1 (by simp) fun h2 e2 sb2 => wpAny_pure ⟨v, rfl, wpAny_pure (q _ ?_ (sb1.trans sb2))⟩)
 exact e2
theorem seti_end {sl i n : Nat} {Q : Option Value → Shared → Prop} (hh : A.handled = none) (hI : s.heap.get? I = some (itO (rawInt sl) i n ep a)) (ho : s.heap.get? a = some o) (hd : o.data = .set es ep t) (hf : t.fits es.size = true) (hz : es.size = n)
  (hn : ∀ (E' : Value → Shared → Prop) (Q' : Option (Value × Nat) → Shared → Prop), Q' none s → wpAny (model prog w) A.in1 (setNext a sl i ep) Q' E' s)
  (q : ∀ h', Heap.ExtBut I s.heap h' → Q none { s with heap := h' }) : wpAny (model prog w) A (pyNext (.ref I)) Q E s := by
 have ty : s.TypeIs (.ref I) "set_iterator" := ⟨_, hI, rfl⟩
 unfold pyNext
 refine wpAny_bind (wpAny_attempt (wpAny_callSpecial?_slot (name := Str.ofString "__next__") ty slot_seti_next (wpAny_call_entry slot_seti_next ty entry_seti_next ?_ (args_seti_next _))))
 change wpAny _ _ (fieldsOf (.ref I) >>= _) _ _ s
 refine wpAny_bind (wpAny_fieldsOf hI rfl ?_)
 change wpAny _ _ (setEntries a >>= _) _ _ s
 refine wpAny_bind (entries_wp ho hd hf ?_)
 rw [hz]
 change wpAny _ _ (if (((n : Nat) : Int) != ((n : Nat) : Int)) = true then _ else _) _ _ s
 rw [if_neg (by simp)]
 change wpAny _ _ (setNext a ((sl : Nat) : Int).toNat ((i : Nat) : Int).toNat ((ep : Nat) : Int).toNat >>= _) _ _ s
 rw [Int.toNat_natCast, Int.toNat_natCast, Int.toNat_natCast]
 refine wpAny_bind (hn _ _ ?_)
 change wpAny _ _ (setField (.ref I) 2 .none >>= _) _ _ s
 refine wpAny_bind (wpAny_setField_rec hI (by simp) fun h1 e1 sb1 => ?_)
 refine wpAny_mono (stop_wp (A := A) (s := { s with heap := h1 }) hh fun h2 kp x ⟨oo, e2, c2⟩ => ?_) (fun _ _ z => z.elim) fun e s' z => z
 refine wpAny_bind (wpAny_isInstance (T := "StopIteration") (b := true) ⟨oo, e2, c2⟩ isSubtype_stop ?_)
 exact wpAny_pure (q _ fun b ob hb e => kp b ob (sb1.extBut b ob hb e))
theorem drawn_wp {p : Nat} {e : Int × Value} {Q : Value → Shared → Prop} (ho : s.heap.get? a = some o) (hd : o.data = .set es ep t) (hf : t.fits es.size = true) (he : es[p]? = some e) (q : Q e.2 s) : wpAny (model prog w) A (setNextDrawn a p ep) Q E s := by
 unfold setNextDrawn
 refine wpAny_bind (wpAny_setState_of ho hd hf ?_)
 dsimp only
 rw [if_neg (by simp), he]
 exact wpAny_pure q
theorem setd_item {T : Addr} {ps : List Nat} {i n p : Nat} {e : Int × Value} {Q : Option Value → Shared → Prop} (hI : s.heap.get? I = some (itO (.ref T) i n ep a)) (hT : IsTup s.heap T (ps.map fun p : Nat => rawInt p).toArray) (ho : s.heap.get? a = some o) (hd : o.data = .set es ep t) (hf : t.fits es.size = true) (hz : es.size = n)
  (hp : ps[i]? = some p) (he : es[p]? = some e) (q : ∀ h', h'.get? I = some (itO (.ref T) (i + 1) n ep a) → Heap.SameBut I s.heap h' → Q (some e.2) { s with heap := h' }) : wpAny (model prog w) A (pyNext (.ref I)) Q E s := by
 have ty : s.TypeIs (.ref I) "set_iterator" := ⟨_, hI, rfl⟩
 obtain ⟨ot, hot, _, nt, hdt⟩ := hT
 unfold pyNext
 refine wpAny_bind (wpAny_attempt (wpAny_callSpecial?_slot (name := Str.ofString "__next__") ty slot_seti_next (wpAny_call_entry slot_seti_next ty entry_seti_next ?_ (args_seti_next _))))
 change wpAny _ _ (fieldsOf (.ref I) >>= _) _ _ s
 refine wpAny_bind (wpAny_fieldsOf hI rfl ?_)
 change wpAny _ _ (setEntries a >>= _) _ _ s
 refine wpAny_bind (entries_wp ho hd hf ?_)
 rw [hz]
 change wpAny _ _ (if (((n : Nat) : Int) != ((n : Nat) : Int)) = true then _ else _) _ _ s
 rw [if_neg (by simp)]
 change wpAny _ _ (seqItems? (.ref T) >>= _) _ _ s
 refine wpAny_bind (wpAny_seqItems hot hdt ?_)
 have ep' : (ps.map fun p : Nat => rawInt p).toArray[((i : Nat) : Int).toNat]? = some (rawInt p) := by rw [Int.toNat_natCast, List.getElem?_toArray, List.getElem?_map, hp]; rfl
 dsimp only
 rw [ep']
 change wpAny _ _ (setNextDrawn a ((p : Nat) : Int).toNat ((ep : Nat) : Int).toNat >>= _) _ _ s
 rw [Int.toNat_natCast, Int.toNat_natCast]
 refine wpAny_bind (drawn_wp ho hd hf he ?_)
 refine wpAny_bind (m := setField (.ref I) 1 (rawInt (((i : Nat) : Int) + 1))) (wpAny_setField_rec hI (by simp) fun h2 e2 sb2 => wpAny_pure ⟨e.2, rfl, wpAny_pure (q _ ?_ sb2)⟩)
 exact e2
theorem setd_end {T : Addr} {ps : List Nat} {i n : Nat} {Q : Option Value → Shared → Prop} (hh : A.handled = none) (hI : s.heap.get? I = some (itO (.ref T) i n ep a)) (hT : IsTup s.heap T (ps.map fun p : Nat => rawInt p).toArray) (ho : s.heap.get? a = some o) (hd : o.data = .set es ep t) (hf : t.fits es.size = true) (hz : es.size = n)
  (hp : ps[i]? = none) (q : ∀ h', Heap.ExtBut I s.heap h' → Q none { s with heap := h' }) : wpAny (model prog w) A (pyNext (.ref I)) Q E s := by
 have ty : s.TypeIs (.ref I) "set_iterator" := ⟨_, hI, rfl⟩
 obtain ⟨ot, hot, _, nt, hdt⟩ := hT
 unfold pyNext
 refine wpAny_bind (wpAny_attempt (wpAny_callSpecial?_slot (name := Str.ofString "__next__") ty slot_seti_next (wpAny_call_entry slot_seti_next ty entry_seti_next ?_ (args_seti_next _))))
 change wpAny _ _ (fieldsOf (.ref I) >>= _) _ _ s
 refine wpAny_bind (wpAny_fieldsOf hI rfl ?_)
 change wpAny _ _ (setEntries a >>= _) _ _ s
 refine wpAny_bind (entries_wp ho hd hf ?_)
 rw [hz]
 change wpAny _ _ (if (((n : Nat) : Int) != ((n : Nat) : Int)) = true then _ else _) _ _ s
 rw [if_neg (by simp)]
 change wpAny _ _ (seqItems? (.ref T) >>= _) _ _ s
 refine wpAny_bind (wpAny_seqItems hot hdt ?_)
 have ep' : (ps.map fun p : Nat => rawInt p).toArray[((i : Nat) : Int).toNat]? = none := by rw [Int.toNat_natCast, List.getElem?_toArray, List.getElem?_map, hp]; rfl
 dsimp only
 rw [ep']
 change wpAny _ _ (setField (.ref I) 0 (rawInt 0) >>= _) _ _ s
 refine wpAny_bind (wpAny_setField_rec hI (by simp) fun h0 e0 sb0 => ?_)
 change wpAny _ _ (setField (.ref I) 2 .none >>= _) _ _ _
 refine wpAny_bind (wpAny_setField_rec e0 (by simp) fun h1 e1 sb1 => ?_)
 refine wpAny_mono (stop_wp (A := A) (s := { s with heap := h1 }) hh fun h2 kp x ⟨oo, e2, c2⟩ => ?_) (fun _ _ z => z.elim) fun e s' z => z
 refine wpAny_bind (wpAny_isInstance (T := "StopIteration") (b := true) ⟨oo, e2, c2⟩ isSubtype_stop ?_)
 exact wpAny_pure (q _ fun b ob hb e => kp b ob ((sb0.trans sb1).extBut b ob hb e))
theorem iter_set {Q : Value → Shared → Prop} (ho : s.heap.get? a = some o) (hx : o.ExactSet) (hd : o.data = .set es ep t) (hf : t.fits es.size = true)
  (q1 : (w.params.followText "set-order" = true ∨ (!t.plain && decide (es.size > 1)) = false) → Q (.ref s.heap.objs.size) { s with heap := s.heap.push (itO (rawInt 0) 0 es.size ep a) })
  (q2 : ∀ (ps : List Nat) (d : Drawn), ps.Perm (List.range es.size) → Q (.ref (s.heap.objs.size + 1)) { s with heap := (s.heap.push { cls := .type "tuple", data := .seq (ps.map fun p : Nat => rawInt p).toArray }).push (itO (.ref s.heap.objs.size) 0 es.size ep a), drawn := d }) (hsz : es.size ≤ sizeLine) : wpAny (model prog w) A (pyIter (.ref a)) Q E s := by
 have ty : s.TypeIs (.ref a) "set" := ⟨o, ho, hx.1⟩
 refine wpAny_pyIter_slot ty PySem.F.slot_set_iter (wpAny_call_entry PySem.F.slot_set_iter ty entry_set_iter ?_ (PySem.F.args_set_iter_1 _))
 unfold Builtin.«frozenset.__iter__»
 change wpAny _ _ (Builtin.Frozenset.sizeOf a >>= _) _ _ s
 unfold Builtin.Frozenset.sizeOf
 refine wpAny_bind (wpAny_bind (entries_wp ho hd hf (wpAny_pure ?_)))
 unfold setDrawn
 refine wpAny_bind (wpAny_bind (wpAny_setState_of ho hd hf ?_))
 unfold setsByText
 refine wpAny_bind (wpAny_bind (wpAny_askSetting (wpAny_pure (wpAny_pure ?_))))
 change wpAny _ _ (if (!w.params.followText "set-order" && (!t.plain && decide (es.size > 1))) = true then _ else _) _ _ _
 by_cases hc : (!w.params.followText "set-order" && (!t.plain && decide (es.size > 1))) = true
 ·rw [if_pos hc]
  refine wpAny_bind (draw_perm es.size (List.range es.size) s _ (by rw [List.length_range]; exact Nat.le_refl _) fun ps d hp => ?_)
  have hl : (ps.map fun p : Nat => rawInt p).length ≤ sizeLine := by rw [List.length_map, hp.length_eq, List.length_range]; exact hsz
  unfold newTuple
  refine wpAny_bind (wpAny_newObj_type ?_ (by first | exact hl | simpa using hl))
  refine wpAny_bind (m := setEpoch a) (wpAny_setEpoch_of (Heap.get?_push_of_some _ ho) hd hf ?_)
  have sz : (s.heap.push { cls := .type "tuple", data := .seq (ps.map fun p : Nat => rawInt p).toArray }).objs.size = s.heap.objs.size + 1 := Heap.size_push ..
  refine wpAny_bind (wpAny_newObj_type (wpAny_pure ⟨_, rfl, "set_iterator", _, ⟨_, Heap.get?_push_size _ rfl, rfl⟩, slot_seti_next.lookup, ?_⟩))
  have z := q2 ps d hp
  rw [← sz] at z
  exact z
 ·rw [if_neg hc]
  refine wpAny_bind (wpAny_pure ?_)
  refine wpAny_bind (m := setEpoch a) (wpAny_setEpoch_of ho hd hf ?_)
  refine wpAny_bind (wpAny_newObj_type (wpAny_pure ⟨_, rfl, "set_iterator", _, ⟨_, Heap.get?_push_size _ rfl, rfl⟩, slot_seti_next.lookup, q1 ?_⟩))
  cases hT : w.params.followText "set-order" with
  | true => exact .inl rfl
  | false =>
   rw [hT] at hc
   exact .inr (Bool.eq_false_iff.mpr hc)
end
end HT
namespace HT
open PySem PyProof.Rows
structure WalkN (prog : Program) (w : World) (A : Around) (I : Addr) (fp : List Addr) (vs : List Value) (St : Nat → Heap → Prop) : Prop where
 inI : I ∈ fp
 frame : ∀ i h h', St i h → (∀ b ∈ fp, ∀ o, h.get? b = some o → h'.get? b = some o) → St i h'
 item : ∀ (i : Nat) (v : Value) (s : Shared) (Q : Option Value → Shared → Prop) (E : Value → Shared → Prop), vs[i]? = some v → St i s.heap → (∀ h', St (i + 1) h' → (∀ b o, b ≠ I → s.heap.get? b = some o → h'.get? b = some o) → Q (some v) { s with heap := h' }) → wpAny (model prog w) A (pyNext (.ref I)) Q E s
 done : ∀ (s : Shared) (Q : Option Value → Shared → Prop) (E : Value → Shared → Prop), St vs.length s.heap → (∀ h', (∀ b o, b ≠ I → s.heap.get? b = some o → h'.get? b = some o) → Q none { s with heap := h' }) → wpAny (model prog w) A (pyNext (.ref I)) Q E s
section
variable {prog : Program} {w : World} {A : Around} {E : Value → Shared → Prop} {s : Shared} {a I S : Addr}
theorem ext_loop {fp : List Addr} {vs : List Value} {St : Nat → Heap → Prop} {R : Result → Shared → Prop} {res : Value} (W : WalkN prog w A.in1 I fp vs St) (nS : S ∉ fp) (hz : vs.length ≤ sizeLine) : ∀ (k i : Nat) (s : Shared) (acc : Array Value) (c : Nat), i + k = vs.length → St i s.heap →
  s.heap.get? S = some { cls := .type "list", dict := none, data := .seq acc c, slots := #[] } → acc.toList = vs.take i →
  (∀ h' acc' c', acc'.toList = vs → h'.get? S = some { cls := .type "list", dict := none, data := .seq acc' c', slots := #[] } → (∀ b o, b ≠ I → b ≠ S → s.heap.get? b = some o → h'.get? b = some o) → R (.ok (.ret res)) { s with heap := h' }) →
  codeAny (model prog w) A (.builtin "list.extend.loop" ⟨[.ref S, .ref I, res], []⟩) R s := by
 have SI : S ≠ I := fun z => nS (by rw [z]; exact W.inI)
 intro k
 induction k with
 | zero =>
  intro i s acc c hi hst hS ha q
  have ei : i = vs.length := by omega
  subst ei
  refine codeAny_builtin F.entry_extend_loop ?_
  rw [Around.under_plainId F.plain_extend_loop _]
  refine wpAny_bind (m := pyNext (.ref I)) (W.done s _ _ hst fun h' kp => ?_)
  exact wpAny_pure (q h' acc c (by rw [ha, List.take_length]) (kp S _ SI hS) fun b o h1 _ h3 => kp b o h1 h3)
 | succ k ih =>
  intro i s acc c hi hst hS ha q
  have hlt : i < vs.length := by omega
  have sza : acc.size = i := by rw [← Array.length_toList, ha, List.length_take]; omega
  refine codeAny_builtin F.entry_extend_loop ?_
  rw [Around.under_plainId F.plain_extend_loop _]
  refine wpAny_bind (m := pyNext (.ref I)) (W.item i vs[i] s _ _ (List.getElem?_eq_getElem hlt) hst fun h1 st1 kp => ?_)
  have hS1 := kp S _ SI hS
  refine wpAny_bind (m := updateSeq S (·.push vs[i])) (wpAny_updateSeq hS1 rfl (wpAny_pure ⟨plainId_quiet F.plain_extend_loop _, ih (i + 1) _ (acc.push vs[i]) _ (by omega) (W.frame _ _ _ st1 fun b hb o h => ?_) (Heap.get?_update_self _ hS1 rfl) ?_ fun h' acc' c' h1' h2' h3' => q h' acc' c' h1' h2' fun b o b1 b2 b3 => h3' b o b1 b2 ?_⟩) (by rw [sza]; omega) (by show (acc.push vs[i]).size ≤ sizeLine + 1; rw [Array.size_push, sza]; omega))
  ·rw [Heap.get?_update_other _ _ (fun z : S = b => nS (by rw [z]; exact hb))]; exact h
  ·rw [Array.toList_push, ha, List.take_add_one, List.getElem?_eq_getElem hlt]; rfl
  ·rw [Heap.get?_update_other _ _ (Ne.symm b2)]; exact kp b o b1 b3
theorem set_hint {Q : Bool → Shared → Prop} (ty : s.TypeIs (.ref a) "set") (q : Q false s) : wpAny (model prog w) A (Builtin.List.listLengthHint (.ref a)) Q E s := by
 unfold Builtin.List.listLengthHint
 refine wpAny_bind (wpAny_specialOf ty PySem.F.slot_set_len.lookup ?_)
 generalize eid : ("set.__len__" : String) = id1
 wp_delta
 rw [show splitId id1 = some ("set", "__len__") from by subst eid; decide +kernel]
 subst eid
 refine wpAny_bind (wpAny_isInstance (T := "set") (b := true) ty (by rw [isSubtype_type]; kernel_rfl) ?_)
 refine wpAny_ite_split (fun z => absurd z (by decide)) (fun _ => ?_)
 refine wpAny_ite_split (fun _ => ?_) (fun z => absurd (by decide +kernel) z)
 exact wpAny_bind (wpAny_typeOf ty (wpAny_pure q))
theorem set_walk {ks : List Int} {Q : Value → Shared → Prop} (hh : A.handled = none) (hS : SetI s.heap a ks (ledW w))
  (q : ∀ (I : Addr) (fp : List Addr) (vs : List Value) (ks' : List Int) (St : Nat → Heap → Prop) (h' : Heap) (d : Drawn), IntsAre vs ks' → ks'.Perm ks → WalkN prog w A I fp vs St → St 0 h' → s.heap.objs.size ≤ I → (∀ b ∈ fp, b < h'.objs.size) → (∀ b ∈ fp, s.heap.objs.size ≤ b ∨ b = a) → (∀ b o, s.heap.get? b = some o → h'.get? b = some o) → Q (.ref I) { s with heap := h', drawn := d }) :
  wpAny (model prog w) A (pyIter (.ref a)) Q E s := by
 obtain ⟨o, es, ep, t, ho, hx, hd, hg, hk, nd, hb, hf, T⟩ := hS
 have la : a < s.heap.objs.size := Heap.lt_size ho
 have allI : ∀ (l : List (Int × Value)), (∀ e ∈ l, GoodE e) → IntsAre (l.map (·.2)) (l.map keyE) := by
  intro l
  induction l with
  | nil => intro _; exact .nil
  | cons e r ih =>
   intro h
   obtain ⟨k, tk, rfl⟩ := h e List.mem_cons_self
   exact .cons k tk (ih fun e he => h e (List.mem_cons_of_mem _ he))
 have szI : ∀ x : Obj, (s.heap.push x).objs.size = s.heap.objs.size + 1 := fun x => Heap.size_push ..
 refine iter_set ho hx hd hf (fun hm => ?_) (fun ps d hp => ?_) (fits_of_scanBound hb)
 ·have fr : ∀ {sl : Nat → Nat} (i : Nat) (h h' : Heap), (h.get? s.heap.objs.size = some (itO (rawInt (sl i)) i es.size ep a) ∧ h.get? a = some o) → (∀ b ∈ [s.heap.objs.size, a], ∀ o, h.get? b = some o → h'.get? b = some o) → (h'.get? s.heap.objs.size = some (itO (rawInt (sl i)) i es.size ep a) ∧ h'.get? a = some o) := fun i h h' st kp => ⟨kp _ (by simp) _ st.1, kp _ (by simp) _ st.2⟩
  have mk : ∀ (sl : Nat → Nat) (l : List (Int × Value)), sl 0 = 0 → l.Perm es.toList →
    (∀ (s1 : Shared) (i : Nat) (v : Value), (l.map (·.2))[i]? = some v → s1.heap.get? a = some o → ∀ (E' : Value → Shared → Prop) (Q' : Option (Value × Nat) → Shared → Prop), Q' (some (v, sl (i + 1))) s1 → wpAny (model prog w) A.in1 (setNext a (sl i) i ep) Q' E' s1) →
    (∀ (s1 : Shared), s1.heap.get? a = some o → ∀ (E' : Value → Shared → Prop) (Q' : Option (Value × Nat) → Shared → Prop), Q' none s1 → wpAny (model prog w) A.in1 (setNext a (sl l.length) l.length ep) Q' E' s1) →
    Q (.ref s.heap.objs.size) { s with heap := s.heap.push (itO (rawInt 0) 0 es.size ep a) } := by
   intro sl l h0 hp h1 h2
   refine q s.heap.objs.size [s.heap.objs.size, a] (l.map (·.2)) (l.map keyE) (fun i h => h.get? s.heap.objs.size = some (itO (rawInt (sl i)) i es.size ep a) ∧ h.get? a = some o) _ s.drawn (allI l fun e he => hg e (hp.mem_iff.mp he)) (by rw [← hk]; exact hp.map keyE) ⟨by simp, fr, fun i v s1 Q' E' hv st q' => ?_, fun s1 Q' E' st q' => ?_⟩
    ⟨by rw [h0]; exact Heap.get?_push_size _ rfl, Heap.get?_push_of_some _ ho⟩ (Nat.le_refl _) (fun b hb' => ?_) (fun b hb' => ?_) (fun b ob e => Heap.get?_push_of_some _ e)
   ·refine seti_item st.1 st.2 hd hf rfl (fun E' Q'' z => h1 s1 i v hv st.2 E' Q'' z) fun h' e' sb => q' h' ⟨e', ?_⟩ fun b ob hb' e => sb.extBut b ob hb' e
    exact sb.extBut a o (Nat.ne_of_lt la) st.2
   ·have st2 := st
    rw [List.length_map] at st2
    exact seti_end hh st2.1 st2.2 hd hf rfl (fun E' Q'' z => h2 s1 st2.2 E' Q'' z) fun h' eb => q' h' fun b ob hb' e => eb b ob hb' e
   ·rw [szI]
    rcases List.mem_cons.mp hb' with z | z
    ·rw [z]; exact Nat.lt_succ_self _
    ·rw [List.mem_singleton.mp z]; exact Nat.lt_succ_of_lt la
   ·rcases List.mem_cons.mp hb' with z | z
    ·exact .inl (by rw [z]; exact Nat.le_refl _)
    ·exact .inr (List.mem_singleton.mp z)
  cases hT : w.params.followText "set-order" with
  | true =>
   refine mk (fun _ => 0) (pickOrder (w.params.setOrder a ep) es).toList rfl (pick_perm _ _) (fun s1 i v hv e1 E' Q' z => ?_) (fun s1 e1 E' Q' z => ?_)
   ·refine next_text e1 hd hf hT ?_
    rw [List.getElem?_map] at hv
    cases he : (pickOrder (w.params.setOrder a ep) es).toList[i]? with
    | none => rw [he] at hv; cases hv
    | some x =>
     rw [he] at hv
     have he' : (pickOrder (w.params.setOrder a ep) es)[i]? = some x := by rw [← Array.getElem?_toList]; exact he
     rw [he']
     cases hv
     exact z
   ·refine next_text e1 hd hf hT ?_
    have he' : (pickOrder (w.params.setOrder a ep) es)[(pickOrder (w.params.setOrder a ep) es).toList.length]? = none := by rw [← Array.getElem?_toList]; exact List.getElem?_eq_none (Nat.le_refl _)
    rw [he']
    exact z
  | false =>
   have hp : (!t.plain && decide (es.size > 1)) = false := by
    rcases hm with z | z
    ·rw [hT] at z; cases z
    ·exact z
   have hl : t.led = true := by rw [T.led]; unfold ledW; rw [hT]; rfl
   have psz : t.place.size = es.size := by
    have := hf
    simp only [SetTable.fits, Bool.and_eq_true, beq_iff_eq] at this
    exact this.1
   refine mk (slotAt t.place) es.toList rfl (List.Perm.refl _) (fun s1 i v hv e1 E' Q' z => ?_) (fun s1 e1 E' Q' z => ?_)
   ·refine next_led e1 hd hf hT hl hp ?_
    rw [List.getElem?_map] at hv
    cases he : es.toList[i]? with
    | none => rw [he] at hv; cases hv
    | some x =>
     rw [he] at hv
     have hi : i < es.size := by
      have := (List.getElem?_eq_some_iff.mp he).1
      rw [Array.length_toList] at this
      exact this
     have he' : es[i]? = some x := by rw [← Array.getElem?_toList]; exact he
     rw [slotAt_below T.up (by omega), he', Array.getElem?_eq_getElem (by omega)]
     cases hv
     have e2 : slotAt t.place (i + 1) = t.place[i] + 1 := by
      unfold slotAt
      rw [if_neg (Nat.succ_ne_zero _), Nat.add_sub_cancel, Array.getD_eq_getD_getElem?, Array.getElem?_eq_getElem (by omega)]
      rfl
     rw [e2] at z
     exact z
   ·refine next_led e1 hd hf hT hl hp ?_
    rw [Array.length_toList, slotAt_below T.up (by omega)]
    have he' : es[es.size]? = none := Array.getElem?_eq_none (Nat.le_refl _)
    rw [he']
    exact z
 ·have psl : ps.length = es.size := by rw [hp.length_eq, List.length_range]
  have at_ : ∀ {i p : Nat}, ps[i]? = some p → p < es.size := fun h => List.mem_range.mp (hp.mem_iff.mp (List.mem_of_getElem? h))
  have lsp : (ps.filterMap fun p => es[p]?).Perm es.toList := (hp.filterMap _).trans (by rw [filterMap_getElem?_range])
  have lat : ∀ (i : Nat), (ps.filterMap fun p => es[p]?)[i]? = (ps[i]?).bind fun p => es[p]? := by
   have key : ∀ (ps : List Nat), (∀ p ∈ ps, p < es.size) → ∀ i : Nat, (ps.filterMap fun p => es[p]?)[i]? = (ps[i]?).bind fun p => es[p]? := by
    intro ps
    induction ps with
    | nil => intro _ i; rfl
    | cons p r ih =>
     intro h i
     have hpl := h p List.mem_cons_self
     rw [List.filterMap_cons, Array.getElem?_eq_getElem hpl]
     cases i with
     | zero => show some es[p] = es[p]?; rw [Array.getElem?_eq_getElem hpl]
     | succ i => exact ih (fun x hx => h x (List.mem_cons_of_mem _ hx)) i
   exact key ps fun p h => List.mem_range.mp (hp.mem_iff.mp h)
  have tl : (s.heap.push { cls := .type "tuple", data := .seq (ps.map fun p : Nat => rawInt p).toArray }).get? s.heap.objs.size = some { cls := .type "tuple", data := .seq (ps.map fun p : Nat => rawInt p).toArray } := Heap.get?_push_size _ rfl
  refine q (s.heap.objs.size + 1) [s.heap.objs.size + 1, s.heap.objs.size, a] ((ps.filterMap fun p => es[p]?).map (·.2)) ((ps.filterMap fun p => es[p]?).map keyE)
   (fun i h => h.get? (s.heap.objs.size + 1) = some (itO (.ref s.heap.objs.size) i es.size ep a) ∧ h.get? s.heap.objs.size = some { cls := .type "tuple", data := .seq (ps.map fun p : Nat => rawInt p).toArray } ∧ h.get? a = some o) _ d
   (allI _ fun e he => hg e (lsp.mem_iff.mp he)) (by rw [← hk]; exact lsp.map keyE) ⟨by simp, fun i h h' st kp => ⟨kp _ (by simp) _ st.1, kp _ (by simp) _ st.2.1, kp _ (by simp) _ st.2.2⟩, fun i v s1 Q' E' hv st q' => ?_, fun s1 Q' E' st q' => ?_⟩
   ⟨by rw [← szI { cls := .type "tuple", data := .seq (ps.map fun p : Nat => rawInt p).toArray }]; exact Heap.get?_push_size _ rfl, Heap.get?_push_of_some _ tl, Heap.get?_push_of_some _ (Heap.get?_push_of_some _ ho)⟩ (Nat.le_succ _) (fun b hb' => ?_) (fun b hb' => ?_) (fun b ob e => Heap.get?_push_of_some _ (Heap.get?_push_of_some _ e))
  ·rw [List.getElem?_map, lat i] at hv
   cases hpi : ps[i]? with
   | none => rw [hpi] at hv; cases hv
   | some p =>
    rw [hpi] at hv
    have hv' : (es[p]?).map (·.2) = some v := hv
    rw [Array.getElem?_eq_getElem (at_ hpi)] at hv'
    cases hv'
    refine setd_item st.1 ⟨_, st.2.1, rfl, 0, rfl⟩ st.2.2 hd hf rfl hpi (Array.getElem?_eq_getElem (at_ hpi)) fun h' e' sb => q' h' ⟨e', ?_, ?_⟩ fun b ob hb' e => sb.extBut b ob hb' e
    ·exact sb.extBut _ _ (Nat.ne_of_lt (Nat.lt_succ_self _)) st.2.1
    ·exact sb.extBut a o (Nat.ne_of_lt (Nat.lt_succ_of_lt la)) st.2.2
  ·have ln : ((ps.filterMap fun p => es[p]?).map (·.2)).length = ps.length := by rw [List.length_map, lsp.length_eq, Array.length_toList, psl]
   have st2 := st
   rw [ln] at st2
   exact setd_end hh st2.1 ⟨_, st2.2.1, rfl, 0, rfl⟩ st2.2.2 hd hf rfl (List.getElem?_eq_none (Nat.le_refl _)) fun h' eb => q' h' fun b ob hb' e => eb b ob hb' e
  ·rw [Heap.size_push, szI]
   rcases List.mem_cons.mp hb' with z | z
   ·rw [z]; exact Nat.lt_succ_self _
   ·rcases List.mem_cons.mp z with z | z
    ·rw [z]; exact Nat.lt_succ_of_lt (Nat.lt_succ_self _)
    ·rw [List.mem_singleton.mp z]; exact Nat.lt_succ_of_lt (Nat.lt_succ_of_lt la)
  ·rcases List.mem_cons.mp hb' with z | z
   ·exact .inl (by rw [z]; exact Nat.le_succ _)
   ·rcases List.mem_cons.mp z with z | z
    ·exact .inl (by rw [z]; exact Nat.le_refl _)
    ·exact .inr (List.mem_singleton.mp z)
end
end HT
namespace HT
open PySem PyProof.Rows
section
variable {prog : Program} {w : World} {A : Around} {E : Value → Shared → Prop} {s : Shared} {a : Addr}
theorem collect_set {ks : List Int} {R : List Value → Shared → Prop} (hh : A.handled = none) (hS : SetI s.heap a ks (ledW w)) (hz : ks.length ≤ sizeLine)
  (q : ∀ (vs : List Value) (ks' : List Int) (h' : Heap) (d : Drawn), IntsAre vs ks' → ks'.Perm ks → (∀ b o, s.heap.get? b = some o → h'.get? b = some o) → R vs { s with heap := h', drawn := d }) : wpAny (model prog w) A (collect (.ref a)) R E s := by
 have la : a < s.heap.objs.size := by obtain ⟨o, _, _, _, ho, _⟩ := hS; exact Heap.lt_size ho
 unfold collect
 refine wpAny_bind (wpAny_runValue (codeAny_builtin F.entry_proto_collect ?_))
 rw [Around.under_plainId F.plain_proto_collect _]
 refine wpAny_bind (m := newList []) (wpAny_newObj_type ?_)
 refine wpAny_pure ⟨plainId_quiet F.plain_list_iadd _, codeAny_builtin F.entry_list_iadd ?_⟩
 rw [Around.under_plainId F.plain_list_iadd _]
 have e1 : (s.heap.push { cls := .type "list", data := .seq ([] : List Value).toArray }).get? s.heap.objs.size = some { cls := .type "list", dict := none, data := .seq #[] 0, slots := #[] } := Heap.get?_push_size _ rfl
 have sz1 : (s.heap.push { cls := .type "list", data := .seq ([] : List Value).toArray }).objs.size = s.heap.objs.size + 1 := Heap.size_push ..
 have hS1 : SetI (s.heap.push { cls := .type "list", data := .seq ([] : List Value).toArray }) a ks (ledW w) := by
  obtain ⟨o, es, ep, t, ho, r⟩ := hS
  exact ⟨o, es, ep, t, Heap.get?_push_of_some _ ho, r⟩
 have ty : Shared.TypeIs { s with heap := s.heap.push { cls := .type "list", data := .seq ([] : List Value).toArray } } (.ref a) "set" := by
  obtain ⟨o, es, ep, t, ho, hx, _⟩ := hS1
  exact ⟨o, ho, hx.1⟩
 change wpAny _ A.in1 (Builtin.List.listExtendWith (.ref s.heap.objs.size) (.ref a) (.ref s.heap.objs.size)) _ _ _
 unfold Builtin.List.listExtendWith
 refine wpAny_bind (wpAny_typeOf ty ?_)
 have c1 : Builtin.List.listSameRef (.ref s.heap.objs.size) (.ref a) = false := by simp [Builtin.List.listSameRef, Nat.ne_of_gt la]
 have c2 : (Value.type "set" == Value.type "list") = false := by decide
 have c3 : (Value.type "set" == Value.type "tuple") = false := by decide
 simp only [c1, c2, c3, Bool.or_false, Bool.false_eq_true, if_false]
 refine wpAny_bind (set_walk (A := A.in1) (s := { s with heap := s.heap.push { cls := .type "list", data := .seq ([] : List Value).toArray } }) hh hS1 fun I fp vs ks' St h2 d hi hp W st hI hlt hfp kp => ?_)
 have e2 := kp _ _ e1
 have nS : s.heap.objs.size ∉ fp := fun z => by
  rcases hfp _ z with y | y
  ·have y' : s.heap.objs.size + 1 ≤ s.heap.objs.size := by rw [← sz1]; exact y
   exact absurd y' (Nat.not_succ_le_self _)
  ·exact absurd y (Nat.ne_of_gt la)
 have hvl : vs.length ≤ sizeLine := by rw [hi.length, hp.length_eq]; exact hz
 have ty2 : Shared.TypeIs { s with heap := h2, drawn := d } (.ref a) "set" := by
  obtain ⟨o, es, ep, t, ho, hx, _⟩ := hS1
  exact ⟨o, kp _ _ ho, hx.1⟩
 have fin : ∀ (h3 : Heap) (c : Nat), St 0 h3 → h3.get? s.heap.objs.size = some { cls := .type "list", dict := none, data := .seq #[] c, slots := #[] } → (∀ b o, b ≠ s.heap.objs.size → h2.get? b = some o → h3.get? b = some o) →
   codeAny (model prog w) A (.builtin "list.extend.loop" ⟨[.ref s.heap.objs.size, .ref I, .ref s.heap.objs.size], []⟩) (fun r s' => match r with | .ok (.ret v) => wpAny (model prog w) A (match v with | .ref a => (do match (← load a).data with | .seq xs _ => pure xs.toList | _ => unsupported "internal:collect") | _ => unsupported "internal:collect") R E s' | .ok _ => False | .error e => E e s') { s with heap := h3, drawn := d } := by
  intro h3 c st3 e3 k3
  refine ext_loop W nS hvl vs.length 0 _ #[] c (Nat.zero_add _) st3 e3 rfl fun h' acc c' ha e' k' => ?_
  refine wpAny_bind (wpAny_load e' (wpAny_pure ?_))
  rw [ha]
  refine q vs ks' h' d hi hp fun b o hb => ?_
  have lb := Heap.lt_size hb
  have nb : b ≠ s.heap.objs.size := Nat.ne_of_lt lb
  have nI : b ≠ I := fun z => by
   have y : s.heap.objs.size + 1 ≤ I := by rw [← sz1]; exact hI
   rw [← z] at y
   exact absurd (Nat.lt_of_lt_of_le (Nat.lt_succ_self _) y) (Nat.lt_asymm lb)
  exact k' b o nI nb (k3 b o nb (kp b o (Heap.get?_push_of_some _ hb)))
 refine wpAny_bind (wpAny_holding (set_hint ty2 ?_))
 refine wpAny_ite_split (fun _ => ?_) (fun _ => wpAny_pure ⟨plainId_quiet F.plain_extend_loop _, fin h2 0 st e2 fun b o _ e => e⟩)
 refine wpAny_bind (wpAny_rule ?_)
 refine wpAny_bind ?_
 change wpAny _ _ (updateSeq s.heap.objs.size (·.push .none) >>= fun _ => updateSeq s.heap.objs.size (·.pop)) _ _ _
 refine wpAny_bind (wpAny_updateSeq e2 rfl ?_)
 have e3 := Heap.get?_update_self (Obj.mapSeq (·.push Value.none)) e2 rfl
 refine wpAny_updateSeq (hz := by seq_fits) e3 rfl ?_
 have e4 := Heap.get?_update_self (Obj.mapSeq (·.pop)) e3 rfl
 refine wpAny_pure ⟨plainId_quiet F.plain_extend_loop _, fin _ _ (W.frame 0 _ _ st fun b hb o e => ?_) e4 fun b o hb e => ?_⟩
 ·have nb : s.heap.objs.size ≠ b := fun z => nS (by rw [z]; exact hb)
  rw [Heap.get?_update_other _ _ nb, Heap.get?_update_other _ _ nb]; exact e
 ·rw [Heap.get?_update_other _ _ (Ne.symm hb), Heap.get?_update_other _ _ (Ne.symm hb)]; exact e
end
end HT
namespace L2
open PySem PySem.Spec PyProof.Rows
section
variable {X : Cx}
theorem sub_lenI : ∀ {xs ys : List Int}, xs.Nodup → (∀ x ∈ xs, x ∈ ys) → xs.length ≤ ys.length
 | [], _, _, _ => Nat.zero_le _
 | x :: xs, ys, nd, h => by
  obtain ⟨h1, nd'⟩ := List.nodup_cons.mp nd
  have hx := h x List.mem_cons_self
  have ih := sub_lenI (ys := ys.erase x) nd' fun y hy => (List.mem_erase_of_ne (fun e : y = x => h1 (e ▸ hy))).mpr (h y (List.mem_cons_of_mem _ hy))
  rw [List.length_erase_of_mem hx] at ih
  have : 0 < ys.length := List.length_pos_of_mem hx
  rw [List.length_cons]
  omega
def tSortSet (K : PySem.W.Frag) (te : TE) : TE := fun σ H Q => te σ H fun x H1 => ∃ (p : Addr) (ns : List Int), x = .ref p ∧ SqL K H1 p (ns.map V.int) ∧ ns.length < 64 ∧
 ∀ (l : Addr) (ys : List Int), H1 l = none → ys.Pairwise (· < ·) → (∀ y, y ∈ ys ↔ y ∈ ns) → Q (.ref l) (upd H1 l (.lst (ys.map V.int)))
theorem boot_set : bootBuiltins "set" = some (.type "set") := by decide +kernel
theorem pe_sortSet {e : Expr} {te : TE} {p1 p2 pos pos2 : Pos} (hcalm : X.calm = true) (hg1 : Gl X "sorted") (hm1 : X.mg "sorted" = none) (hg2 : Gl X "set") (hm2 : X.mg "set" = none) (he : PE X e te) (hs : starEach (e :: []) X.env = (false, eval e X.env) :: starEach [] X.env := by rfl)
  (hs2 : starEach ((.Call (.Name "set" p2) [e] [] pos2) :: []) X.env = (false, eval (.Call (.Name "set" p2) [e] [] pos2) X.env) :: starEach [] X.env := by rfl) :
  PE X (.Call (.Name "sorted" p1) [.Call (.Name "set" p2) [e] [] pos2] [] pos) (tSortSet X.K te) := by
 intro pins s σ H Q I h
 refine wpAny_Call_Name_kw (ld_blt I hg1 hm1 boot_sorted ?_)
 refine PyProof.Rows.callWith_builtin1 ?_ hs2 rfl
 rw [hs2]
 show wpAny _ _ (spliced ((false, eval (.Call (.Name "set" p2) [e] [] pos2) X.env) :: backTo pos (starEach [] X.env))) _ _ s
 refine Calls.spliced_cons ?_
 refine wpAny_Call_Name_kw (ld_blt I hg2 hm2 boot_set ?_)
 refine PyProof.Rows.callWith_type1 ?_ hs rfl
 rw [hs]
 show wpAny _ _ (spliced ((false, eval e X.env) :: backTo pos2 (starEach [] X.env))) _ _ s
 refine Calls.spliced_cons (thn (he pins s σ H _ I h) fun u s1 ⟨x, H1, I1, r1, q1⟩ => Calls.spliced_nil ?_)
 obtain ⟨p, ns, rfl, hq, h64, q⟩ := q1
 cases r1
 obtain ⟨its, rv, pl, hz⟩ := I1.list hq
 have hi := vals_intsAre rv
 have hlen : its.length = ns.length := hi.length
 refine HT.call_setI (I1.ok.hd hcalm) pl.isList (by simpa using hi) (fun ks nd m => by have := sub_lenI nd m; unfold scanBound; omega) fun h2 tk ks S m kp => Calls.spliced_nil ?_
 have ks64 : ks.length < 64 := by
  obtain ⟨_, _, _, _, _, _, _, _, _, nd, _⟩ := S
  exact Nat.lt_of_le_of_lt (sub_lenI nd fun x hx => (m x).mp hx) h64
 have I2 : Inv X pins σ H1 { s1 with heap := h2, toks := tk } := I1.kept fun b o e => kp b o (Heap.lt_size e) e
 refine Calls.call_function_entry kind_sorted plain_sorted entry_sorted (args_sorted1 _) ?_
 unfold Builtin.«sorted»
 refine wpAny_bind (m := checkCount "sorted" 1 1 _) (wpAny_pure ?_)
 refine wpAny_bind (HT.collect_set (I2.ok.hd hcalm) S (Nat.le_trans (Nat.le_of_lt ks64) (by decide)) fun vs ks' h3 d hv hp k3 => ?_)
 have I3 : Inv X pins σ H1 { s1 with heap := h3, toks := tk, drawn := d } := by
  have I3' : Inv X pins σ H1 { s1 with heap := h3, toks := tk } := I2.kept (t' := tk) k3
  exact ⟨I3'.ok, I3'.os, I3'.bare, I3'.base, I3'.loc, I3'.cell, I3'.free, I3'.freeC, I3'.pin, I3'.hok, I3'.len⟩
 have lv : vs.length = ks.length := by rw [hv.length, hp.length_eq]
 refine wpAny_bind (wpAny_newList ?_ (by rw [lv]; exact Nat.le_trans (Nat.le_of_lt ks64) (by decide)))
 have oL : (h3.push (seqObj "list" vs.toArray 0)).get? h3.objs.size = some (seqObj "list" vs.toArray 0) := Heap.get?_push_size _ rfl
 refine wpAny_bind (wpAny_holding (wpAny_call_entry slot_list_sort ⟨_, oL, rfl⟩ entry_list_sort (list_sort_tree oL hv (by rw [lv]; exact ks64) fun out ys a1 a2 a3 => ⟨_, rfl, ?_⟩) (args_list_sort _)))
 obtain ⟨ee, he'⟩ := sortedHeap_at (out := out) oL
 have sz : (h3.push (seqObj "list" vs.toArray 0)).objs.size = h3.objs.size + 1 := Heap.size_push ..
 have up : ys.Pairwise (· < ·) := by
  have nd : ys.Nodup := by
   obtain ⟨_, _, _, _, _, _, _, _, _, nd, _⟩ := S
   exact (a2.trans hp).nodup_iff.mpr nd
  refine List.Pairwise.imp₂ (fun a b h1 h2 => ?_) a3 nd
  rcases Int.lt_or_eq_of_le h1 with z | z
  ·exact z
  ·exact absurd z h2
 refine wpAny_pure ⟨_, rfl, .ref h3.objs.size, _, I3.laid (t' := tk) (fun b o eb => ?_) (Nat.le_refl _) (show ObjOk X.prog X.w _ _ _ (.lst (ys.map V.int)) from ⟨?_, out.toList, ee, intsAre_vals a1, by simpa using he'⟩), rfl, q _ ys (I3.hok.fresh (Nat.le_refl _)) up fun y => ?_⟩
 ·have hb : b < h3.objs.size := Heap.lt_size eb
  exact (sortedHeap_old (Nat.ne_of_lt hb) (by rw [sz]; exact Nat.lt_succ_of_lt hb)).trans (Heap.get?_push_of_some _ eb)
 ·rw [List.length_map, a2.length_eq, hp.length_eq]
  exact Nat.le_trans (Nat.le_of_lt ks64) (by decide)
 ·rw [(a2.trans hp).mem_iff, m y]
end
end L2
namespace L2
open PySem PySem.Spec PyProof.Rows
section
variable {X : Cx}
theorem op_fdivB : OpR X (binaryOp .FloorDiv) (rI (fun _ j => 0 < j ∧ j < 2 ^ 100) fun i j => .int (i / j)) := opI fun i j _ _ _ _ _ hc q => by
 have h1 : 0 < j := hc.1
 have h2 : j < 2 ^ 100 := hc.2
 refine floordiv_int (by omega) (by rw [Int.fdiv_eq_ediv_of_nonneg i (by omega)]; exact q) (.inl (PyProof.noPylong_of_log2 ((Nat.log2_lt (by omega)).mpr ?_)))
 exact Nat.lt_of_lt_of_le (by omega : j.natAbs < 2 ^ 100) (Nat.pow_le_pow_right (by decide) (by decide))
end
end L2
namespace HT
open PySem PyProof.Rows
section
variable {prog : Program} {w : World} {A : Around} {E : Value → Shared → Prop} {s : Shared} {I l : Addr} {items : Array Value}
end
end HT
namespace L2
open PySem PySem.Spec PyProof.Rows
section
variable {X : Cx}
end
end L2
namespace HT
open PySem PySem.W PyProof.Rows
section
variable {cmp : Nat → Nat → (Bool → Shared → Prop) → Shared → Prop} {key : Nat → Int} {N : Nat} {s : Shared} {p : Array Nat}
variable (hN : 0 < N) (ask : ∀ i j C, i < N → j < N → i ≠ j → C (decide (key i < key j)) s → cmp i j C s) (inj : ∀ i j, i < N → j < N → key i = key j → i = j)
include hN ask inj
end
end HT
namespace HT
open PySem PySem.W PyProof.Rows PySem.SeqAt PySem.MeetsSeq PySem.MeetsSeq2 PySem.MeetsSeq3
section
variable {prog : Program} {w : World} {A : Around} {E : Value → Shared → Prop} {s : Shared}
end
end HT
namespace HT
open PySem PySem.W PyProof.Rows
end HT
namespace L2
open PySem PySem.Spec PyProof.Rows
section
variable {X : Cx}
end
end L2
namespace L2
open PySem PySem.Spec PyProof.Rows
end L2
namespace L2
open PySem PySem.Spec PyProof.Rows
end L2
namespace L2
open PySem PySem.Spec PyProof.Rows
end L2
namespace L2
open PySem PySem.Spec PyProof.Rows
theorem ObjOk.there {P : Program} {w : World} {H : Hp} {h : Heap} {a : Addr} {o : HO} (x : ObjOk P w H h a o) : ∃ ob, h.get? a = some ob := by
 cases o with
 | lst xs => obtain ⟨_, _, _, _, e⟩ := x; exact ⟨_, e⟩
 | tup xs => obtain ⟨_, _, _, ob, e, _⟩ := x; exact ⟨_, e⟩
 | dK kvs => obtain ⟨_, _, _, _, o, _, _, e, _⟩ := x; exact ⟨_, e⟩
 | dT kvs => obtain ⟨_, _, _, _, o, _, _, e, _⟩ := x; exact ⟨_, e⟩
 | set S n => obtain ⟨o, _, _, _, e, _⟩ := x; exact ⟨_, e⟩
 | ins C dx fs => obtain ⟨_, _, _, e, _⟩ := x; exact ⟨_, e⟩
 | own y => exact x
 | xd fs => obtain ⟨_, ⟨_, _, _, e, _⟩, _⟩ := x; exact ⟨_, e⟩
 | rng lo hi => obtain ⟨_, _, _, e⟩ := x; exact ⟨_, e⟩
 | frz ob u => obtain ⟨e, _⟩ := x; exact ⟨_, e⟩
 | tbl ps => exact ⟨_, show h.get? a = some _ from x⟩
 | met f y => exact ⟨_, show h.get? a = some _ from x⟩
 | ext φ => exact x.2.1
def InB (B : Heap) (fs : List Addr) (H' : Hp) (h h' : Heap) : Prop := ∀ b o, h'.get? b = some o → ((∃ o', h.get? b = some o') ∧ b ∉ fs) ∨ (∃ u, H' b = some u) → B.get? b = some o
def CX1 (P : Program) (w : World) : CXT := fun outer H s E e s' => ∃ (ea : Addr) (C a0 : Value) (H' : Hp) (B : Heap),
 e = .ref ea ∧ s'.os = s.os ∧ AllBare s'.gens ∧ Un (frs outer) [] H H' s.heap s'.heap ∧ HOk P w H' s'.heap ∧ Heap.FlyingW B outer ea C a0 s'.heap ∧ InB B (frs outer) H' s.heap s'.heap ∧ H' ea = none ∧ E C none H'
section
variable {X : Cx} {pins : List (Addr × Obj)} {σ : St} {H H' : Hp} {s s' : Shared} {B h'' : Heap}
theorem Inv.flown (I : Inv X pins σ H s) (os : s'.os = s.os) (bare : AllBare s'.gens) (un : Un (frs X.stack) [] H H' s.heap s'.heap) (hok : HOk X.prog X.w H' s'.heap)
  (hB : InB B (frs X.stack) H' s.heap s'.heap) (st : B.StaysIn h'') (up : s'.heap.UpToSlots h'') : Inv X pins σ H' { s' with heap := h'' } := by
 have ff := I.stack
 have slot : ∀ b o, s.heap.get? b = some o → H b = none → b ∈ frs X.stack → ∃ sl, h''.get? b = some { o with slots := sl } := fun b o q n m => by
  obtain ⟨sl, e1⟩ := un.slot b o q n m (by simp)
  obtain ⟨_, o', q', nf⟩ := ff.mem m
  rw [q] at q'
  cases q'
  obtain ⟨sl', e2⟩ := up b _ e1 nf
  exact ⟨sl', e2⟩
 refine I.call' (s' := { s' with heap := h'' }) (ch := []) os ⟨fun b o q n m _ => st b o (hB b o (un.keep b o q n m (by simp)) (.inl ⟨⟨o, q⟩, m⟩)), fun b o q n m _ => slot b o q n m, fun b o q n m => un.free b o q n m, fun b o q _ => ?_, un.tups, un.frzs, un.tbls⟩ (fun a o e => ?_) bare (fun b z => absurd z (by simp))
 ·by_cases m : b ∈ frs X.stack
  ·obtain ⟨sl, e⟩ := slot b o q (I.stkFree b m) m
   exact ⟨_, e⟩
  ·obtain ⟨o', e⟩ := un.there b o q (by simp)
   exact ⟨o', st b o' (hB b o' e (.inl ⟨⟨o, q⟩, m⟩))⟩
 ·refine (hok a o e).stay (fun b u z q => st b u (hB b u q (.inr ?_))) (fun _ z => z) fun _ _ z => z
  rcases z with z | z
  ·subst z; exact ⟨_, e⟩
  ·exact ⟨_, z⟩
theorem Inv.gone {ea : Addr} {C a0 : Value} {E : XK} (I : Inv X pins σ H s) (os : s'.os = s.os) (bare : AllBare s'.gens) (un : Un (frs X.stack) [] H H' s.heap s'.heap) (hok : HOk X.prog X.w H' s'.heap)
  (hB : InB B (frs X.stack) H' s.heap s'.heap) (fl : Heap.FlyingW B X.outer ea C a0 h'') (up : s'.heap.UpToSlots h'') (hn : H' ea = none) (hE : E C none H')
  (hst : X.stack = X.env :: X.outer) (hfr : X.env.frame = some X.env.locals) (hex : X.ex = []) : CX1 X.prog X.w X.outer X.H₀ X.s₀ E (.ref ea) { s' with heap := h'' } := by
 have J := I.flown os bare un hok hB fl.1 up
 have jb := J.base
 have ib := I.base
 rw [hex] at jb ib
 refine ⟨ea, C, a0, H', B, rfl, J.os, J.bare, jb, J.hok, fl, fun b o q z => ?_, hn, hE⟩
 rcases z with ⟨⟨o₀, q₀⟩, m⟩ | ⟨u, z⟩
 ·have m2 : b ∉ frs X.stack := fun z => by
   rw [hst] at z
   unfold frs at z
   rw [List.filterMap_cons, hfr] at z
   rcases List.mem_cons.mp z with z | z
   ·have := I.ok.above
    rw [← z] at this
    exact absurd (Heap.lt_size q₀) (Nat.not_lt.mpr this)
   ·exact m z
  obtain ⟨o1, q1⟩ := ib.there b o₀ q₀ (by simp)
  obtain ⟨o2, q2⟩ := un.there b o1 q1 (by simp)
  have e := hB b o2 q2 (.inl ⟨⟨o1, q1⟩, m2⟩)
  have e2 := fl.1 b o2 e
  have q' : h''.get? b = some o := q
  rw [q'] at e2
  cases e2
  exact e
 ·obtain ⟨o2, q2⟩ := (hok b u z).there
  have e := hB b o2 q2 (.inr ⟨u, z⟩)
  have e2 := fl.1 b o2 e
  have q' : h''.get? b = some o := q
  rw [q'] at e2
  cases e2
  exact e
end
section
variable {P : Program} {w : World} {K : PySem.W.Frag} {mg : Str → Option Value} {base : Heap} {N : List Str} {qual : Str} {scope : Scope} {f : Addr} {cd : Value} {A : Around} {outer : List Env} {s₀ : Shared} {H₀ : Hp} {E : XK}
theorem pass1 : Passes (CX1 P w) (cxOf (CX1 P w) P w K mg base N qual scope f cd A outer s₀ H₀ E) E := by
 intro pins σ H s e s' I h
 obtain ⟨ea, C, a0, H', B, rfl, os, bare, un, hok, fl, hB, hn, hE⟩ := h
 refine wpAny_leaves_onW (outer := outer) I.ok.frames rfl fl fun h'' fl2 up => ?_
 exact I.gone os bare un hok hB fl2 up hn hE rfl rfl rfl
def RaisesIn (X : Cx) (E : XK) : Prop := ∀ (pins : List (Addr × Obj)) (σ : St) (H : Hp) (s : Shared) (h' : Heap) (ea : Addr) (C : Value) (vs : List Value), Inv X pins σ H s → Heap.MadeExcOf s.heap h' ea C vs → E C none H → X.xe (.ref ea) { s with heap := h' }
theorem raises1 : RaisesIn (cxOf (CX1 P w) P w K mg base N qual scope f cd A outer s₀ H₀ E) E := by
 intro pins σ H s h' ea C vs I hx hE
 have hin : ∀ env ∈ (envOfC qual scope s₀.heap.objs.size f cd :: outer), ∀ b, env.frame = some b → b ∈ (envOfC qual scope s₀.heap.objs.size f cd :: outer).filterMap (·.frame) := fun env he b hb => List.mem_filterMap.mpr ⟨env, he, hb⟩
 refine wpAny_leaves_madeW (base := PySem.W.hideAll s.heap ((envOfC qual scope s₀.heap.objs.size f cd :: outer).filterMap (·.frame))) (outer := outer) I.ok.frames rfl (fun b o q => PySem.W.of_hideAll _ q) (PySem.W.funFrames_hide I.stack hin) hx fun h'' t x1 x2 x3 x4 => ?_
 have hn : H ea = none := by
  cases q : H ea with
  | none => rfl
  | some u =>
   obtain ⟨o, e⟩ := (I.hok ea u q).there
   rw [hx.new] at e
   cases e
 refine I.gone (s' := { s with heap := h' }) (H' := H) rfl I.bare (Un.kept hx.keeps) (I.hok.kept hx.keeps) (fun b o q z => ?_) x1 x4 hn hE rfl rfl rfl
 have q' : h'.get? b = some o := q
 have key : ∃ o', s.heap.get? b = some o' ∧ b ∉ (envOfC qual scope s₀.heap.objs.size f cd :: outer).filterMap (·.frame) := by
  rcases z with ⟨⟨o', e⟩, m⟩ | ⟨u, z⟩
  ·exact ⟨o', e, m⟩
  ·obtain ⟨o', e⟩ := (I.hok b u z).there
   exact ⟨o', e, fun m => by have := I.stkFree b m; rw [z] at this; cases this⟩
 obtain ⟨o', e, m⟩ := key
 have e2 := hx.keeps b o' e
 rw [q'] at e2
 cases e2
 exact PySem.W.hideAll_get _ e m
theorem Fun.ok1 {x qual : Str} {st : Stmt} {f : Addr} {fd : FuncData} {N ps : List Str} {k : Nat} {sp : Sp} (F : Fun K x qual st f fd) (S : FnScope N ps (defScope st)) (len : ∀ vs H Q E, sp vs H Q E → vs.length = ps.length)
  (hbody : ∀ (cdv : Value) (A : Around) (outer : List Env) (s : Shared) (H : Hp) (vs : List V) (Q : VK) (E : XK), Room k (A.deeper (envOfC qual (defScope st) s.heap.objs.size f cdv)) → sp vs H Q E →
   ∃ t, PSs (cxOf (CX1 P w) P w K mg base N qual (defScope st) f cdv A outer s H E) (defBody st) t ∧ t { nx := fun _ H' => Q .non H', rt := Q } (start N vs) H) : FnOk P w K mg base (CX1 P w) (k + 1) f fd ps sp := by
 obtain ⟨oc, od, kV, doc, pm, an, cdv, ct, osl, rfl, lk, hcd⟩ := F.ex
 exact fn_of lk hcd S len fun A outer s H vs Q E hr hsp => hbody cdv A outer s H vs Q E hr hsp
end
theorem own_obj {K : PySem.W.Frag} {h : Heap} {C : Addr} {bmB : List Value} {newId : String} (X : K.In h) (q : PySem.W.excIn K C bmB newId = true) :
  ∃ bm N nm q bs hdct sn sub ab col dd k0 k1 k2 k3 k5 mN, h.get? C = some (excClassObj nm q C N bs bm hdct sn sub ab col dd k0 k1 k2 k3 k5 newId) ∧ h.Ns N mN ∧ mN "__init__" = none ∧ OwnTail h bmB bm := by
 unfold PySem.W.excIn at q
 split at q
 ·rename_i dd cd sl ho
  split at q
  ·rename_i C' bm k0 k1 k2 k3 n k5 hm hs
   simp only [Bool.and_eq_true, beq_iff_eq, Bool.not_eq_true'] at q
   obtain ⟨⟨⟨⟨⟨rfl, rfl⟩, hdel⟩, ht⟩, hok⟩, hni⟩ := q
   obtain ⟨nm, bs, mro, ns, qn, hd, sn, sub, ab, col, del⟩ := cd
   dsimp only at hm hdel hok hni
   subst hm hdel
   have hsl : sl = #[k0, k1, k2, k3, some (.builtin n), k5] := by
    obtain ⟨l⟩ := sl
    simp only at hs
    rw [hs]
   subst hsl
   exact ⟨bm, ns, nm, qn, bs, hd, sn, sub, ab, col, dd, k0, k1, k2, k3, k5, _, X _ _ ho, .of_isNs (PySem.W.isNs_of_in X hok), PySem.W.nsMap_none_of_in X hok hni, PySem.W.tail_of_in X ht⟩
  ·cases q
 ·cases q
section
variable {X : Cx} {E : XK} {x : Str} {C : Addr} {B newId initId : String} {bm : List Value} {np cpos pos : Pos} {e : Expr} {es : List Expr} {t : TA}
def tRaise (C : Addr) (E : XK) (t : TA) : TS := fun _ σ H => t σ H fun vs H1 => vs.length ≤ 1000 ∧ E (.ref C) none H1
theorem ps_raise (hr : RaisesIn X E) (hc : X.calm = true) (FB : ExcBaseFacts B newId initId bm) (hq : PySem.W.excIn X.K C bm newId = true) (hg : Gl X x) (hm : X.mg x = some (.ref C)) (ha : PA X (e :: es) t)
  (hd : (x == ("__debug__" : Str)) = false := by decide) (he : starEach (e :: es) X.env = (false, eval e X.env) :: starEach es X.env := by rfl) (hpl : (backTo cpos (starEach es X.env)).any (·.1) = false := by rfl) :
  PS X (.Raise (some (.Call (.Name x np) (e :: es) [] cpos)) none pos) (tRaise C E t) := by
 intro pins s σ H D I h
 obtain ⟨tl, N, nm, q, bs, hdct, sn, sub, ab, col, dd, k0, k1, k2, k3, k5, mN, hC, hN, hni, T⟩ := own_obj I.mod.kin hq
 refine wpAny_Raise_call_subT (C := C) (nm := nm) (q := q) (N := N) (bs := bs) (bm := tl) (hdct := hdct) (sn := sn) (sub := sub) (ab := ab) (col := col) (dd := dd) (k0 := k0) (k1 := k1) (k2 := k2) (k3 := k3) (k5 := k5)
  FB (mN := mN) (T.hasType FB.hasBase) (I.ok.hd hc) (by rw [he]; show (false || (backTo cpos (starEach es X.env)).any (·.1)) = false; rw [hpl]; rfl) hni (ld_glob I hg hm ⟨rfl, ?_⟩ hd)
 have ha' := ha cpos pins s σ H _ I h
 rw [he] at ha' ⊢
 refine Calls.evalArgs_plain (wpAny_mono ha' (fun us s₂ ⟨vs, H1, I1, r, l, q⟩ => ?_) fun _ _ y => y)
 exact ⟨rfl, by rw [← r.length]; exact Nat.le_trans l (by decide), I1.bk _ _ hC, hN.keeps I1.bk, T.keeps I1.bk, fun h' ea hx => hr pins σ H1 s₂ h' ea _ _ I1 hx q⟩
end
def PB (X : Cx) (st : List Stmt) (tb : XK → TS) : Prop := ∀ (pins : List (Addr × Obj)) (s : Shared) (σ : St) (H : Hp) (D : Ends) (E : XK) (F : Value → Shared → Prop), Inv X pins σ H s →
 (∀ H1 s1 e s', Inv X pins σ H1 s1 → CX1 X.prog X.w X.stack H1 s1 E e s' → F e s') → tb E D σ H → wpAny (model X.prog X.w) X.A (execs st X.env) (SP X pins D) F s
section
variable {X : Cx} {k : Nat} {f : Addr} {fd : FuncData} {ps : List Str} {sp : Sp} {dvs : List V} {ds : List Value} {x : Str} {p pos cpos : Pos} {e : Expr} {es : List Expr} {t : TA}
end
def ExcAt (ea : Addr) (C : Value) : Heap → Prop := fun h => ∃ o vs, h.get? ea = some o ∧ o.cls = C ∧ o.data = .fields vs
abbrev Cx.mark (X : Cx) (v : Value) : Cx := { X with A := X.A.mark (some v), calm := false, xe := fun _ _ => False }
section
variable {X : Cx} {pins : List (Addr × Obj)} {σ : St} {H : Hp} {s : Shared} {v : Value}
theorem Inv.mark (I : Inv X pins σ H s) (v : Value) : Inv (X.mark v) pins σ H s :=
 ⟨⟨I.ok.mod, I.ok.kind, I.ok.glob, I.ok.blt, I.ok.above, I.ok.inj, I.ok.has, I.ok.cab, fun z => Bool.noConfusion z, I.ok.frames, I.ok.stk, I.ok.exf, I.ok.bs, I.ok.bsz, I.ok.noex, I.ok.exfs, I.ok.funs, I.ok.frf⟩, I.os, I.bare, I.base, I.loc, I.cell, I.free, I.freeC, I.pin, I.hok, I.len⟩
theorem Inv.unmark (ok : X.Ok) (I : Inv (X.mark v) pins σ H s) : Inv X pins σ H s := ⟨ok, I.os, I.bare, I.base, I.loc, I.cell, I.free, I.freeC, I.pin, I.hok, I.len⟩
end
section
variable {X : Cx} {pins : List (Addr × Obj)} {σ : St} {H : Hp} {s : Shared}
theorem goes_ok {M : Model} {A : Around} {E : Value → Shared → Prop} {i : Nat} {x : Str} {pos : Pos} {Q : Unit → Shared → Prop} (I : Inv X pins σ H s) (hN : X.N.Nodup) (hi : X.N[i]? = some x) (hk : X.env.scope.names.lookup x = some .local)
  (h : ∀ s', Inv X pins (σ.set i none) H s' → Q () s') : wpAny M A (do bindName X.env x .none; unbindBehindTheSuite X.env x pos) Q E s := by
 obtain ⟨m, hn, hl⟩ := id I.loc
 have hcls : (X.env.scope.kind == .class || (X.env.scope.kind == .module && X.env.locals != X.env.globals)) = false := by rw [I.ok.kind]; rfl
 have hiσ : i < σ.length := by rw [I.len]; exact (List.getElem?_eq_some_iff.mp hi).1
 have cne := I.cne
 refine wpAny_nameGoes_keeps hk hn hcls (fun h' vv hn' hs => ?_)
 obtain ⟨oL, _, _, hoL, _⟩ := id hn
 have tracked : HOk X.prog X.w H h' := fun b ob e => by
  refine (I.hok b ob e).stay (fun c w' hc q => (hs.2 c ?_).trans q) (fun _ q => q) fun _ _ q => q
  rintro rfl
  rcases hc with rfl | hc
  ·rw [I.free] at e; cases e
  ·rw [I.free] at hc; cases hc
 refine h _ ⟨I.ok, I.os, I.bare, ⟨fun b o e n hb hx => ?_, fun b o e n hb hx => ?_, I.base.free, fun b o e hx => ?_, I.base.tups, I.base.frzs, I.base.tbls⟩, ⟨_, hn', fun j y v' e1 e2 e3 => ?_⟩, fun y c e => ?_, I.free, I.freeC, fun p hp => ?_, tracked, by simpa using I.len⟩
 ·exact (hs.2 b (Nat.ne_of_lt (Nat.lt_of_lt_of_le (Heap.lt_size e) I.ok.above))).trans (I.base.keep b o e n hb hx)
 ·obtain ⟨sl, e1⟩ := I.base.slot b o e n hb hx
  exact ⟨sl, (hs.2 b (Nat.ne_of_lt (Nat.lt_of_lt_of_le (Heap.lt_size e) I.ok.above))).trans e1⟩
 ·obtain ⟨o', e1⟩ := I.base.there b o e hx
  exact ⟨o', (hs.2 b (Nat.ne_of_lt (Nat.lt_of_lt_of_le (Heap.lt_size e) I.ok.above))).trans e1⟩
 ·by_cases hj : j = i
  ·subst hj
   rw [List.getElem?_set_self hiσ] at e2
   cases e2
  ·rw [List.getElem?_set_ne (Ne.symm hj)] at e2
   obtain ⟨u', r', q⟩ := hl j y v' e1 e2 e3
   refine ⟨u', r', ?_⟩
   rcases q with ⟨k, e⟩ | ⟨k, c, e, z⟩
   ·refine .inl ⟨k, ?_⟩
    have : y ≠ x := fun e => hj (nodup_ix hN e1 (e ▸ hi))
    simp [this, e]
   ·exact .inr ⟨k, c, e, z.sameBut hs (cne y c e)⟩
 ·obtain ⟨w', z⟩ := I.cell y c e
  exact ⟨w', z.sameBut hs (cne y c e)⟩
 ·obtain ⟨e, n, ne, nf, d⟩ := I.pin p hp
  exact ⟨(hs.2 p.1 ne).trans e, n, ne, nf, d⟩
theorem Inv.track {a : Addr} {o : HO} (I : Inv X pins σ H s) (hn : H a = none) (new : X.s₀.heap.get? a = none) (hL : X.env.locals ≠ a) (hC : ∀ x c, X.env.cells.lookup x = some c → c ≠ a) (hp : ∀ p ∈ X.pn ++ pins, p.1 ≠ a)
  (hO : ObjOk X.prog X.w (upd H a o) s.heap a o) : Inv X pins σ (upd H a o) s := by
 have ne : ∀ b u, H b = some u → b ≠ a := fun b u q z => by rw [z, hn] at q; cases q
 have nw : ∀ b u, X.s₀.heap.get? b = some u → b ≠ a := fun b u q z => by rw [z, new] at q; cases q
 refine ⟨I.ok, I.os, I.bare, ⟨I.base.keep, I.base.slot, fun b u q n hx => by rw [upd_ne (nw b u q)]; exact I.base.free b u q n hx, I.base.there, fun b xs q => ?_, fun b u xs q => ?_, fun b ps q => ?_⟩, I.loc, I.cell, by rw [upd_ne hL]; exact I.free, fun x c e => by rw [upd_ne (hC x c e)]; exact I.freeC x c e, fun p z => ?_, fun b u e => ?_, I.len⟩
 ·have := I.base.tups b xs q
  rw [upd_ne (ne _ _ this)]; exact this
 ·have := I.base.frzs b u xs q
  rw [upd_ne (ne _ _ this)]; exact this
 ·obtain ⟨m, this⟩ := I.base.tbls b ps q
  exact ⟨m, by rw [upd_ne (ne _ _ this)]; exact this⟩
 ·obtain ⟨e, n, ne', nf, d⟩ := I.pin p z
  exact ⟨e, by rw [upd_ne (hp p z)]; exact n, ne', nf, d⟩
 ·by_cases h : b = a
  ·subst h
   rw [upd_same] at e
   cases e
   exact hO
  ·rw [upd_ne h] at e
   exact (I.hok b u e).stay (fun _ _ _ q => q) (fun c q => by rw [upd_ne (ne _ _ q)]; exact q) fun c xs q => by rw [upd_ne (ne _ _ q)]; exact q
end
section
variable {X : Cx} {S : Addr} {cls n c : Str} {i j : Nat} {np cp np2 apos hpos pos : Pos} {body : List Stmt} {tb : XK → TS}
def tTry (K : PySem.W.Frag) (S : Addr) (i j : Nat) (tb : XK → TS) : TS := fun D σ H =>
 tb (fun C _ H' => PySem.W.exmOne K C (.ref S) = some true ∧ ∀ ea : Addr, H' ea = none → D.nx ((σ.set i (some (.ref ea))).set j none) (upd H' ea (.ext (ExcAt ea C)))) D σ H
theorem ps_try (hb : PB X body tb) (hst : X.stack = X.env :: X.outer) (hfr : X.env.frame = some X.env.locals) (hex : X.ex = []) (hN : X.N.Nodup) (hg : Gl X cls) (hm : X.mg cls = some (.ref S)) (hi : X.N[i]? = some c) (hc : Loc X.env.scope c)
  (hj : X.N[j]? = some n) (hn : X.env.scope.names.lookup n = some .local) (hij : i ≠ j)
  (hd : (cls == ("__debug__" : Str)) = false := by decide) (hnd : (n == ("__debug__" : Str)) = false := by decide) (hcd : (n == ("__classdict__" : Str)) = false := by decide)
  (hs : swapsWith (.Name n np2) (some (.Name c cp)) apos.line X.env = pure false := by rfl) (hf : X.fn c = true ∨ X.env.scope.names.lookup c = some .local := by first | exact .inl rfl | exact .inr rfl | assumption) :
  PS X (.Try body [.ExceptHandler (some (.Name cls np)) (some n) [.Assign [.Name c cp] (.Name n np2) apos] hpos] [] [] pos) (tTry X.K S i j tb) := by
 intro pins s σ H D I h
 refine wpAny_Try_except (wpAny_mono (hb pins s σ H D _ (fun e s₁ => wpAny (model X.prog X.w) X.A (noteFrame e X.env) (fun _ s₂ => wpAny (model X.prog X.w) X.A (setFlight e none) (fun _ s₃ => wpAny (model X.prog X.w) X.A (handleBy e X.env [.ExceptHandler (some (.Name cls np)) (some n) [.Assign [.Name c cp] (.Name n np2) apos] hpos]) (SP X pins D) X.xe s₃) X.xe s₂) X.xe s₁) I (fun H1 s1 e s' I1 hx => ?_) h) (fun fl s1 q => ?_) fun _ _ z => z)
 ·obtain ⟨ea, C, a0, H', B, rfl, os, bare, un, hok, fl, hB, hn', hE, hk⟩ := hx
  rw [hst] at fl
  refine wpAny_looks_onW (outer := X.outer) (by rw [I1.ok.frames, hst]) hfr fl fun h₄ held₄ up₄ => ?_
  refine wpAny_landsW held₄ fun h₅ fl₅ up₅ => ?_
  have J := I1.flown os bare un hok hB fl₅.1 (up₄.trans up₅)
  have LT : PySem.W.Looks (model X.prog X.w) h₅ (typeOf (.ref ea)) C := by
   obtain ⟨ob, hob, hobc⟩ := fl₅.there
   exact hobc ▸ (PySem.W.Looks.ld hob).andThen .now
  refine wpAny_handleBy_cons (codeAny_handlers_test (ld_glob (J.mark (.ref ea)) hg hm ?_ hd)) (by intro q; cases q)
  refine PySem.W.Looks.here (PySem.W.exm_one (K := X.K) J.kIn LT hE) ?_
  refine codeAny_handlers_suite_as (lands_againW fl₅ fun h₆ fl₆ up₆ => ?_)
  have J6 := I1.flown os bare un hok hB fl₆.1 ((up₄.trans up₅).trans up₆)
  obtain ⟨oe, ws, hoe, hoec, hoed, _⟩ := fl₆.first
  have nofr : ea ∉ frs X.stack := fun m => by
   rw [hst] at m
   obtain ⟨_, o, q, nf⟩ := fl₆.2.2.1.mem m
   rw [hoe] at q
   cases q
   exact nf _ hoed
  have inB : ∀ b o, s1.heap.get? b = some o → b ∉ frs X.stack → b ≠ ea := fun b o q m z => by
   obtain ⟨o', q'⟩ := un.there b o q (by simp)
   have e := hB b o' q' (.inl ⟨⟨o, q⟩, m⟩)
   rw [z, fl₆.2.1] at e
   cases e
  have hLs : X.env.locals ∈ frs X.stack := by
   rw [hst]
   unfold frs
   rw [List.filterMap_cons, hfr]
   exact List.mem_cons_self
  have T : Inv X pins σ (upd H' ea (.ext (ExcAt ea C))) { s' with heap := h₆ } := by
   refine J6.track hn' ?_ (fun z => nofr (z ▸ hLs)) (fun x c e z => ?_) (fun p hp => ?_) ⟨⟨oe, ws, hoe, hoec, hoed⟩, ⟨oe, hoe⟩, fun a b ⟨o, us, q1, q2⟩ k => ⟨o, us, k o q1, q2⟩⟩
   ·cases q : X.s₀.heap.get? ea with
    | none => rfl
    | some o =>
     have ib := I1.base
     rw [hex] at ib
     obtain ⟨o1, q1⟩ := ib.there ea o q (by simp)
     exact absurd rfl (inB ea o1 q1 nofr)
   ·obtain ⟨v, o, q, d⟩ := J6.cell x c e
    have q' : h₆.get? c = some o := q
    rw [z, hoe] at q'
    cases q'
    rw [hoed] at d
    cases d
   ·obtain ⟨e, n, ne, nf, d⟩ := I1.pin p hp
    refine inB p.1 p.2 e fun m => ?_
    rw [hst] at m
    unfold frs at m
    rw [List.filterMap_cons, hfr] at m
    rcases List.mem_cons.mp m with z | z
    ·exact ne z
    ·exact nf z
  have hjσ : j < σ.length := by rw [I1.len]; exact (List.getElem?_eq_some_iff.mp hj).1
  refine store_ok T hN hj (.inl hn) (show RelV (.ref ea) (.ref ea) from rfl) (fun s7 I7 => ?_) (.inr hn)
  refine wpAny_mono (pss_one (ps_set (X := X.mark (.ref ea)) hN hi hc (pe_var hj (.inl hn) hnd hcd) hs hf) pins s7 _ _ { nx := fun σ' H'' => σ' = (σ.set j (some (.ref ea))).set i (some (.ref ea)) ∧ H'' = upd H' ea (.ext (ExcAt ea C)), rt := fun _ _ => False } (I7.mark (.ref ea)) ⟨.ref ea, List.getElem?_set_self hjσ, rfl, rfl⟩) (fun fl s8 q => ?_) (fun _ _ z => z.elim)
  cases fl with
  | next =>
   obtain ⟨σ', H'', I8, rfl, rfl⟩ := q
   refine goes_ok (Inv.unmark I1.ok I8) hN hj hn fun s9 I9 => ⟨_, _, I9, ?_⟩
   have e : ((σ.set j (some (V.ref ea))).set i (some (.ref ea))).set j none = (σ.set i (some (.ref ea))).set j none := by
    rw [List.set_comm _ _ (Ne.symm hij), List.set_set]
   rw [e]
   exact hk ea hn'
  | ret v => obtain ⟨_, _, _, _, _, z⟩ := q; exact z.elim
  | brk => obtain ⟨_, _, _, z⟩ := q; exact z.elim
  | cont => obtain ⟨_, _, _, z⟩ := q; exact z.elim
 ·cases fl with
  | next => exact wpAny_execs_nil q
  | ret v => exact q
  | brk => exact q
  | cont => exact q
end
end L2
namespace L2
open PySem PySem.Spec PyProof.Rows PySem.W PySem.Builtin PySem.Builtin.ObjectAttr PySem.Builtin.Getset_descriptor
section
variable {prog : Program} {w : World} {A : Around} {E : Value → Shared → Prop} {h : Heap} {g : Array GenState} {d : Drawn} {t : Nat} {os : OsState} {K : PySem.W.Frag} {a C : Addr} {o : Obj}
theorem exc_class_get {tp : Value} {R : Result → Shared → Prop} (X : K.In h) (hx : h.get? a = some o) (hc : o.cls = .ref C) (hm : mroIn K C (.type "object") = some true)
  (q : R (.ok (.ret (.ref C))) ⟨h, g, d, t, os⟩) : codeAny (model prog w) A (.call (.builtin "getset_descriptor.__get__") ⟨[.builtin "object.__class__", .ref a, tp], []⟩) R ⟨h, g, d, t, os⟩ := by
 have L0 : Looks (model prog w) h (typeOf (.ref a)) (.ref C) := hc ▸ (Looks.ld hx).andThen .now
 have L1 := looks_mroIn (M := model prog w) X hm
 refine codeAny_call_builtin KF.slot_gs.plain KF.entry_gs (KF.slot_gs.check _ _ _ _ _ _ _ _ KF.type_class (KF.args_gs _ _ _) ?_)
 unfold Builtin.«getset_descriptor.__get__» descrGet
 rw [dga_obj]
 refine wpAny_bind (wpAny_pure ?_)
 unfold descrGetter descrCheckInstance descrNameAndClass isInstance
 simp only [KF.owner_class]
 repeat lk
 refine ⟨Code.quiet_builtin _ (by decide +kernel), codeAny_builtin KF.entry_class ?_⟩
 unfold Builtin.«object.__class__» shownTypeOf
 repeat lk
 exact q
structure ExcCls (K : PySem.W.Frag) (C : Addr) : Prop where
 ga : findIn K (.ref C) "__getattribute__" = some (some (.builtin "BaseException.__getattribute__"))
 gh : findIn K (.ref C) "__getattr__" = some none
 ca : findIn K (.ref C) "__class__" = some (some (.builtin "object.__class__"))
 ob : mroIn K C (.type "object") = some true
 be : mroIn K C (.type "BaseException") = some true
 cl : (clsIn K C).isSome = true
 hn : specialIn K (.builtin "object.__class__") "__get__" = some (some (.builtin "getset_descriptor.__get__"))
 htk : takesIn K (.builtin "object.__class__") = some true
theorem exc_find {M : Model} (X : K.In h) (c : ExcCls K C) : Looks M h (find (.ref a) (.ref C) "__class__") (.bind (.builtin "getset_descriptor.__get__") (.builtin "object.__class__")) := by
 refine (looks_findIn X c.ca).andThen ((looks_specialIn X c.hn).andThen ?_)
 exact (show Looks M h (dataDescriptor? (some (.builtin "object.__class__")) (some (.builtin "getset_descriptor.__get__"))) _ from (looks_takesIn X c.htk).andThen .now).andThen (Looks.tag .now)
theorem exc_entry {tk : Tok} {Q : Fin → Shared → Prop} (X : K.In h) (c : ExcCls K C) (hx : h.get? a = some o) (hc : o.cls = .ref C) (q : Q (.done (.ret (.ref C))) ⟨h, g, d, t, os⟩) :
  wpAny (model prog w) A (Builtin.«object.__getattribute__» ⟨[.ref a, .str "__class__" tk], []⟩) Q E ⟨h, g, d, t, os⟩ := by
 have L0 : Looks (model prog w) h (typeOf (.ref a)) (.ref C) := hc ▸ (Looks.ld hx).andThen .now
 have L1 := exc_find (M := model prog w) (a := a) X c
 unfold Builtin.«object.__getattribute__»
 refine wpAny_bind (wpAny_pure (wpAny_bind (wpAny_pure (wpAny_bind (L0.at (wpAny_bind (L1.at ?_)))))))
 refine wpAny_bind (wpAny_holding (wpAny_call (exc_class_get X hx hc c.ob ?_)))
 exact wpAny_pure q
theorem exc_check {M : Model} {nameV : Value} {Q : Unit → Shared → Prop} (X : K.In h) (c : ExcCls K C) (hx : h.get? a = some o) (hc : o.cls = .ref C) (q : Q () ⟨h, g, d, t, os⟩) : wpAny M A (checkBuiltinCall "BaseException.__getattribute__" ⟨[.ref a, nameV], []⟩) Q E ⟨h, g, d, t, os⟩ := by
 have hk : builtinKind "BaseException.__getattribute__" = some .slot := by decide +kernel
 have hsplit : splitId "BaseException.__getattribute__" = some ("BaseException", "__getattribute__") := by decide +kernel
 have ha := F.args_bexc_ga (.ref a) nameV
 have L0 : Looks M h (typeOf (.ref a)) (.ref C) := hc ▸ (Looks.ld hx).andThen .now
 have LI : Looks M h (isInstance (.ref a) (.type "BaseException")) true := L0.andThen (looks_mroIn X c.be)
 simp only [checkBuiltinCall, hk, hsplit]
 refine wpAny_bind (LI.at ?_)
 repeat (first | wp_step)
 exact q
theorem exc_by {tk : Tok} {Q : Value → Shared → Prop} (X : K.In h) (c : ExcCls K C) (hx : h.get? a = some o) (hc : o.cls = .ref C) (q : Q (.ref C) ⟨h, g, d, t, os⟩) :
  wpAny (model prog w) A (getAttrBy (.ref a) (.str "__class__" tk) false) Q E ⟨h, g, d, t, os⟩ := by
 have L0 : Looks (model prog w) h (typeOf (.ref a)) (.ref C) := hc ▸ (Looks.ld hx).andThen .now
 have L1 := looks_findIn (M := model prog w) X c.ga
 have L2 := looks_findIn (M := model prog w) X c.gh
 have hb : bindSpecial (.builtin "BaseException.__getattribute__") (.ref a) = pure (.builtin "BaseException.__getattribute__", [.ref a]) := by
  have hop : withoutEnding? "BaseException.__getattribute__" "#opaque" = none := by decide +kernel
  have hdat : withoutEnding? "BaseException.__getattribute__" "#data" = none := by decide +kernel
  have hk : builtinKind "BaseException.__getattribute__" = some .slot := by decide +kernel
  simp only [bindSpecial, typeOf, builtinType, hop, hdat, hk]; rfl
 have hx2 : (Value.builtin "BaseException.__getattribute__" == Value.builtin "object.__getattribute__") = false := by decide +kernel
 have hx1 : (onTheHeap (Value.ref C) && Value.builtin "BaseException.__getattribute__" == Value.builtin "object.__getattribute__") = false := by rw [hx2]; rfl
 unfold getAttrBy
 refine wpAny_holding (wpAny_bind (L0.at (wpAny_bind (L1.at ?_))))
 dsimp only
 rw [hx1, if_neg Bool.false_ne_true]
 unfold getAttrByItsOwn hookBefore
 rw [show onTheHeap (Value.ref C) = true from rfl, if_pos rfl]
 refine wpAny_bind (L2.at (wpAny_bind (wpAny_attempt (wpAny_holding ?_))))
 unfold callGetattribute
 rw [Bool.false_and, if_neg Bool.false_ne_true]
 unfold boundAndCalled
 rw [hb]
 refine wpAny_bind (wpAny_pure ?_)
 refine wpAny_call (codeAny_call_builtin (by decide +kernel) F.entry_bexc_ga (exc_check X c hx hc (exc_entry X c hx hc ?_)))
 exact wpAny_pure q
theorem kitx_exc (c : ExcCls K C) : KitX K (.ref a) (.ref C) (ExcAt a (.ref C)) where
 ty := fun _ _ _ ⟨_, _, hx, hc, _⟩ => hc ▸ (Looks.ld hx).andThen .now
 it := fun _ _ X _ => by
  have hcD := c.cl
  unfold clsIn at hcD
  split at hcD
  ·rename_i c' d' cd' sl' ho
   intro A' Q' E' s' k q
   unfold isType loadHead
   exact wpAny_bind (wpAny_loadPart (k _ _ (X _ _ ho)) (wpAny_pure q))
  ·cases hcD
 ne := fun h tp dd its n sl X htp => by
  have hcD := c.cl
  refine Bool.eq_false_iff.mpr fun q => ?_
  have e : C = tp := Value.ref.inj (beq_iff_eq.mp q)
  subst e
  unfold clsIn at hcD
  split at hcD
  ·rename_i c' d' cd' sl' ho
   have z := (X _ _ ho).symm.trans htp
   cases z
  ·cases hcD
 ca := fun {_ _ _ _ _ s} X ⟨_, _, hx, hc, _⟩ k => by
  obtain ⟨h, g, d, t, os⟩ := s
  unfold getAttr? getAttrBy?
  refine wpAny_bind (wpAny_mkText (wpAny_bind (wpAny_attempt (exc_by X c hx hc ?_))))
  exact wpAny_pure k
end
end L2
namespace L2
open PySem PySem.Spec PyProof.Rows
def rIsiE (K : PySem.W.Frag) : List V → Hp → VK → Prop := fun vs H Q => ∃ (ea D : Addr) (c : V) (cv : Value) (b : Bool), vs = [.ref ea, c] ∧ H ea = some (.ext (ExcAt ea (.ref D))) ∧ ExcCls K D ∧ (∀ u, RelV c u → u = cv) ∧ PySem.W.kitOne K (.ref D) cv = some b ∧ Q (.bl b) H
theorem call_isiE {X : Cx} : CallR X (.builtin "isinstance") (rIsiE X.K) := by
 intro pins s σ H vs us Q I r ⟨ea, D, c, cv, b, e, h, hc, hu, hk, q⟩
 subst e
 obtain ⟨u, v, rfl, h1, h2⟩ := r.two
 cases h1
 cases hu _ h2
 have ho : ExcAt ea (.ref D) s.heap := (I.hok ea _ h).1
 exact PySem.W.kia_one (kitx_exc hc) I.kIn ho hk (fun z => nomatch z) fun tk => ⟨.bl b, H, I.tok tk, rfl, q⟩
end L2
namespace L2
open PySem PySem.Spec PyProof.Rows
def noE (sp : Sp) : Sp := fun vs H Q _ => sp vs H Q fun _ _ _ => False
theorem FnOk.cx0 {P : Program} {w : World} {K : PySem.W.Frag} {mg : Str → Option Value} {base : Heap} {k : Nat} {f : Addr} {fd : FuncData} {ps : List Str} {sp : Sp} (F : FnOk P w K mg base (CX1 P w) k f fd ps sp) : FnOk P w K mg base CX0 k f fd ps (noE sp) :=
 ⟨fun vs H Q E h => F.len vs H Q _ h, fun A outer s H args us vs Q E hr he hb hv hs => codeAny_mono (F.run A outer s H args us vs Q _ hr he hb hv hs) fun r s' q => by
  cases r with
  | error e =>
   obtain ⟨ea, C, a0, H', B, _, _, _, _, _, _, _, _, z⟩ := q
   exact z.elim
  | ok fl => cases fl <;> exact q⟩
end L2
namespace L2
open PySem PySem.Spec PyProof.Rows
def flatD : Nat → PyData → Bool
 | _, .none => true
 | _, .bool _ => true
 | _, .int _ => true
 | _, .str _ => true
 | n + 1, .list ds => ds.all (flatD n)
 | n + 1, .tuple ds => ds.all (flatD n)
 | _, _ => false
theorem DatAll.get {H : Hp} : ∀ {xs : List V} {ds : List PyData}, DatAll H xs ds → ∀ {j : Nat} {x : V}, xs[j]? = some x → ∃ d, ds[j]? = some d ∧ Dat H x d
 | _, _, .nil, _, _, h => by cases h
 | _, _, .cons a t, 0, _, h => by cases h; exact ⟨_, rfl, a⟩
 | _, _, .cons _ t, j + 1, _, h => t.get (j := j) h
theorem all_tr (n : Nat) : (List.range n).all (fun _ => true) = true := List.all_eq_true.mpr fun _ _ => rfl
theorem eqv_dat {K : PySem.W.Frag} {H : Hp} : ∀ (n : Nat) {x y : V} {d : PyData}, flatD n d = true → Dat H x d → Dat H y d → EqV K H n x y true := by
 intro n
 induction n with
 | zero =>
  intro x y d f a b
  cases a with
  | non => cases b; exact .non
  | bl i => cases b; have q := EqV.bl (K := K) (H := H) (n := 0) i i; rw [beq_self_eq_true] at q; exact q
  | int i => cases b; have q := EqV.int (K := K) (H := H) (n := 0) i i; rw [beq_self_eq_true] at q; exact q
  | str i => cases b; have q := EqV.str (K := K) (H := H) (n := 0) i i; rw [beq_self_eq_true] at q; exact q
  | _ => cases f
 | succ n ih =>
  intro x y d f a b
  cases a with
  | non => cases b; exact .non
  | bl i => cases b; have q := EqV.bl (K := K) (H := H) (n := n + 1) i i; rw [beq_self_eq_true] at q; exact q
  | int i => cases b; have q := EqV.int (K := K) (H := H) (n := n + 1) i i; rw [beq_self_eq_true] at q; exact q
  | str i => cases b; have q := EqV.str (K := K) (H := H) (n := n + 1) i i; rw [beq_self_eq_true] at q; exact q
  | @lst a1 xs ds e1 h1 =>
   cases b with
   | @lst a2 ys _ e2 h2 =>
    by_cases z : a1 = a2
    ·rw [z]; exact .same _
    ·have q := EqV.lst (K := K) (n := n) (e := fun _ => true) z (SqL.of e1) (SqL.of e2) (h1.len.trans h2.len.symm) fun j x y hx hy => by
      obtain ⟨d1, g1, k1⟩ := h1.get hx
      obtain ⟨d2, g2, k2⟩ := h2.get hy
      rw [g1] at g2
      cases g2
      exact ih (List.all_eq_true.mp f d1 (List.mem_of_getElem? g1)) k1 k2
     rw [all_tr] at q
     exact q
  | @tup a1 xs ds e1 h1 =>
   cases b with
   | @tup a2 ys _ e2 h2 =>
    by_cases z : a1 = a2
    ·rw [z]; exact .same _
    ·have q := EqV.tup (K := K) (n := n) (e := fun _ => true) z (SqT.of e1) (SqT.of e2) (h1.len.trans h2.len.symm) fun j x y hx hy => by
      obtain ⟨d1, g1, k1⟩ := h1.get hx
      obtain ⟨d2, g2, k2⟩ := h2.get hy
      rw [g1] at g2
      cases g2
      exact ih (List.all_eq_true.mp f d1 (List.mem_of_getElem? g1)) k1 k2
     rw [all_tr] at q
     exact q
  | _ => cases f
theorem rcv_datL {K : PySem.W.Frag} {H : Hp} {a b : Addr} {xs ys : List V} {ds : List PyData} (f : ds.all (flatD 4) = true) (e1 : H a = some (.lst xs)) (h1 : DatAll H xs ds) (e2 : H b = some (.lst ys)) (h2 : DatAll H ys ds) : RcV K H (.ref a) (.ref b) true := by
 have q := RcV.lst (K := K) (e := fun _ => true) (SqL.of e1) (SqL.of e2) (h1.len.trans h2.len.symm) fun j x y hx hy => by
  obtain ⟨d1, g1, k1⟩ := h1.get hx
  obtain ⟨d2, g2, k2⟩ := h2.get hy
  rw [g1] at g2
  cases g2
  exact eqv_dat 4 (List.all_eq_true.mp f d1 (List.mem_of_getElem? g1)) k1 k2
 rw [all_tr] at q
 exact q
theorem rcv_datT {K : PySem.W.Frag} {H : Hp} {a b : Addr} {xs ys : List V} {ds : List PyData} (f : ds.all (flatD 4) = true) (e1 : H a = some (.tup xs)) (h1 : DatAll H xs ds) (e2 : H b = some (.tup ys)) (h2 : DatAll H ys ds) : RcV K H (.ref a) (.ref b) true := by
 have q := RcV.tup (K := K) (e := fun _ => true) (SqT.of e1) (SqT.of e2) (h1.len.trans h2.len.symm) fun j x y hx hy => by
  obtain ⟨d1, g1, k1⟩ := h1.get hx
  obtain ⟨d2, g2, k2⟩ := h2.get hy
  rw [g1] at g2
  cases g2
  exact eqv_dat 4 (List.all_eq_true.mp f d1 (List.mem_of_getElem? g1)) k1 k2
 rw [all_tr] at q
 exact q
theorem flat_ints' (n : Nat) (ns : List Int) : (ns.map PyData.int).all (flatD n) = true := List.all_eq_true.mpr fun d hd => by
 obtain ⟨i, _, e⟩ := List.mem_map.mp hd
 rw [← e]
 cases n <;> rfl
theorem flat_list (n : Nat) (ns : List Int) : flatD (n + 1) (.list (ns.map PyData.int)) = true := flat_ints' n ns
def planDt (ns ss : List Int) : PyData := .tuple [.list (ns.map PyData.int), .list (ss.map PyData.int)]
theorem flat_plan (n : Nat) (ns ss : List Int) : flatD (n + 2) (planDt ns ss) = true := by
 show ([PyData.list (ns.map PyData.int), PyData.list (ss.map PyData.int)]).all (flatD (n + 1)) = true
 simp only [List.all_cons, List.all_nil, flat_list, Bool.and_self]
theorem dat_plan {H : Hp} {t a b : Addr} {ns ss : List Int} (h1 : H t = some (.tup [.ref a, .ref b])) (h2 : H a = some (.lst (ns.map V.int))) (h3 : H b = some (.lst (ss.map V.int))) : Dat H (.ref t) (planDt ns ss) :=
 .tup h1 (.cons (.lst h2 (DatAll.ints _)) (.cons (.lst h3 (DatAll.ints _)) .nil))
theorem dat_ints {H : Hp} {a : Addr} {ns : List Int} (h2 : H a = some (.lst (ns.map V.int))) : Dat H (.ref a) (.list (ns.map PyData.int)) := .lst h2 (DatAll.ints _)
end L2
namespace L2
open PySem PySem.Spec PyProof.Rows
section
variable {X : Cx}
end
section
variable {X : Cx} {k : Nat} {f : Addr} {fd : FuncData} {ps : List Str} {sp : Sp} {dvs : List V} {ds : List Value} {x y : Str} {i : Nat} {p pos pos' cpos : Pos} {e : Expr} {es : List Expr} {t : TA}
def tbSet (i : Nat) (sp : Sp) (dvs : List V) (t : TA) : XK → TS := fun E D σ H => t σ H fun vs H1 => sp (vs ++ dvs) H1 (fun v H2 => D.nx (σ.set i (some v)) H2) E
theorem pb_set (hx : ∀ e s, ¬ X.xe e s) (hN : X.N.Nodup) (hi : X.N[i]? = some y) (hy : Loc X.env.scope y) (Fn : FnOk X.prog X.w X.K X.mg X.base (CX1 X.prog X.w) k f fd ps sp) (hr : Room k X.A) (hg : Gl X x) (hm : X.mg x = some (.ref f)) (hk : PySem.W.keepIn X.K (.ref f) = true) (hb : Binds X.K fd ps ds) (hd : Vals dvs ds)
  (ha : PA X (e :: es) t) (hdb : (x == ("__debug__" : Str)) = false := by decide) (he : starEach (e :: es) X.env = (false, eval e X.env) :: starEach es X.env := by rfl) (hpl : (backTo cpos (starEach es X.env)).any (·.1) = false := by rfl)
  (hs : swapsWith (.Call (.Name x p) (e :: es) [] cpos) (some (.Name y pos')) pos.line X.env = pure false := by rfl) (hf : X.fn y = true ∨ X.env.scope.names.lookup y = some .local := by first | exact .inl rfl | exact .inr rfl | assumption) :
  PB X [.Assign [.Name y pos'] (.Call (.Name x p) (e :: es) [] cpos) pos] (tbSet i sp dvs t) := by
 intro pins s σ H D E F I hF h
 have hq : wpAny (model X.prog X.w) X.A (eval (.Call (.Name x p) (e :: es) [] cpos) X.env) (EP X pins σ fun v H2 => D.nx (σ.set i (some v)) H2) F s := by
  refine wpAny_Call_Name_kw (ld_glob I hg hm ?_ hdb)
  refine PySem.W.callWith_K (h₀ := X.base) I.ok.mod.kin hk (wpAny_mono (ha cpos pins s σ H _ I h) (fun us s1 ⟨vs, H1, I1, r, q⟩ => ⟨I1.kIn, ?_⟩) fun _ _ z => (hx _ _ z).elim) he hpl
  have r2 : Vals (vs ++ dvs) (us ++ ds) := r.append hd
  have hl : (us ++ ds).length = ps.length := by rw [← r2.length]; exact Fn.len _ _ _ _ q
  refine wpAny_call (codeAny_mono (Fn.run X.A X.stack s1 H1 ⟨us, []⟩ (us ++ ds) (vs ++ dvs) _ E hr I1.env0 (hb s1 us I1.kIn hl) r2 q) fun r s' hq => ?_)
  cases r with
  | error e => exact hF H1 s1 e s' I1 hq
  | ok fl =>
   cases fl with
   | ret u => exact I1.after hq
   | next => exact False.elim hq
   | brk => exact False.elim hq
   | cont => exact False.elim hq
 refine wpAny_execs_cons ?_
 exact wpAny_Assign_Name (thn hq fun v s1 ⟨z, H1, I1, r1, q1⟩ => store_ok I1 hN hi hy r1 (fun s2 I2 => wpAny_execs_nil ⟨_, H1, I2, q1⟩) hf) hs
end
end L2
namespace L2
open PySem PySem.Spec PyProof.Rows
end L2
namespace L2
open PySem PySem.Spec PyProof.Rows
section
variable {X : Cx} {tg : Expr}
end
end L2
namespace L2
open PySem PySem.Spec PyProof.Rows
section
variable {X : Cx} {k : Nat} {f C : Addr} {fd : FuncData} {ps : List Str} {sp : Sp} {dvs : List V} {ds : List Value} {x : Str} {p pos cpos : Pos} {e : Expr} {es : List Expr} {t : TA}
def tbMake (C : Addr) (sp : Sp) (dvs : List V) (t : TA) : XK → TS := fun E D σ H => t σ H fun vs H1 => ∀ x dx, H1 x = none → H1 dx = none → dx ≠ x →
 sp (.ref x :: (vs ++ dvs)) (upd (upd H1 dx (.own x)) x (.ins C dx [])) (fun v H2 => v = .non ∧ D.nx σ H2) E
theorem pb_make (hx : ∀ e s, ¬ X.xe e s) (M : Mk X.K C f) (Fn : FnOk X.prog X.w X.K X.mg X.base (CX1 X.prog X.w) k f fd ps sp) (hr : Room (k + 1) X.A) (hg : Gl X x) (hm : X.mg x = some (.ref C)) (hb : Binds X.K fd ps ds) (hd : Vals dvs ds)
  (ha : PA X (e :: es) t) (hdb : (x == ("__debug__" : Str)) = false := by decide) (he : starEach (e :: es) X.env = (false, eval e X.env) :: starEach es X.env := by rfl) (hpl : (backTo cpos (starEach es X.env)).any (·.1) = false := by rfl)
  (hs : swapsWith (.Call (.Name x p) (e :: es) [] cpos) none pos.line X.env = pure false := by rfl) :
  PB X [.Expr (.Call (.Name x p) (e :: es) [] cpos) pos] (tbMake C sp dvs t) := by
 intro pins s σ H D E F I hF h
 have hq : wpAny (model X.prog X.w) X.A (eval (.Call (.Name x p) (e :: es) [] cpos) X.env) (EP X pins σ fun _ H2 => D.nx σ H2) F s := by
  refine wpAny_Call_Name_kw (ld_glob I hg hm ?_ hdb)
  refine PySem.W.callWith_K (h₀ := X.base) I.ok.mod.kin M.kp (wpAny_mono (ha cpos pins s σ H _ I h) (fun us s1 ⟨vs, H1, I1, r, q⟩ => ⟨I1.kIn, ?_⟩) fun _ _ z => (hx _ _ z).elim) he hpl
  have hn := q (s1.heap.objs.size + 1) s1.heap.objs.size (I1.hok.fresh (Nat.le_succ _)) (I1.hok.fresh (Nat.le_refl _)) (Nat.ne_of_lt (Nat.lt_succ_self _))
  have I2 := Inv.made (C := C) I1
  have r2 : Vals (V.ref (s1.heap.objs.size + 1) :: (vs ++ dvs)) (Value.ref (s1.heap.objs.size + 1) :: (us ++ ds)) := .cons rfl (r.append hd)
  have hl : (Value.ref (s1.heap.objs.size + 1) :: us ++ ds).length = ps.length := by
   have e := r2.length
   rw [Fn.len _ _ _ _ hn] at e
   exact e.symm
  have run := Fn.run _ X.stack _ _ ⟨Value.ref (s1.heap.objs.size + 1) :: us, []⟩ (Value.ref (s1.heap.objs.size + 1) :: (us ++ ds)) _ _ E (hr.make C us []) (I2.env0.make C us []) (hb _ (Value.ref (s1.heap.objs.size + 1) :: us) I2.kIn hl) r2 hn
  refine wpAny_call (make_map (f := f) I1.kIn M.makes M.init (beq_iff_eq.mp M.fn) (codeAny_mono run fun r s' hq' => ?_))
  cases r with
  | error e => exact hF _ _ e s' I2 hq'
  | ok fl =>
   cases fl with
   | ret u =>
    obtain ⟨v, H', I3, rv, ev, q3⟩ := I2.after hq'
    subst ev
    exact ⟨rv, ⟨V.ref (s1.heap.objs.size + 1), H', I3, rfl, q3⟩⟩
   | next => exact False.elim hq'
   | brk => exact False.elim hq'
   | cont => exact False.elim hq'
 refine wpAny_execs_cons ?_
 exact wpAny_Expr_any (thn hq fun v s1 ⟨x, H1, I1, r1, q1⟩ => wpAny_execs_nil ⟨σ, H1, I1, q1⟩) I.quiet hs
end
end L2
namespace N40
open PySem PySem.Spec PyProof.Rows L2
abbrev Kee (K : PySem.W.Frag) (f : Addr) : Prop := PySem.W.keepIn K (.ref f) = true
theorem two_le : 2 ≤ sizeLine := by decide
variable {P : Program} {w : World} {K : PySem.W.Frag} {mg : Str → Option Value} {base : Heap}
def top (i : Nat) : Stmt := PySem.Challenge.pw_nearsums_k40_what_a_keeper_refuses.main.body.getD i (.Pass ⟨0, 0, 0, 0⟩)
structure Bt (mg : Str → Option Value) : Prop where
 len : mg "len" = none
 max : mg "max" = none
 min : mg "min" = none
 range : mg "range" = none
 list : mg "list" = none
 int : mg "int" = none
structure Dk (H : Hp) (d p : Addr) (qs : List Addr) : Prop where
 dk : ∃ c : Int, H d = some (.lst [.ref p, .int c])
 pl : H p = some (.lst (qs.map V.ref))
 ne : 0 < qs.length
 le : qs.length ≤ 63
 q : ∀ q ∈ qs, ∃ a b c : Int, H q = some (.lst [.int a, .int b, .int c])
theorem small {n : Nat} (h : n ≤ 1000) : n ≤ sizeLine := Nat.le_of_lt (small1000 h)
structure Bt2 (mg : Str → Option Value) : Prop extends Bt mg where
 all : mg "all" = none
 isinstance : mg "isinstance" = none
 bool : mg "bool" = none
 str : mg "str" = none
 tuple : mg "tuple" = none
 sorted : mg "sorted" = none
theorem none_of_same {H H' : Hp} {p : Addr} (g : Same H H') (h : H' p = none) : H p = none := by
 cases e : H p with
 | none => rfl
 | some o => rw [g _ _ e] at h; cases h
structure Rise (xs : List Int) : Prop where
 up : xs.Pairwise (· < ·)
 bd : ∀ x ∈ xs, 0 ≤ x
structure PlanOk (ns ss : List Int) : Prop where
 n : Rise ns
 s : Rise ss
 n1 : 1 ≤ ns.length
 n2 : ns.length ≤ 10
 s2 : ss.length ≤ 10
theorem comp_true {x : V} {σ : L2.St} {H : Hp} {A B : L2.St → Hp → Prop} (h : A (σ.set 0 (some x)) H) : gName 0 x σ H fun σ2 H2 => tTrue σ2 H2 fun b H3 => if b = true then A σ2 H3 else B σ2 H3 := by
 have z : (if true = true then A (σ.set 0 (some x)) H else B (σ.set 0 (some x)) H) := iteT h
 exact z
theorem erase_map {α β : Type} (f : α → β) : ∀ (l : List α) (i : Nat), (l.map f).eraseIdx i = (l.eraseIdx i).map f
 | [], _ => rfl
 | _ :: _, 0 => rfl
 | x :: r, i + 1 => by
  rw [List.map_cons, List.eraseIdx_cons_succ, List.eraseIdx_cons_succ, List.map_cons, erase_map f r i]
theorem nodup_map {α β : Type} {f : α → β} (hf : ∀ a b, f a = f b → a = b) : ∀ {l : List α}, l.Nodup → (l.map f).Nodup
 | [], _ => List.nodup_nil
 | x :: r, h => by
  rw [List.nodup_cons] at h
  rw [List.map_cons, List.nodup_cons]
  refine ⟨fun z => ?_, nodup_map hf h.2⟩
  obtain ⟨y, hy, e⟩ := List.mem_map.mp z
  exact h.1 (hf _ _ e ▸ hy)
theorem range_nodup (n : Nat) : ((List.range n).map fun k : Nat => (k : Int)).Nodup := nodup_map (fun a b h => by omega) List.nodup_range
theorem strict {xs : List Int} (h : xs.Pairwise (· ≤ ·)) (n : xs.Nodup) : xs.Pairwise (· < ·) := by
 induction xs with
 | nil => exact .nil
 | cons x r ih =>
  rw [List.pairwise_cons] at h ⊢
  rw [List.nodup_cons] at n
  refine ⟨fun y hy => ?_, ih h.2 n.2⟩
  have h1 := h.1 y hy
  have h2 : x ≠ y := fun e => n.1 (e ▸ hy)
  omega
structure Bt3 (mg : Str → Option Value) : Prop extends Bt2 mg where
 enumerate : mg "enumerate" = none
abbrev sCell : Stmt := top 43
abbrev sSto : Stmt := top 44
abbrev sTkT : Stmt := top 45
abbrev sNuT : Stmt := top 46
def StT (H : Hp) (d : Addr) : Prop := ∃ g c k : Int, H d = some (.lst [.int g, .int c, .int k])
def OffT (d : Addr) (H H' : Hp) : Prop := ∀ b, b ≠ d → H' b = H b
theorem OffT.ex {d : Addr} {H H' : Hp} (o : OffT d H H') : Ex (· = d) H H' := fun b u n h => (o b n).trans h
theorem StT.ex {H H' : Hp} {d : Addr} (S : StT H d) (g : Same H H') : StT H' d := let ⟨a, b, c, h⟩ := S; ⟨a, b, c, g _ _ h⟩
theorem StT.out {H : Hp} {d x : Addr} (S : StT H d) (h : H x = none) : x ≠ d := fun z => by
 obtain ⟨a, b, c, e⟩ := S
 rw [z, e] at h
 cases h
theorem StT.off {H : Hp} {d x : Addr} {o : HO} (S : StT H d) (h : x ≠ d) : StT (upd H x o) d := let ⟨a, b, c, e⟩ := S; ⟨a, b, c, by rw [upd_ne (Ne.symm h)]; exact e⟩
theorem exT {d x : Addr} {H H' : Hp} (S : StT H' d) (o : Ex (· = d) H H') (h : H' x = none) : H x = none := by
 cases e : H x with
 | none => rfl
 | some u =>
  have z := o x u (S.out h) e
  rw [h] at z; cases z
def spCell (K : PySem.W.Frag) : Sp := fun vs H Q _ => ∃ (a : Addr) (ns : List Int) (k : Int), vs = [.ref a, .int k] ∧ SqL K H a (ns.map V.int) ∧ 0 ≤ k ∧ k < 100 ∧ ∀ r : Int, Q (.int r) H
def spStT : Sp := fun vs H Q _ => ∃ cell : Int, vs = [.int cell] ∧ ∀ (d : Addr) (H' : Hp), Same H H' → H d = none → StT H' d → Q (.ref d) H'
def spTkT : Sp := fun vs H Q _ => ∃ (d : Addr) (many : Int), vs = [.ref d, .int many] ∧ StT H d ∧ 0 < many ∧ many < 2 ^ 100 ∧ ∀ (r : Int) (H' : Hp), 0 ≤ r → r < many → StT H' d → OffT d H H' → Q (.int r) H'
def spNuT : Sp := fun vs H Q _ => ∃ d : Addr, vs = [.ref d] ∧ StT H d ∧ ∀ (l : Addr) (ns : List Int) (H' : Hp), Ex (· = d) H H' → StT H' d → H l = none → H' l = some (.lst (ns.map V.int)) → Rise ns → 1 ≤ ns.length → ns.length ≤ 10 → (∀ x ∈ ns, x < 3 * 10 ^ 25) → Q (.ref l) H'
theorem rise_on0 {low : Int} (h0 : 0 ≤ low) (n : Nat) : Rise ((List.range n).map fun k : Nat => low + (k : Int)) := by
 refine ⟨?_, fun x hx => ?_⟩
 ·rw [List.pairwise_map]
  exact List.pairwise_lt_range.imp fun h => by omega
 ·obtain ⟨k, _, rfl⟩ := List.mem_map.mp hx
  omega
theorem set_len {ys xs : List Int} (up : ys.Pairwise (· < ·)) (m : ∀ y, y ∈ ys ↔ y ∈ xs) : ys.length ≤ xs.length := by
 have nd : ys.Nodup := up.imp fun h => by omega
 exact sub_lenI nd fun y hy => (m y).mp hy
section
variable {f tk : Addr} {fd tkd : FuncData}
theorem scCell : FnScope ["script", "k"] ["script", "k"] (defScope sCell) := ⟨rfl, rfl, rfl, by decide +kernel, rfl, by decide +kernel, by decide +kernel⟩
theorem ok_cell (F : Fun K "_law_cell" "_law_cell" sCell f fd) (B : Bt3 mg) : FnOk P w K mg base CX0 1 f fd ["script", "k"] (spCell K) := by
 refine F.ok scCell (fun vs H Q E h => ?_) (fun cdv A outer s H vs Q E hr h => ?_)
 ·obtain ⟨a, ns, k, rfl, _⟩ := h
  rfl
 obtain ⟨a, ns, k, rfl, hS, k0, k1, q⟩ := h
 refine ⟨_, (@pss_cons _ _ _ _ _ (ps_if (pt_cmpR op_lt (pv 1) (pe_callB call_len_seq rfl B.len PySem.boot_len (pa_cons (pv 0) pa_nil)) (nomark _)) (@pss_one _ _ _ (ps_ret (pe_ix ix_list (pv 0) (pv 1) (fun _ _ => rfl)))) pss_nil) (@pss_one _ _ _ (ps_ret (pe_op op_add (pe_op op_add (pe_op op_mul (pe_op op_mul pe_int (pv 1)) (pv 1)) (pe_op op_mul pe_int (pv 1))) pe_int)))), ?_⟩
 have nml : (ns.map V.int).length = ns.length := List.length_map _
 refine ⟨_, rfl, _, rfl, a, _, rfl, .inl hS, _, _, rfl, rfl, _, rfl, ite2 (fun c => ?_) (fun c => ?_)⟩
 ·have h1 : k < ((ns.map V.int).length : Nat) := of_decide_eq_true c
  rw [nml] at h1
  obtain ⟨v, hv, _⟩ := pick_int ns k0 h1
  exact ⟨_, rfl, _, rfl, a, _, _, _, rfl, rfl, hS, hv, q _⟩
 ·exact ⟨_, rfl, _, _, rfl, rfl, .inl ⟨by decide, by decide⟩, _, rfl, _, _, rfl, rfl, .inr ⟨by omega, by omega⟩, _, rfl, _, _, rfl, rfl, .inl ⟨by decide, by decide⟩, _, _, rfl, rfl, _, _, rfl, rfl, q _⟩
theorem scSto : FnScope ["cell", "great"] ["cell"] (defScope sSto) := ⟨rfl, rfl, rfl, by decide +kernel, rfl, by decide +kernel, by decide +kernel⟩
theorem ok_stT (F : Fun K "_law_store" "_law_store" sSto f fd) : FnOk P w K mg base CX0 1 f fd ["cell"] spStT := by
 refine F.ok scSto (fun vs H Q E h => ?_) (fun cdv A outer s H vs Q E hr h => ?_)
 ·obtain ⟨c, rfl, _⟩ := h
  rfl
 obtain ⟨c, rfl, q⟩ := h
 refine ⟨_, (@pss_cons _ _ _ _ _ (ps_set (i := 1) scSto.nd rfl (Or.inl rfl) pe_int) (@pss_cons _ _ _ _ _ (ps_if (pt_cmpR op_ge (pv 0) (pe_op op_pow pe_int pe_int) (nomark _)) (@pss_one _ _ _ (ps_set (i := 1) scSto.nd rfl (Or.inl rfl) (pv 0))) pss_nil) (@pss_one _ _ _ (ps_ret (pe_lst (pa_cons (pv 1) (pa_cons (pe_op op_mod (pv 0) pe_int) (pa_cons pe_int pa_nil)))))))), ?_⟩
 refine ⟨_, rfl, _, _, rfl, rfl, ⟨by decide, by decide, by decide⟩, _, _, rfl, rfl, _, rfl, ite2 (fun _ => ?_) (fun _ => ?_)⟩
 ·exact ⟨_, rfl, _, rfl, _, rfl, _, _, rfl, rfl, (by show (0 : Int) < 2147483629; decide), (by show 3 ≤ sizeLine; decide), fun d hd => q d _ (Same.new hd _) hd ⟨_, _, _, upd_same⟩⟩
 ·exact ⟨_, rfl, _, rfl, _, _, rfl, rfl, (by show (0 : Int) < 2147483629; decide), (by show 3 ≤ sizeLine; decide), fun d hd => q d _ (Same.new hd _) hd ⟨_, _, _, upd_same⟩⟩
theorem scTkT : FnScope ["store", "many", "told", "one"] ["store", "many"] (defScope sTkT) := ⟨rfl, rfl, rfl, by decide +kernel, rfl, by decide +kernel, by decide +kernel⟩
theorem ok_tkT (F : Fun K "_law_take" "_law_take" sTkT f fd) : FnOk P w K mg base CX0 1 f fd ["store", "many"] spTkT := by
 refine F.ok scTkT (fun vs H Q E h => ?_) (fun cdv A outer s H vs Q E hr h => ?_)
 ·obtain ⟨d, many, rfl, _⟩ := h
  rfl
 obtain ⟨d, many, rfl, ⟨g, c, k, hd⟩, m0, m1, q⟩ := h
 refine ⟨_, (@pss_cons _ _ _ _ _ (ps_if (pt_cmpR op_gt (pe_ix ix_list (pv 0) pe_int (fun _ _ => rfl)) pe_int (nomark _)) (@pss_cons _ _ _ _ _ (ps_set (i := 2) scTkT.nd rfl (Or.inl rfl) (pe_op op_mod (pe_ix ix_list (pv 0) pe_int (fun _ _ => rfl)) (pv 1))) (@pss_cons _ _ _ _ _ (ps_asg (pe_op op_fdivB (pe_ix ix_list (pv 0) pe_int (fun _ _ => rfl)) (pv 1)) (pg_sub (pv 0) pe_int set_list)) (@pss_one _ _ _ (ps_ret (pv 2))))) pss_nil) (@pss_cons _ _ _ _ _ (ps_asg (pe_op op_add (pe_ix ix_list (pv 0) pe_int (fun _ _ => rfl)) pe_int) (pg_sub (pv 0) pe_int set_list)) (@pss_cons _ _ _ _ _ (ps_set (i := 3) scTkT.nd rfl (Or.inl rfl) (pe_op op_mod (pe_op op_mul (pe_op op_add (pe_ix ix_list (pv 0) pe_int (fun _ _ => rfl)) (pe_op op_mul pe_int (pe_ix ix_list (pv 0) pe_int (fun _ _ => rfl)))) pe_int) pe_int)) (@pss_cons _ _ _ _ _ (ps_set (i := 3) scTkT.nd rfl (Or.inl rfl) (pe_op op_mod (pe_op op_mul (pv 3) (pv 3)) pe_int)) (@pss_cons _ _ _ _ _ (ps_set (i := 3) scTkT.nd rfl (Or.inl rfl) (pe_op op_mod (pe_op op_mul (pe_op op_add (pv 3) (pe_op op_mul pe_int (pe_ix ix_list (pv 0) pe_int (fun _ _ => rfl)))) pe_int) pe_int)) (@pss_one _ _ _ (ps_ret (pe_op op_mod (pe_op op_fdiv (pv 3) pe_int) (pv 1))))))))), ?_⟩
 refine ⟨_, rfl, d, _, 0, _, rfl, rfl, SqL.of hd, rfl, _, _, rfl, rfl, _, rfl, ite2 (fun _ => ?_) (fun _ => ?_)⟩
 ·refine ⟨_, rfl, d, _, 0, _, rfl, rfl, SqL.of hd, rfl, _, rfl, _, _, rfl, rfl, m0, ?_⟩
  refine ⟨_, rfl, d, _, 0, _, rfl, rfl, SqL.of hd, rfl, _, rfl, _, _, rfl, rfl, ⟨m0, m1⟩, _, rfl, d, _, 0, 0, rfl, rfl, hd, rfl, ?_⟩
  exact ⟨_, rfl, q _ _ (Int.emod_nonneg _ (by omega)) (Int.emod_lt_of_pos _ m0) ⟨_, _, _, upd_same⟩ fun b hb => upd_ne hb⟩
 ·refine ⟨_, rfl, d, _, 2, _, rfl, rfl, SqL.of hd, rfl, _, _, rfl, rfl, _, rfl, d, _, 2, 2, rfl, rfl, hd, rfl, ?_⟩
  have hd1 : (upd H d (.lst [.int g, .int c, .int (k + 1)])) d = some (.lst [.int g, .int c, .int (k + 1)]) := upd_same
  have o1 : OffT d H (upd H d (.lst [.int g, .int c, .int (k + 1)])) := fun b hb => upd_ne hb
  refine ⟨_, rfl, d, _, 1, _, rfl, rfl, SqL.of hd1, rfl, _, rfl, d, _, 2, _, rfl, rfl, SqL.of hd1, rfl, _, _, rfl, rfl, .inl ⟨by decide, by decide⟩, _, _, rfl, rfl, _, _, rfl, rfl, .inr ⟨by decide, by decide⟩, _, _, rfl, rfl, (by show (0 : Int) < 2147483647; decide), ?_⟩
  have b1 := Int.emod_nonneg ((c + 7919 * (k + 1)) * 48271) (show (2147483647 : Int) ≠ 0 by decide)
  have b2 := Int.emod_lt_of_pos ((c + 7919 * (k + 1)) * 48271) (show (0 : Int) < 2147483647 by decide)
  refine ⟨_, rfl, _, rfl, _, _, rfl, rfl, .inl ⟨by omega, by omega⟩, _, _, rfl, rfl, (by show (0 : Int) < 2147483629; decide), ?_⟩
  refine ⟨_, rfl, _, rfl, d, _, 2, _, rfl, rfl, SqL.of hd1, rfl, _, _, rfl, rfl, .inl ⟨by decide, by decide⟩, _, _, rfl, rfl, _, _, rfl, rfl, .inr ⟨by decide, by decide⟩, _, _, rfl, rfl, (by show (0 : Int) < 2147483587; decide), ?_⟩
  exact ⟨_, rfl, _, _, rfl, rfl, ⟨by decide, by decide⟩, _, rfl, _, _, rfl, rfl, m0, q _ _ (Int.emod_nonneg _ (by omega)) (Int.emod_lt_of_pos _ m0) ⟨_, _, _, hd1⟩ o1⟩
theorem scNuT : FnScope ["store", "many", "low", "wide"] ["store"] (defScope sNuT) := ⟨rfl, rfl, rfl, by decide +kernel, rfl, by decide +kernel, by decide +kernel⟩
theorem ok_nuT (F : Fun K "_law_numbers" "_law_numbers" sNuT f fd) (B : Bt3 mg) (zset : mg "set" = none)
  (GT : FnOk P w K mg base CX0 1 tk tkd ["store", "many"] spTkT) (bT : Binds K tkd ["store", "many"] []) (kT : Kee K tk) (mT : mg "_law_take" = some (.ref tk)) : FnOk P w K mg base CX0 2 f fd ["store"] spNuT := by
 refine F.ok scNuT (fun vs H Q E h => ?_) (fun cdv A outer s H vs Q E hr h => ?_)
 ·obtain ⟨d, rfl, _⟩ := h
  rfl
 obtain ⟨d, rfl, S0, q⟩ := h
 refine ⟨_, (@pss_cons _ _ _ _ _ (ps_set (i := 1) scNuT.nd rfl (Or.inl rfl) (pe_ix ix_list (pe_lst (pa_cons (pe_op op_add pe_int (pe_call GT hr rfl mT kT bT .nil pass0 (pa_cons (pv 0) (pa_cons pe_int pa_nil)))) (pa_cons (pe_op op_add pe_int (pe_call GT hr rfl mT kT bT .nil pass0 (pa_cons (pv 0) (pa_cons pe_int pa_nil)))) (pa_cons (pe_op op_add pe_int (pe_call GT hr rfl mT kT bT .nil pass0 (pa_cons (pv 0) (pa_cons pe_int pa_nil)))) (pa_cons pe_int pa_nil))))) (pe_call GT hr rfl mT kT bT .nil pass0 (pa_cons (pv 0) (pa_cons pe_int pa_nil))) (fun _ _ => rfl))) (@pss_cons _ _ _ _ _ (ps_set (i := 2) scNuT.nd rfl (Or.inr rfl) (pe_ix ix_list (pe_lst (pa_cons (pe_call GT hr rfl mT kT bT .nil pass0 (pa_cons (pv 0) (pa_cons pe_int pa_nil))) (pa_cons (pe_call GT hr rfl mT kT bT .nil pass0 (pa_cons (pv 0) (pa_cons pe_int pa_nil))) (pa_cons (pe_call GT hr rfl mT kT bT .nil pass0 (pa_cons (pv 0) (pa_cons (pe_op op_pow pe_int pe_int) pa_nil))) pa_nil)))) (pe_call GT hr rfl mT kT bT .nil pass0 (pa_cons (pv 0) (pa_cons pe_int pa_nil))) (fun _ _ => rfl))) (@pss_cons _ _ _ _ _ (ps_set (i := 3) scNuT.nd rfl (Or.inr rfl) (pe_ix ix_list (pe_lst (pa_cons (pv 1) (pa_cons (pv 1) (pa_cons pe_int (pa_cons pe_int (pa_cons (pe_op op_pow pe_int pe_int) pa_nil)))))) (pe_call GT hr rfl mT kT bT .nil pass0 (pa_cons (pv 0) (pa_cons pe_int pa_nil))) (fun _ _ => rfl))) (@pss_cons _ _ _ _ _ (ps_if (pt_cmpR op_eq (pv 3) (pv 1) (nomark _)) (@pss_one _ _ _ (ps_ret (pe_comp ["k"] rfl (blk_ok (defScope sNuT) ["store", "many", "low", "wide"] rfl rfl (by decide +kernel)) (pi_range1 rfl B.range (pa_cons (pv 1) pa_nil)) (fun pins C fp s3 H3 => ⟨(pg_name (i := 0) (show (blkN ["k"] ["store", "many", "low", "wide"]).Nodup by decide +kernel) rfl (Or.inl rfl)), pif_nil, (pe_op op_add (pv 3) (pv 0))⟩)))) pss_nil) (@pss_one _ _ _ (ps_ret (pe_sortSet rfl rfl B.sorted rfl zset (pe_comp ["k"] rfl (blk_ok (defScope sNuT) ["store", "many", "low", "wide"] rfl rfl (by decide +kernel)) (pi_range1 rfl B.range (pa_cons (pv 1) pa_nil)) (fun pins C fp s3 H3 => ⟨(pg_name (i := 0) (show (blkN ["k"] ["store", "many", "low", "wide"]).Nodup by decide +kernel) rfl (Or.inl rfl)), pif_nil, (pe_op op_add (pv 3) (pe_call GT hr rfl mT kT bT .nil pass0 (pa_cons (pv 1) (pa_cons (pv 4) pa_nil))))⟩))))))))), ?_⟩
 refine ⟨_, rfl, d, 3, rfl, S0, by decide, by decide, fun r1 H1 a1 b1 S1 o1 => ⟨_, _, rfl, rfl, ?_⟩⟩
 refine ⟨_, rfl, d, 4, rfl, S1, by decide, by decide, fun r2 H2 a2 b2 S2 o2 => ⟨_, _, rfl, rfl, ?_⟩⟩
 refine ⟨_, rfl, d, 4, rfl, S2, by decide, by decide, fun r3 H3 a3 b3 S3 o3 => ⟨_, _, rfl, rfl, (by show 4 ≤ sizeLine; decide), fun l4 hl4 => ?_⟩⟩
 refine ⟨_, rfl, d, 4, rfl, S3.ex (Same.new hl4 _), by decide, by decide, fun r4 H4 a4 b4 S4 o4 => ?_⟩
 obtain ⟨many, hmany, mmany⟩ := pick_int [1 + r1, 3 + r2, 5 + r3, 10] a4 b4
 refine ⟨l4, _, _, _, rfl, rfl, SqL.of ((o4 l4 (S3.out hl4)).trans upd_same), hmany, ?_⟩
 have mb : 1 ≤ many ∧ many ≤ 10 := by
  simp only [List.mem_cons, List.not_mem_nil, or_false] at mmany
  omega
 have E4 : Ex (· = d) H H4 := o1.ex.trans (o2.ex.trans (o3.ex.trans ((Ex.new _ hl4).trans o4.ex)))
 clear o1 o2 o3 o4 hl4 hmany mmany S0 S1 S2 S3 a1 b1 a2 b2 a3 b3 a4 b4
 refine ⟨_, rfl, d, 3, rfl, S4, by decide, by decide, fun r1 H1 a1 b1 S1 o1 => ?_⟩
 refine ⟨_, rfl, d, 3, rfl, S1, by decide, by decide, fun r2 H2 a2 b2 S2 o2 => ?_⟩
 refine ⟨_, rfl, _, _, rfl, rfl, ⟨by decide, by decide, by decide⟩, d, _, rfl, S2, by decide, by decide, fun r3 H3 a3 b3 S3 o3 => ⟨(by show 3 ≤ sizeLine; decide), fun l5 hl5 => ?_⟩⟩
 refine ⟨_, rfl, d, 3, rfl, S3.ex (Same.new hl5 _), by decide, by decide, fun r5 H5 a5 b5 S5 o5 => ?_⟩
 obtain ⟨low, hlow, mlow⟩ := pick_int [r1, r2, r3] a5 b5
 refine ⟨l5, _, _, _, rfl, rfl, SqL.of ((o5 l5 (S3.out hl5)).trans upd_same), hlow, ?_⟩
 have b3' : r3 < 10000000000000000000000000 := b3
 have lb : 0 ≤ low ∧ low < 10000000000000000000000000 := by
  simp only [List.mem_cons, List.not_mem_nil, or_false] at mlow
  omega
 have E5 : Ex (· = d) H H5 := E4.trans (o1.ex.trans (o2.ex.trans (o3.ex.trans ((Ex.new _ hl5).trans o5.ex))))
 clear o1 o2 o3 o5 hl5 hlow mlow S1 S2 S3 a1 b1 a2 b2 a3 b3 a5 b5 b3' E4 S4
 refine ⟨_, rfl, _, rfl, _, _, rfl, rfl, ⟨by decide, by decide, by decide⟩, (by show 5 ≤ sizeLine; decide), fun l6 hl6 => ?_⟩
 refine ⟨_, rfl, d, 5, rfl, S5.ex (Same.new hl6 _), by decide, by decide, fun r6 H6 a6 b6 S6 o6 => ?_⟩
 obtain ⟨wide, hwide, mwide⟩ := pick_int [many, many, 12, 40, 10 ^ (25 : Int).toNat] a6 b6
 refine ⟨l6, _, _, _, rfl, rfl, SqL.of ((o6 l6 (S5.out hl6)).trans upd_same), hwide, ?_⟩
 have wb : 1 ≤ wide ∧ wide ≤ 10000000000000000000000000 := by
  have e : (10 : Int) ^ (25 : Int).toNat = 10000000000000000000000000 := by decide
  rw [e] at mwide
  simp only [List.mem_cons, List.not_mem_nil, or_false] at mwide
  omega
 have E6 : Ex (· = d) H H6 := E5.trans ((Ex.new _ hl6).trans o6.ex)
 clear o6 hl6 hwide mwide a6 b6 E5 S5
 refine ⟨_, rfl, _, rfl, rfl, _, rfl, ite2 (fun _ => ?_) (fun _ => ?_)⟩
 ·refine ⟨_, rfl, many, rfl, by omega, by omega, fun D hD => ?_⟩
  refine turns_range (lo := 0) (n := many.toNat) (σ := [some (.ref d), some (.int many), some (.int low), some (.int wide)]) (fun _ => true) (fun k => .int (low + (k : Int))) hD (by omega) (fun i H' hi g => tells_true) (fun i H' hi _ g P hP => ?_) fun H7 g7 e7 => ?_
  ·have e : low + (0 + (i : Int)) = low + (i : Int) := by rw [Int.zero_add]
   rw [← e] at hP
   exact ⟨_, rfl, _, rfl, _, _, rfl, rfl, hP _ Same.rfl'⟩
  refine q D ((List.range many.toNat).map fun k : Nat => low + (k : Int)) H7 (E6.trans (Ex.same g7)) (S6.ex g7) (exT S6 E6 hD) (by rw [e7, fltT, List.map_map]; rfl) (rise_on0 lb.1 _) (by rw [List.length_map, List.length_range]; omega) (by rw [List.length_map, List.length_range]; omega) fun x hx => ?_
  obtain ⟨k, hk, rfl⟩ := List.mem_map.mp hx
  have hk' := List.mem_range.mp hk
  omega
 ·refine ⟨_, rfl, many, rfl, by omega, by omega, fun D hD => ?_⟩
  have oD : D ≠ d := S6.out hD
  refine turns_any (n := many.toNat) (fun i σ' H' => ∃ (y : Option V) (rs : List Int), σ' = y :: [some (.ref d), some (.int many), some (.int low), some (.int wide)] ∧ StT H' d ∧ Ex (fun b => b = d ∨ b = D) H6 H' ∧ H' D = some (.lst (rs.map V.int)) ∧ rs.length = i ∧ ∀ x ∈ rs, 0 ≤ x ∧ x < 3 * 10 ^ 25)
   ⟨none, [], rfl, S6.ex (Same.new hD _), Ex.new _ hD, upd_same, rfl, fun _ h => nomatch h⟩ ?_ ?_
  ·rintro i σ' HE hi ⟨y, rs, rfl, SE, EE, dE, hrs, hb⟩
   refine ⟨hi, fun x' H' yl => ?_⟩
   obtain ⟨rfl, rfl⟩ := yl
   refine comp_true ?_
   refine ⟨_, rfl, _, rfl, _, rfl, d, wide, rfl, SE, by omega, by omega, fun r HF r0 r1 SF oF => ⟨_, _, rfl, rfl, rs.map V.int, (oF D oD).trans dE, by rw [List.length_map, hrs]; exact small1000 (by omega), ?_⟩⟩
   refine ⟨_, rs ++ [low + r], rfl, SF.off oD, EE.trans ((oF.ex.wide fun b h => .inl h).trans (Ex.put _ (.inr rfl))), by rw [upd_same, List.map_append]; rfl, by rw [List.length_append, hrs]; rfl, fun x hx => ?_⟩
   rcases List.mem_append.mp hx with z | z
   ·exact hb x z
   ·rw [List.mem_singleton.mp z]
    omega
  ·rintro σ' H7 ⟨y, rs, rfl, S7, E7, e7, hrs, hb⟩
   refine ⟨Nat.le_refl _, ?_⟩
   refine ⟨D, rs, rfl, SqL.of e7, by omega, fun l ys hl up m => ?_⟩
   have g8 := Same.new hl (.lst (ys.map V.int))
   have E67 : Ex (· = d) H H7 := fun c o hc ho => E7 c o (fun z => z.elim hc fun z => by
    have := E6 c o hc ho
    rw [z, hD] at this
    cases this) (E6 c o hc ho)
   have len := set_len up m
   have ne : 1 ≤ ys.length := by
    match rs, hrs, m with
    | [], h, _ => have : 0 = many.toNat := h; omega
    | x :: r, _, m =>
     have := (m x).mpr List.mem_cons_self
     exact List.length_pos_of_mem this
   exact q l ys _ (E67.trans (Ex.same g8)) (S7.ex g8) (exT S7 E67 hl) upd_same ⟨up, fun x hx => (hb x ((m x).mp hx)).1⟩ ne (by omega) fun x hx => (hb x ((m x).mp hx)).2
end
abbrev sPlT : Stmt := top 47
def spPlT : Sp := fun vs H Q _ => ∃ d : Addr, vs = [.ref d] ∧ StT H d ∧
 ∀ (t a b : Addr) (ns ss : List Int) (H' : Hp), StT H' d → Ex (· = d) H H' → H t = none → H a = none → H b = none → a ≠ b → H' t = some (.tup [.ref a, .ref b]) → H' a = some (.lst (ns.map V.int)) → H' b = some (.lst (ss.map V.int)) → PlanOk ns ss → (∀ x ∈ ns, x < 3 * 10 ^ 25) → (∀ x ∈ ss, x < 7 * 10 ^ 25) → Q (.ref t) H'
def triN : Nat → Nat
 | 0 => 0
 | i + 1 => triN i + (9 - i)
theorem triN_le : ∀ i < 11, triN i ≤ 45 := by decide +kernel
theorem last_inT {R : List Int} (h : 1 ≤ R.length) : ∃ x, atI (R.map V.int) (-1) = some (.int x) ∧ x ∈ R := by
 have h' : R ≠ [] := fun z => by rw [z] at h; exact absurd h (by decide)
 refine ⟨R.getLast h', ?_, List.getLast_mem h'⟩
 have e : R = R.dropLast ++ [R.getLast h'] := (List.dropLast_concat_getLast h').symm
 have e2 : R.map V.int = R.dropLast.map V.int ++ [.int (R.getLast h')] := by
  conv => lhs; rw [e]
  rw [List.map_append]
  rfl
 rw [e2]
 exact atI_last _ _
theorem cut_from (ns : List Int) (i : Nat) : cutV (ns.map V.int) (some ((i : Int) + 1)) none = (ns.drop (i + 1)).map V.int := by
 unfold cutV
 have h1 : HT.sIx (ns.map V.int).length 0 (some ((i : Int) + 1)) = min (i + 1) ns.length := by
  have h3 := HT.sIx_nat (ns.map V.int).length 0 (i + 1)
  rw [List.length_map] at h3 ⊢
  exact h3
 have h2 : HT.sIx (ns.map V.int).length (ns.map V.int).length none = ns.length := by
  show (ns.map V.int).length = _
  rw [List.length_map]
 rw [h1, h2, List.map_drop]
 rcases Nat.le_total (i + 1) ns.length with z | z
 ·rw [Nat.min_eq_left z, List.take_of_length_le (by rw [List.length_drop, List.length_map]; exact Nat.le_refl _)]
 ·rw [Nat.min_eq_right z, List.drop_of_length_le (by rw [List.length_map]; exact Nat.le_refl _), List.drop_of_length_le (by rw [List.length_map]; exact z), List.take_nil]
section
variable {f tk nu : Addr} {fd tkd nud : FuncData}
theorem scPlT : FnScope ["store", "numbers", "pairs", "k", "one", "left", "sums"] ["store"] (defScope sPlT) := ⟨rfl, rfl, rfl, by decide +kernel, rfl, by decide +kernel, by decide +kernel⟩
theorem ok_plT (F : Fun K "_law_plan" "_law_plan" sPlT f fd) (B : Bt3 mg) (zset : mg "set" = none)
  (GT : FnOk P w K mg base CX0 2 tk tkd ["store", "many"] spTkT) (bT : Binds K tkd ["store", "many"] []) (kT : Kee K tk) (mT : mg "_law_take" = some (.ref tk))
  (GN : FnOk P w K mg base CX0 2 nu nud ["store"] spNuT) (bN : Binds K nud ["store"] []) (kN : Kee K nu) (mN : mg "_law_numbers" = some (.ref nu)) : FnOk P w K mg base CX0 3 f fd ["store"] spPlT := by
 refine F.ok scPlT (fun vs H Q E h => ?_) (fun cdv A outer s H vs Q E hr h => ?_)
 ·obtain ⟨d, rfl, _⟩ := h
  rfl
 obtain ⟨d, rfl, S0, q⟩ := h
 refine ⟨_, (@pss_cons _ _ _ _ _ (ps_set (i := 1) scPlT.nd rfl (Or.inl rfl) (pe_call GN hr rfl mN kN bN .nil pass0 (pa_cons (pv 0) pa_nil))) (@pss_cons _ _ _ _ _ (ps_set (i := 2) scPlT.nd rfl (Or.inl rfl) (pe_lst pa_nil)) (@pss_cons _ _ _ _ _ (ps_for PassesOwn.never rfl (pi_enum rfl B.enumerate (pa_cons (pv 1) pa_nil)) (pg_tup rfl (pgs_cons (pg_name (i := 3) scPlT.nd rfl (Or.inl rfl)) (pgs_cons (pg_name (i := 4) scPlT.nd rfl (Or.inr rfl)) pgs_nil))) (@pss_one _ _ _ (ps_expr (pe_bm PySem.F.plainAttrs_list PySem.F.slot_list_extend PySem.F.type_list_extend mt_extend (pv 2) (pa_cons (pe_comp ["other"] rfl (blk_ok (defScope sPlT) ["store", "numbers", "pairs", "k", "one", "left", "sums"] rfl rfl (by decide +kernel)) (pi_list (pe_slice sl_list (pv 1) (po_some (pe_op op_add (pv 3) pe_int)) po_none)) (fun pins C fp s3 H3 => ⟨(pg_name (i := 0) (show (blkN ["other"] ["store", "numbers", "pairs", "k", "one", "left", "sums"]).Nodup by decide +kernel) rfl (Or.inl rfl)), pif_nil, (pe_op op_add (pv 5) (pv 0))⟩)) pa_nil))))) (@pss_cons _ _ _ _ _ (ps_set (i := 5) scPlT.nd rfl (Or.inl rfl) (pe_sortSet rfl rfl B.sorted rfl zset (pv 2))) (@pss_cons _ _ _ _ _ (ps_set (i := 6) scPlT.nd rfl (Or.inl rfl) (pe_lst pa_nil)) (@pss_cons _ _ _ _ _ (ps_for PassesOwn.never rfl (pi_range1 rfl B.range (pa_cons (pe_ix ix_list (pe_lst (pa_cons (pe_call GT hr rfl mT kT bT .nil pass0 (pa_cons (pv 0) (pa_cons pe_int pa_nil))) (pa_cons (pe_call GT hr rfl mT kT bT .nil pass0 (pa_cons (pv 0) (pa_cons pe_int pa_nil))) (pa_cons (pe_call GT hr rfl mT kT bT .nil pass0 (pa_cons (pv 0) (pa_cons pe_int pa_nil))) (pa_cons pe_int pa_nil))))) (pe_call GT hr rfl mT kT bT .nil pass0 (pa_cons (pv 0) (pa_cons pe_int pa_nil))) (fun _ _ => rfl)) pa_nil)) (pg_name (i := 3) scPlT.nd rfl (Or.inl rfl)) (@pss_one _ _ _ (ps_if (PW.pt (pw_and (pt_cmpR (op_neD hr.units) (pv 5) (pe_lst pa_nil) (nomark _)) (pw_and1 (pt_cmpR op_gt (pe_call GT hr rfl mT kT bT .nil pass0 (pa_cons (pv 0) (pa_cons pe_int pa_nil))) pe_int (nomark _))))) (@pss_one _ _ _ (ps_expr (pe_bm PySem.F.plainAttrs_list PySem.F.slot_list_append PySem.F.type_list_append mt_append (pv 6) (pa_cons (pe_bm PySem.F.plainAttrs_list PySem.F.slot_list_pop PySem.F.type_list_pop mt_popAt (pv 5) (pa_cons (pe_call GT hr rfl mT kT bT .nil pass0 (pa_cons (pv 0) (pa_cons (pe_callB call_len_seq rfl B.len PySem.boot_len (pa_cons (pv 5) pa_nil)) pa_nil))) pa_nil)) pa_nil)))) (@pss_one _ _ _ (ps_expr (pe_bm PySem.F.plainAttrs_list PySem.F.slot_list_append PySem.F.type_list_append mt_append (pv 6) (pa_cons (pe_call GT hr rfl mT kT bT .nil pass0 (pa_cons (pv 0) (pa_cons (pe_ix ix_list (pe_lst (pa_cons pe_int (pa_cons (pe_op op_add (pe_op op_mul pe_int (pe_ix ix_list (pv 1) (pe_un un_neg pe_int) (fun _ _ => rfl))) pe_int) pa_nil))) (pe_call GT hr rfl mT kT bT .nil pass0 (pa_cons (pv 0) (pa_cons pe_int pa_nil))) (fun _ _ => rfl)) pa_nil))) pa_nil))))))) (@pss_one _ _ _ (ps_ret (pe_tup (pa_cons (pv 1) (pa_cons (pe_sortSet rfl rfl B.sorted rfl zset (pv 6)) pa_nil))))))))))), ?_⟩
 refine ⟨_, rfl, d, rfl, S0, fun a ns H1 E1 S1 na ea rise n1 n10 nb => ?_⟩
 have ad : a ≠ d := S0.out na
 have nml : (ns.map V.int).length = ns.length := List.length_map _
 refine ⟨(by show 0 ≤ sizeLine; decide), fun pr hpr => ?_⟩
 have g2 : Same H1 (upd H1 pr (.lst [])) := Same.new hpr _
 have e2 : upd H1 pr (.lst []) pr = some (.lst (([] : List Int).map V.int)) := upd_same
 have apr : a ≠ pr := ne_of_none ea hpr
 have ea2 := g2 _ _ ea
 have prd : pr ≠ d := S1.out hpr
 have S2 := S1.ex g2
 generalize upd H1 pr (.lst []) = H2 at g2 e2 ea2 S2 ⊢
 refine ⟨_, rfl, a, _, rfl, ea2, ?_⟩
 refine for_enum (xs := ns.map V.int) (fun i σ H' => ∃ (x3 x4 : Option V) (ps : List Int), σ = [some (.ref d), some (.ref a), some (.ref pr), x3, x4, none, none] ∧ Ex (· = pr) H2 H' ∧ H' pr = some (.lst (ps.map V.int)) ∧ ps.length ≤ triN i ∧ ∀ x ∈ ps, 0 ≤ x ∧ x < 7 * 10 ^ 25)
  ⟨none, none, [], rfl, Ex.refl, e2, Nat.le_refl _, fun _ h => nomatch h⟩ (fun i σ H' _ ⟨_, _, _, _, ex, _⟩ => ex _ _ apr ea2) ?_ ?_
 ·rintro i x σ H3 T hx ⟨x3, x4, ps, rfl, ex, ep, hl, hn⟩ hT
  have hi : i < ns.length := by rw [← nml]; exact (List.getElem?_eq_some_iff.mp hx).1
  rw [List.getElem?_map, List.getElem?_eq_getElem hi] at hx
  cases hx
  have gT : Same H3 (upd H3 T (.tup [.int (i : Int), .int ns[i]])) := Same.new hT _
  have exT' := ex.trans (Ex.same gT)
  have epT := gT _ _ ep
  have eT : (upd H3 T (.tup [.int (i : Int), .int ns[i]])) T = some (.tup [.int (i : Int), .int ns[i]]) := upd_same
  generalize upd H3 T (.tup [.int (i : Int), .int ns[i]]) = H4 at exT' epT eT ⊢
  have ea4 := exT' _ _ apr ea2
  refine ⟨T, _, rfl, SqT.of eT, rfl, _, _, rfl, _, _, rfl, rfl, ?_⟩
  refine ⟨_, rfl, .inl ⟨rfl, _, SqL.of epT⟩, _, rfl, _, rfl, _, _, rfl, rfl, _, rfl, a, _, rfl, SqL.of ea4, fun c hc => ?_⟩
  rw [cut_from ns i]
  have g5 := Same.new hc (.lst ((ns.drop (i + 1)).map V.int))
  have ec5 : upd H4 c (.lst ((ns.drop (i + 1)).map V.int)) c = some (.lst ((ns.drop (i + 1)).map V.int)) := upd_same
  have dml : ((ns.drop (i + 1)).map V.int).length = (ns.drop (i + 1)).length := List.length_map _
  have dl : (ns.drop (i + 1)).length ≤ 9 - i := by rw [List.length_drop]; omega
  have dn : ∀ x ∈ ns.drop (i + 1), 0 ≤ x ∧ x < 3 * 10 ^ 25 := fun x hx => ⟨rise.bd x (List.mem_of_mem_drop hx), nb x (List.mem_of_mem_drop hx)⟩
  generalize upd H4 c (.lst ((ns.drop (i + 1)).map V.int)) = H5 at g5 ec5 ⊢
  generalize ns.drop (i + 1) = ds at ec5 dml dl dn ⊢
  refine ⟨c, rfl, ⟨_, SqL.of ec5⟩, fun D hD => ?_⟩
  have tri := triN_le i (by omega)
  refine turns_list (σ := [some (.ref d), some (.ref a), some (.ref pr), some (.int (i : Int)), some (.int ns[i]), none, none]) (xs := ds.map V.int) (fun _ => true) (fun j => .int (ns[i] + ds.getD j 0)) (SqL.of ec5) hD (by omega) (fun i H' hi g => tells_true) (fun j H' hj _ g P hP => ?_) fun H6 g6 e6 => ?_
  ·rw [getD_map_int _ (by rw [dml] at hj; exact hj)]
   exact ⟨_, rfl, _, rfl, _, _, rfl, rfl, hP _ Same.rfl'⟩
  have em : ((List.range ds.length).filter fun _ => true).map (fun j => V.int (ns[i] + ds.getD j 0)) = (ds.map fun y => ns[i] + y).map V.int := by
   have e := range_getD_filter (fun _ => true) (0 : Int) ds
   rw [List.filter_eq_self.mpr (fun _ _ => rfl)] at e ⊢
   rw [List.filter_eq_self.mpr (fun _ _ => rfl)] at e
   conv => rhs; rw [← e]
   rw [List.map_map, List.map_map]
   rfl
  rw [dml, em] at e6
  have g46 := g5.trans g6
  have ep6 := g46 _ _ epT
  refine ⟨pr, D, _, _, rfl, rfl, ep6, e6, by rw [List.length_map, List.length_map, List.length_map]; exact Nat.le_trans (by omega : _ ≤ 1000) (by decide), ?_⟩
  refine ⟨_, _, ps ++ ds.map (fun y => ns[i] + y), rfl, exT'.trans ((Ex.same g46).trans (Ex.put _ rfl)), by rw [upd_same, List.map_append], ?_, fun x hx => ?_⟩
  ·rw [List.length_append, List.length_map]
   show _ ≤ triN i + (9 - i)
   omega
  ·rcases List.mem_append.mp hx with z | z
   ·exact hn x z
   ·obtain ⟨y, hy, rfl⟩ := List.mem_map.mp z
    have h1 := rise.bd ns[i] (List.getElem_mem hi)
    have h2 := dn y hy
    have h3 := nb ns[i] (List.getElem_mem hi)
    omega
 rintro σ H3 ⟨x3, x4, ps, rfl, ex3, ep3, hl3, hn3⟩
 rw [nml] at hl3
 have tri := triN_le ns.length (by omega)
 have E3 : Ex (· = d) H H3 := fun c o hc ho => by
  have h1 := E1 c o hc ho
  exact ex3 c o (fun z => by rw [z, hpr] at h1; cases h1) (g2 _ _ h1)
 have ea3 := ex3 _ _ apr ea2
 have S3 : StT H3 d := by
  obtain ⟨x, y, z, e⟩ := S2
  exact ⟨x, y, z, ex3 _ _ (Ne.symm prd) e⟩
 refine ⟨_, rfl, pr, ps, rfl, SqL.of ep3, by omega, fun lf ls hlf up m => ?_⟩
 have lfd : lf ≠ d := S3.out hlf
 have alf : a ≠ lf := ne_of_none ea3 hlf
 have g4 := Same.new hlf (.lst (ls.map V.int))
 have el4 : upd H3 lf (.lst (ls.map V.int)) lf = some (.lst (ls.map V.int)) := upd_same
 have hlH : H lf = none := exT S3 E3 hlf
 have E4 := E3.trans (Ex.same (S := (· = d)) g4)
 have S4 := S3.ex g4
 have ea4 := g4 _ _ ea3
 have lsn : ∀ x ∈ ls, 0 ≤ x ∧ x < 7 * 10 ^ 25 := fun x hx => hn3 x ((m x).mp hx)
 have lsl : ls.length ≤ 100 := Nat.le_trans (set_len up m) (by omega)
 generalize upd H3 lf (.lst (ls.map V.int)) = H4 at g4 el4 E4 S4 ea4 ⊢
 clear ex3 ep3 hl3 hn3 tri E3 S3 ea3 g2 e2 ea2 S2 up m g4 hlf
 refine ⟨(by show 0 ≤ sizeLine; decide), fun su hsu => ?_⟩
 have g5 : Same H4 (upd H4 su (.lst [])) := Same.new hsu _
 have e5 : upd H4 su (.lst []) su = some (.lst (([] : List Int).map V.int)) := upd_same
 have sud : su ≠ d := S4.out hsu
 have asu : a ≠ su := ne_of_none ea4 hsu
 have lsu : lf ≠ su := ne_of_none el4 hsu
 have hsH : H su = none := exT S4 E4 hsu
 have S5 := S4.ex g5
 have ea5 := g5 _ _ ea4
 have el5 := g5 _ _ el4
 have E5 := E4.trans (Ex.same (S := (· = d)) g5)
 generalize upd H4 su (.lst []) = H5 at g5 e5 S5 ea5 el5 E5 ⊢
 clear g5 S4 ea4 el4 E4 hsu
 refine ⟨_, rfl, d, 4, rfl, S5, by decide, by decide, fun r1 H6 a1 b1 S6 o6 => ?_⟩
 refine ⟨_, rfl, d, 8, rfl, S6, by decide, by decide, fun r2 H7 a2 b2 S7 o7 => ?_⟩
 refine ⟨_, rfl, d, 11, rfl, S7, by decide, by decide, fun r3 H8 a3 b3 S8 o8 => ⟨(by show 4 ≤ sizeLine; decide), fun l hl => ?_⟩⟩
 refine ⟨_, rfl, d, 4, rfl, S8.ex (Same.new hl _), by decide, by decide, fun r4 H9 a4 b4 S9 o9 => ?_⟩
 obtain ⟨cv, hcv, mcv⟩ := pick_int [r1, r2, r3, 10] a4 b4
 have cb : 0 ≤ cv ∧ cv ≤ 10 := by
  simp only [List.mem_cons, List.not_mem_nil, or_false] at mcv
  omega
 refine ⟨l, _, _, .int cv, rfl, rfl, SqL.of ((o9 l (S8.out hl)).trans upd_same), hcv, _, rfl, by omega, by omega, ?_⟩
 have E59 : Ex (· = d) H5 H9 := o6.ex.trans (o7.ex.trans (o8.ex.trans ((Ex.new _ hl).trans o9.ex)))
 have ea9 := E59 _ _ ad ea5
 have el9 := E59 _ _ lfd el5
 have es9 := E59 _ _ sud e5
 have E9 := E5.trans E59
 clear o6 o7 o8 o9 hl hcv mcv S6 S7 S8 a1 b1 a2 b2 a3 b3 a4 b4 E59 ea5 el5 e5 E5 S5
 obtain ⟨v, hv, mv⟩ := last_inT n1
 have v0 := rise.bd v mv
 have v1 := nb v mv
 refine for_range (lo := 0) (n := cv.toNat) (fun i σ H' => ∃ (x3 x4 : Option V) (ls ss : List Int), σ = [some (.ref d), some (.ref a), some (.ref pr), x3, x4, some (.ref lf), some (.ref su)] ∧ StT H' d ∧ Ex (fun b => b = d ∨ b = lf ∨ b = su) H9 H' ∧ H' lf = some (.lst (ls.map V.int)) ∧ H' su = some (.lst (ss.map V.int)) ∧ ls.length ≤ 100 ∧ ss.length = i ∧ (∀ x ∈ ls, 0 ≤ x ∧ x < 7 * 10 ^ 25) ∧ ∀ x ∈ ss, 0 ≤ x ∧ x < 7 * 10 ^ 25)
  ⟨_, _, ls, [], rfl, S9, Ex.refl, el9, es9, lsl, rfl, lsn, fun _ h => nomatch h⟩ ?_ ?_
 ·rintro i σ HA hi ⟨x3, x4, ls, ss, rfl, SA, EA, elA, esA, hl, hs, ln, sn⟩
  have lml : (ls.map V.int).length = ls.length := List.length_map _
  have sml : (ss.map V.int).length = ss.length := List.length_map _
  have ss10 : ss.length < 10 := by omega
  have eaA := EA _ _ (fun z => z.elim ad fun z => z.elim alf asu) ea9
  have put : ∀ (x : Int) (ls' : List Int) (HZ : Hp), 0 ≤ x ∧ x < 7 * 10 ^ 25 → StT HZ d → Ex (fun b => b = d ∨ b = lf ∨ b = su) H9 HZ → HZ lf = some (.lst (ls'.map V.int)) → HZ su = some (.lst (ss.map V.int)) → ls'.length ≤ 100 → (∀ x ∈ ls', 0 ≤ x ∧ x < 7 * 10 ^ 25) →
    ∃ (y3 y4 : Option V) (ls ss' : List Int), [some (V.ref d), some (.ref a), some (.ref pr), some (.int (0 + (i : Int))), x4, some (.ref lf), some (.ref su)] = [some (V.ref d), some (.ref a), some (.ref pr), y3, y4, some (.ref lf), some (.ref su)] ∧ StT (upd HZ su (.lst (ss.map V.int ++ [.int x]))) d ∧ Ex (fun b => b = d ∨ b = lf ∨ b = su) H9 (upd HZ su (.lst (ss.map V.int ++ [.int x]))) ∧
     (upd HZ su (.lst (ss.map V.int ++ [.int x]))) lf = some (.lst (ls.map V.int)) ∧ (upd HZ su (.lst (ss.map V.int ++ [.int x]))) su = some (.lst (ss'.map V.int)) ∧ ls.length ≤ 100 ∧ ss'.length = i + 1 ∧ (∀ x ∈ ls, 0 ≤ x ∧ x < 7 * 10 ^ 25) ∧ ∀ x ∈ ss', 0 ≤ x ∧ x < 7 * 10 ^ 25 :=
   fun x ls' HZ h1 h2 h3 h4 h5 h6 h7 => ⟨_, _, ls', ss ++ [x], rfl, h2.off sud, h3.trans (Ex.put _ (.inr (.inr rfl))), by rw [upd_ne lsu]; exact h4, by rw [upd_same, List.map_append]; rfl, h6, by rw [List.length_append, hs]; rfl, h7, fun y hy => by
    rcases List.mem_append.mp hy with z | z
    ·exact sn y z
    ·rw [List.mem_singleton.mp z]; exact h1⟩
  refine ⟨_, rfl, (by show 0 ≤ sizeLine; decide), fun e0 he0 => ?_⟩
  have gB := Same.new he0 (.lst [])
  have eB : upd HA e0 (.lst []) e0 = some (.lst (([] : List Int).map V.int)) := upd_same
  have SB := SA.ex gB
  have EB : Ex (fun b => b = d ∨ b = lf ∨ b = su) H9 (upd HA e0 (.lst [])) := EA.trans (Ex.same gB)
  have elB := gB _ _ elA
  have esB := gB _ _ esA
  have eaB := gB _ _ eaA
  generalize upd HA e0 (.lst []) = HB at gB eB SB EB elB esB eaB ⊢
  clear gB SA EA elA esA eaA he0
  refine ⟨ls == [], rcv_ints (SqL.of elB) (SqL.of eB), _, rfl, ite2 (fun c => ?_) (fun c => ?_)⟩
  ·have lne : 1 ≤ ls.length := by
    cases ls with
    | nil => exact absurd c (by decide)
    | cons x r => exact Nat.succ_le_succ (Nat.zero_le _)
   refine ⟨_, rfl, d, 8, rfl, SB, by decide, by decide, fun r HC _ _ SC oC => ⟨_, _, rfl, rfl, _, rfl, ite2 (fun _ => ?_) (fun _ => ?_)⟩⟩
   ·have elC := (oC lf lfd).trans elB
    have esC := (oC su sud).trans esB
    refine ⟨_, rfl, .inl ⟨rfl, _, SqL.of esC⟩, _, rfl, .inl ⟨rfl, _, SqL.of elC⟩, _, rfl, _, rfl, lf, _, rfl, .inl (SqL.of elC), d, _, rfl, SC, by rw [lml]; omega, by rw [lml]; omega, fun r2 HD r20 r21 SD oD => ?_⟩
    rw [lml] at r21
    have elD := (oD lf lfd).trans elC
    have esD := (oD su sud).trans esC
    have hrn : r2.toNat < ls.length := by omega
    obtain ⟨wv, hwv⟩ : ∃ wv, wv = ls[r2.toNat] := ⟨_, rfl⟩
    refine ⟨lf, _, r2, r2.toNat, .int wv, rfl, rfl, elD, by omega, by omega, by rw [lml]; exact seqIndex_of r20 (by omega), by rw [List.getElem?_map, List.getElem?_eq_getElem hrn, hwv]; rfl, ?_⟩
    rw [erase_map V.int ls r2.toNat]
    refine ⟨su, _, _, rfl, rfl, by rw [upd_ne (Ne.symm lsu)]; exact esD, by rw [sml]; exact small1000 (by omega), ?_⟩
    refine put wv (ls.eraseIdx r2.toNat) _ (by rw [hwv]; exact ln _ (List.getElem_mem hrn)) (SD.off lfd) ?_ upd_same (by rw [upd_ne (Ne.symm lsu)]; exact esD) (by have := List.length_eraseIdx_le ls r2.toNat; omega) fun x hx => ln x (List.mem_of_mem_eraseIdx hx)
    exact EB.trans ((oC.ex.wide fun b h => .inl h).trans ((oD.ex.wide fun b h => .inl h).trans (Ex.put _ (.inr (.inl rfl)))))
   ·have esC := (oC su sud).trans esB
    have eaC := (oC a ad).trans eaB
    refine ⟨_, rfl, .inl ⟨rfl, _, SqL.of esC⟩, _, rfl, _, rfl, _, rfl, a, _, _, _, rfl, rfl, SqL.of eaC, hv, _, _, rfl, rfl, .inl ⟨by decide, by decide⟩, _, _, rfl, rfl, two_le, fun lq hlq => ?_⟩
    refine ⟨_, rfl, d, 2, rfl, SC.ex (Same.new hlq _), by decide, by decide, fun r3 HD r30 r31 SD oD => ?_⟩
    obtain ⟨mm, hmm, mmm⟩ := pick_int [30, 2 * v + 2] r30 r31
    have mb : 0 < mm ∧ mm < 2 ^ 100 ∧ mm ≤ 7 * 10 ^ 25 := by
     simp only [List.mem_cons, List.not_mem_nil, or_false] at mmm
     omega
    refine ⟨lq, _, _, _, rfl, rfl, SqL.of ((oD lq (SC.out hlq)).trans upd_same), hmm, d, mm, rfl, SD, mb.1, mb.2.1, fun r4 HE r40 r41 SE oE => ?_⟩
    have EC : Ex (· = d) HB HE := oC.ex.trans ((Ex.new _ hlq).trans (oD.ex.trans oE.ex))
    refine ⟨su, _, _, rfl, rfl, EC _ _ sud esB, by rw [sml]; exact small1000 (by omega), ?_⟩
    exact put r4 ls HE ⟨r40, by have := mb.2.2; omega⟩ SE (EB.trans (EC.wide fun b h => .inl h)) (EC _ _ lfd elB) (EC _ _ sud esB) hl ln
  ·refine ⟨_, rfl, .inl ⟨rfl, _, SqL.of esB⟩, _, rfl, _, rfl, _, rfl, a, _, _, _, rfl, rfl, SqL.of eaB, hv, _, _, rfl, rfl, .inl ⟨by decide, by decide⟩, _, _, rfl, rfl, two_le, fun lq hlq => ?_⟩
   refine ⟨_, rfl, d, 2, rfl, SB.ex (Same.new hlq _), by decide, by decide, fun r3 HD r30 r31 SD oD => ?_⟩
   obtain ⟨mm, hmm, mmm⟩ := pick_int [30, 2 * v + 2] r30 r31
   have mb : 0 < mm ∧ mm < 2 ^ 100 ∧ mm ≤ 7 * 10 ^ 25 := by
    simp only [List.mem_cons, List.not_mem_nil, or_false] at mmm
    omega
   refine ⟨lq, _, _, _, rfl, rfl, SqL.of ((oD lq (SB.out hlq)).trans upd_same), hmm, d, mm, rfl, SD, mb.1, mb.2.1, fun r4 HE r40 r41 SE oE => ?_⟩
   have EC : Ex (· = d) HB HE := (Ex.new _ hlq).trans (oD.ex.trans oE.ex)
   refine ⟨su, _, _, rfl, rfl, EC _ _ sud esB, by rw [sml]; exact small1000 (by omega), ?_⟩
   exact put r4 ls HE ⟨r40, by have := mb.2.2; omega⟩ SE (EB.trans (EC.wide fun b h => .inl h)) (EC _ _ lfd elB) (EC _ _ sud esB) hl ln
 ·rintro σ HA ⟨x3, x4, ls, ss, rfl, SA, EA, elA, esA, hl, hs, ln, sn⟩
  have eaA := EA _ _ (fun z => z.elim ad fun z => z.elim alf asu) ea9
  refine ⟨_, rfl, _, rfl, su, ss, rfl, SqL.of esA, by omega, fun b ys hb up m => ⟨two_le, fun t ht => ?_⟩⟩
  have sb := Same.new hb (.lst (ys.map V.int))
  have st := Same.new ht (.tup [.ref a, .ref b])
  have EH : Ex (· = d) H HA := fun c o nc hc => EA c o (fun z => z.elim nc fun z => z.elim (fun z => by rw [z, hlH] at hc; cases hc) fun z => by rw [z, hsH] at hc; cases hc) (E9 c o nc hc)
  have fr : ∀ x, HA x = none → H x = none := fun x hx => exT SA EH hx
  have len := set_len up m
  exact q t a b ns ys _ (SA.ex (sb.trans st)) (EH.trans (Ex.same (sb.trans st))) (fr t (none_of_same sb ht)) na (fr b hb) (ne_of_none eaA hb) upd_same (st _ _ (sb _ _ eaA)) (st _ _ upd_same) ⟨rise, ⟨up, fun x hx => (sn x ((m x).mp hx)).1⟩, n1, n10, by omega⟩ nb fun x hx => (sn x ((m x).mp hx)).2
end
structure BtR (mg : Str → Option Value) : Prop extends Bt2 mg where
 repr : mg "repr" = none
abbrev sWhole : Stmt := top 17
abbrev sRise : Stmt := top 18
abbrev sIsP : Stmt := top 19
structure IsPl (H : Hp) (t a b : Addr) (ns ss : List Int) : Prop where
 t : H t = some (.tup [.ref a, .ref b])
 a : H a = some (.lst (ns.map V.int))
 b : H b = some (.lst (ss.map V.int))
 ok : PlanOk ns ss
theorem IsPl.same {H H' : Hp} {t a b : Addr} {ns ss : List Int} (h : IsPl H t a b ns ss) (g : Same H H') : IsPl H' t a b ns ss := ⟨g _ _ h.t, g _ _ h.a, g _ _ h.b, h.ok⟩
def spWholeD : Sp := fun vs H Q _ => ∃ v d, vs = [v] ∧ Dat H v d ∧ Q (.bl (isW d)) H
def spRiseD : Sp := fun vs H Q _ => ∃ v d few, vs = [v, .int few] ∧ Dat H v d ∧ Q (.bl (riseD few d)) H
def spIsPD : Sp := fun vs H Q _ => ∃ v d, vs = [v] ∧ Dat H v d ∧ Q (.bl (planD d)) H
theorem rise_step {ds : List PyData} {i : Nat} {d : PyData} {b : Int} (e : ds[i]? = some d) : riseGo b (ds.drop i) = riseGo b (d :: ds.drop (i + 1)) := by
 obtain ⟨hi, hv⟩ := List.getElem?_eq_some_iff.mp e
 rw [List.drop_eq_getElem_cons hi, hv]
theorem rise_ints : ∀ {xs : List Int} {b : Int}, xs.Pairwise (· < ·) → (∀ x ∈ xs, b < x) → riseGo b (xs.map PyData.int) = true
 | [], _, _, _ => rfl
 | x :: r, b, h, hb => by
  rw [List.pairwise_cons] at h
  show (decide (b < x) && riseGo x (r.map PyData.int)) = true
  rw [decide_eq_true (hb x List.mem_cons_self), rise_ints h.2 h.1]
  rfl
theorem rise_of {xs : List Int} (h : Rise xs) {few : Int} (l1 : few ≤ (xs.length : Int)) (l2 : xs.length ≤ 10) : riseD few (.list (xs.map PyData.int)) = true := by
 show (decide (few ≤ (((xs.map PyData.int).length : Nat) : Int)) && (decide ((xs.map PyData.int).length ≤ 10) && riseGo (-1) (xs.map PyData.int))) = true
 rw [List.length_map, decide_eq_true l1, decide_eq_true l2, rise_ints h.up fun x hx => by have := h.bd x hx; omega]
 rfl
theorem IsPl.dat {H : Hp} {t a b : Addr} {ns ss : List Int} (h : IsPl H t a b ns ss) : ∃ d, Dat H (.ref t) d ∧ planD d = true := by
 refine ⟨_, .tup h.t (.cons (.lst h.a (DatAll.ints ns)) (.cons (.lst h.b (DatAll.ints ss)) .nil)), ?_⟩
 show (riseD 1 (.list (ns.map PyData.int)) && riseD 0 (.list (ss.map PyData.int))) = true
 have n1 := h.ok.n1
 rw [rise_of h.ok.n (by omega) h.ok.n2, rise_of h.ok.s (by omega) h.ok.s2]
 rfl
section
variable {f wh ri : Addr} {fd whd rid : FuncData} {t10 : Tok}
theorem scWhole : FnScope ["thing"] ["thing"] (defScope sWhole) := ⟨rfl, rfl, rfl, by decide +kernel, rfl, by decide +kernel, by decide +kernel⟩
theorem ok_wholeD (F : Fun K "is_whole" "is_whole" sWhole f fd) (B : Bt2 mg) : FnOk P w K mg base CX0 1 f fd ["thing"] spWholeD := by
 refine F.ok scWhole (fun vs H Q E h => ?_) (fun cdv A outer s H vs Q E hr h => ?_)
 ·obtain ⟨v, d, rfl, _⟩ := h
  rfl
 obtain ⟨v, d, rfl, hd, q⟩ := h
 refine ⟨_, (@pss_one _ _ _ (ps_ret (pe_and (pe_callB (call_isi "int") rfl B.isinstance boot_isinstance (pa_cons (pv 0) (pa_cons (pe_bltn (v := .ty "int") rfl B.int PyProof.Rows.boot_int rfl) pa_nil))) (pe_one (pe_not (pe_callB (call_isi "bool") rfl B.isinstance boot_isinstance (pa_cons (pv 0) (pa_cons (pe_bltn (v := .ty "bool") rfl B.bool PyProof.Rows.boot_bool rfl) pa_nil)))))))), ?_⟩
 refine ⟨_, rfl, _, _, isI d, rfl, hd.ty, kit_i _ d, _, rfl, ite2 (fun c => ?_) (fun c => ?_)⟩
 ·refine ⟨_, rfl, _, _, isB d, rfl, hd.ty, kit_b _ d, _, rfl, ?_⟩
  have e : (!isB d) = isW d := by cases d <;> first | rfl | cases c
  rw [← e] at q
  exact q
 ·have e : isW d = false := by cases d <;> first | rfl | exact absurd rfl c
  rw [e] at q
  exact q
theorem scRise : FnScope ["thing", "fewest", "below", "number"] ["thing", "fewest"] (defScope sRise) := ⟨rfl, rfl, rfl, by decide +kernel, rfl, by decide +kernel, by decide +kernel⟩
theorem ok_riseD (F : Fun K "is_rising_list" "is_rising_list" sRise f fd) (B : Bt2 mg) (m10 : mg "MOST" = some (.int 10 t10))
  (GW : FnOk P w K mg base CX0 1 wh whd ["thing"] spWholeD) (bW : Binds K whd ["thing"] []) (kW : Kee K wh) (mW : mg "is_whole" = some (.ref wh)) : FnOk P w K mg base CX0 2 f fd ["thing", "fewest"] spRiseD := by
 refine F.ok scRise (fun vs H Q E h => ?_) (fun cdv A outer s H vs Q E hr h => ?_)
 ·obtain ⟨v, d, few, rfl, _⟩ := h
  rfl
 obtain ⟨v, d, few, rfl, hd, q⟩ := h
 refine ⟨_, (@pss_cons _ _ _ _ _ (ps_if (PW.pt (pw_or (pt_not (pt_val (pe_callB (call_isi "list") rfl B.isinstance boot_isinstance (pa_cons (pv 0) (pa_cons (pe_bltn (v := .ty "list") rfl B.list PyProof.Rows.boot_list rfl) pa_nil))))) (pw_or1 (pt_not (pt_chain op_le op_le (pv 1) (pe_callB call_len_seq rfl B.len PySem.boot_len (pa_cons (pv 0) pa_nil)) (pe_glob (v := .int 10) rfl m10 ⟨_, rfl⟩)))))) (@pss_one _ _ _ (ps_ret pe_bl)) pss_nil) (@pss_cons _ _ _ _ _ (ps_set (i := 2) scRise.nd rfl (Or.inl rfl) (pe_un un_neg pe_int)) (@pss_cons _ _ _ _ _ (ps_for PassesOwn.never rfl (pi_list (pv 0)) (pg_name (i := 3) scRise.nd rfl (Or.inl rfl)) (@pss_cons _ _ _ _ _ (ps_if (PW.pt (pw_or (pt_not (pt_val (pe_call GW hr rfl mW kW bW .nil pass0 (pa_cons (pv 3) pa_nil)))) (pw_or1 (pt_cmpR op_le (pv 3) (pv 2) (nomark _))))) (@pss_one _ _ _ (ps_ret pe_bl)) pss_nil) (@pss_one _ _ _ (ps_set (i := 2) scRise.nd rfl (Or.inl rfl) (pv 3))))) (@pss_one _ _ _ (ps_ret pe_bl))))), ?_⟩
 refine ⟨_, rfl, _, _, isL d, rfl, hd.ty, kit_l _ d, _, rfl, ite2 (fun c => ?_) (fun c => ?_)⟩
 ·have e : riseD few d = false := by cases d <;> first | rfl | cases c
  rw [e] at q
  exact q
 cases hd with
 | lst ha hx =>
  rename_i a xs ds
  have hl := hx.len
  have eq : riseD few (.list ds) = (decide (few ≤ (ds.length : Int)) && (decide (ds.length ≤ 10) && riseGo (-1) ds)) := rfl
  rw [eq] at q
  refine ⟨_, rfl, _, rfl, a, _, rfl, .inl (SqL.of ha), _, _, rfl, rfl, _, rfl, ite2 (fun c1 => ?_) (fun c1 => ?_)⟩
  ·refine ⟨_, _, rfl, rfl, _, rfl, ite2 (fun c2 => ?_) (fun c2 => ?_)⟩
   ·have e : decide (ds.length ≤ 10) = false := by
     have c3 : (!decide (((xs.length : Nat) : Int) ≤ 10)) = true := c2
     rw [Bool.not_eq_true', decide_eq_false_iff_not] at c3
     exact decide_eq_false (by omega)
    rw [e, Bool.false_and, Bool.and_false] at q
    exact q
   ·have e1 : decide (few ≤ (ds.length : Int)) = true := by rw [← hl]; exact c1
    have e2 : decide (ds.length ≤ 10) = true := by
     have c3 : ¬ (!decide (((xs.length : Nat) : Int) ≤ 10)) = true := c2
     rw [Bool.not_eq_true', decide_eq_false_iff_not] at c3
     exact decide_eq_true (by omega)
    rw [e1, e2, Bool.true_and, Bool.true_and] at q
    refine ⟨_, rfl, _, rfl, a, rfl, ⟨_, SqL.of ha⟩, ?_⟩
    refine for_list (xs := xs) (fun i σ H' => ∃ (bl : Int) (y : Option V), σ = [some (.ref a), some (.int few), some (.int bl), y] ∧ H' = H ∧ riseGo bl (ds.drop i) = riseGo (-1) ds)
     ⟨-1, none, rfl, rfl, rfl⟩ (fun i σ H' _ ⟨_, _, _, e, _⟩ => by rw [e]; exact SqL.of ha) ?_ ?_
    ·rintro i x σ H' hxi ⟨bl, y, rfl, rfl, hb⟩
     obtain ⟨d', ed, hd'⟩ := hx.at hxi
     rw [rise_step ed] at hb
     refine ⟨_, rfl, x, d', rfl, hd', _, rfl, ite2 (fun c3 => ?_) (fun c3 => ?_)⟩
     ·have e : riseGo bl (d' :: ds.drop (i + 1)) = false := by cases d' <;> first | rfl | cases c3
      rw [← hb, e] at q
      exact q
     ·cases d' with
      | int n =>
       cases hd'
       refine ⟨_, rfl, _, rfl, _, _, rfl, rfl, _, rfl, ite2 (fun c4 => ?_) (fun c4 => ?_)⟩
       ·have e : riseGo bl (.int n :: ds.drop (i + 1)) = false := by
         have c5 : n ≤ bl := of_decide_eq_true c4
         show (decide (bl < n) && riseGo n (ds.drop (i + 1))) = false
         rw [decide_eq_false (by omega), Bool.false_and]
        rw [← hb, e] at q
        exact q
       ·refine ⟨_, rfl, n, _, rfl, rfl, ?_⟩
        rw [← hb]
        have c5 : ¬ n ≤ bl := fun z => c4 (decide_eq_true z)
        show riseGo n (ds.drop (i + 1)) = (decide (bl < n) && riseGo n (ds.drop (i + 1)))
        rw [decide_eq_true (by omega), Bool.true_and]
      | _ => exact absurd rfl c3
    ·rintro σ H' ⟨bl, y, rfl, rfl, hb⟩
     rw [← hb, hl, List.drop_length] at q
     exact q
  ·have e : decide (few ≤ (ds.length : Int)) = false := by
    rw [← hl]
    exact Bool.eq_false_iff.mpr c1
   rw [e, Bool.false_and] at q
   exact ⟨_, rfl, q⟩
 | _ => exact absurd rfl c
theorem scIsP : FnScope ["thing"] ["thing"] (defScope sIsP) := ⟨rfl, rfl, rfl, by decide +kernel, rfl, by decide +kernel, by decide +kernel⟩
theorem two_of {H : Hp} {xs : List V} {ds : List PyData} (h : DatAll H xs ds) (e : xs.length = 2) : ∃ x y dx dy, xs = [x, y] ∧ ds = [dx, dy] ∧ Dat H x dx ∧ Dat H y dy := by
 cases h with
 | nil => cases e
 | cons h1 h2 =>
  cases h2 with
  | nil => cases e
  | cons h3 h4 =>
   cases h4 with
   | nil => exact ⟨_, _, _, _, rfl, rfl, h1, h3⟩
   | cons _ _ => simp at e
theorem plan_no {ds : List PyData} (e : ds.length ≠ 2) : planD (.tuple ds) = false := by
 match ds with
 | [] => rfl
 | [_] => rfl
 | [_, _] => exact absurd rfl e
 | _ :: _ :: _ :: _ => rfl
theorem ok_isPD (F : Fun K "is_plan" "is_plan" sIsP f fd) (B : Bt2 mg) (GI : FnOk P w K mg base CX0 2 ri rid ["thing", "fewest"] spRiseD) (bI : Binds K rid ["thing", "fewest"] []) (kI : Kee K ri) (mI : mg "is_rising_list" = some (.ref ri)) : FnOk P w K mg base CX0 3 f fd ["thing"] spIsPD := by
 refine F.ok scIsP (fun vs H Q E h => ?_) (fun cdv A outer s H vs Q E hr h => ?_)
 ·obtain ⟨v, d, rfl, _⟩ := h
  rfl
 obtain ⟨v, d, rfl, hd, q⟩ := h
 refine ⟨_, (@pss_cons _ _ _ _ _ (ps_if (PW.pt (pw_or (pt_not (pt_val (pe_callB (call_isi "tuple") rfl B.isinstance boot_isinstance (pa_cons (pv 0) (pa_cons (pe_bltn (v := .ty "tuple") rfl B.tuple PyProof.Rows.boot_tuple rfl) pa_nil))))) (pw_or1 (pt_cmpR op_ne (pe_callB call_len_seq rfl B.len PySem.boot_len (pa_cons (pv 0) pa_nil)) pe_int (nomark _))))) (@pss_one _ _ _ (ps_ret pe_bl)) pss_nil) (@pss_one _ _ _ (ps_ret (pe_and (pe_call GI hr rfl mI kI bI .nil pass0 (pa_cons (pe_ix ix_tup (pv 0) pe_int (fun _ _ => rfl)) (pa_cons pe_int pa_nil))) (pe_one (pe_call GI hr rfl mI kI bI .nil pass0 (pa_cons (pe_ix ix_tup (pv 0) pe_int (fun _ _ => rfl)) (pa_cons pe_int pa_nil)))))))), ?_⟩
 refine ⟨_, rfl, _, _, isT d, rfl, hd.ty, kit_t _ d, _, rfl, ite2 (fun c => ?_) (fun c => ?_)⟩
 ·have e : planD d = false := by cases d <;> first | rfl | cases c
  rw [e] at q
  exact q
 cases hd with
 | tup ha hx =>
  rename_i a xs ds
  have hl := hx.len
  refine ⟨_, rfl, a, _, rfl, .inr (SqT.of ha), rfl, _, rfl, ite2 (fun c1 => ?_) (fun c1 => ?_)⟩
  ·have e : planD (.tuple ds) = false := plan_no fun z => by
    have c2 : (!decide (V.int ((xs.length : Nat) : Int) = V.int 2)) = true := c1
    rw [hl, z] at c2
    exact absurd c2 (by decide)
   rw [e] at q
   exact q
  ·have c2 : ¬ (!decide (V.int ((xs.length : Nat) : Int) = V.int 2)) = true := c1
   rw [Bool.not_eq_true', decide_eq_false_iff_not, Decidable.not_not] at c2
   have c3 := V.int.inj c2
   obtain ⟨x, y, dx, dy, rfl, rfl, h1, h2⟩ := two_of hx (by omega)
   have e : planD (.tuple [dx, dy]) = (riseD 1 dx && riseD 0 dy) := rfl
   rw [e] at q
   refine ⟨_, rfl, a, _, 0, _, rfl, rfl, SqT.of ha, rfl, x, dx, 1, rfl, h1, _, rfl, ite2 (fun c4 => ?_) (fun c4 => ?_)⟩
   ·rw [c4, Bool.true_and] at q
    exact ⟨_, rfl, a, _, 1, _, rfl, rfl, SqT.of ha, rfl, y, dy, 0, rfl, h2, q⟩
   ·rw [Bool.eq_false_iff.mpr c4, Bool.false_and] at q
    exact q
 | _ => exact absurd rfl c
end
abbrev sCkP : Stmt := top 20
abbrev sAdd : Stmt := top 21
def addUp (ss : List Int) (x y : Int) : Bool := decide (x ≠ y) && ss.contains (x + y)
def spCkP : Sp := fun vs H Q _ => ∃ (t a b : Addr) (ns ss : List Int), vs = [.ref t] ∧ IsPl H t a b ns ss ∧ Q .non H
def spAdd : Sp := fun vs H Q _ => ∃ (t a b : Addr) (ns ss : List Int) (x y : Int), vs = [.ref t, .int x, .int y] ∧ IsPl H t a b ns ss ∧ Q (.bl (addUp ss x y)) H
section
variable {f ip : Addr} {fd ipd : FuncData}
theorem scCkP : FnScope ["plan"] ["plan"] (defScope sCkP) := ⟨rfl, rfl, rfl, by decide +kernel, rfl, by decide +kernel, by decide +kernel⟩
theorem ok_ckPD (F : Fun K "check_plan" "check_plan" sCkP f fd) (GP : FnOk P w K mg base CX0 3 ip ipd ["thing"] spIsPD) (bP : Binds K ipd ["thing"] []) (kP : Kee K ip) (mP : mg "is_plan" = some (.ref ip)) : FnOk P w K mg base CX0 4 f fd ["plan"] spCkP := by
 refine F.ok scCkP (fun vs H Q E h => ?_) (fun cdv A outer s H vs Q E hr h => ?_)
 ·obtain ⟨t, a, b, ns, ss, rfl, _⟩ := h
  rfl
 obtain ⟨t, a, b, ns, ss, rfl, pl, q⟩ := h
 obtain ⟨d, hd, e⟩ := pl.dat
 refine ⟨_, (@pss_one _ _ _ (ps_if (pt_not (pt_val (pe_call GP hr rfl mP kP bP .nil pass0 (pa_cons (pv 0) pa_nil)))) (@pss_one _ _ _ ps_never) pss_nil)), ?_⟩
 refine ⟨_, rfl, _, d, rfl, hd, _, rfl, ?_⟩
 rw [e]
 exact iteF q
theorem scAdd : FnScope ["plan", "one", "other"] ["plan", "one", "other"] (defScope sAdd) := ⟨rfl, rfl, rfl, by decide +kernel, rfl, by decide +kernel, by decide +kernel⟩
theorem ok_add (F : Fun K "add_up" "add_up" sAdd f fd) : FnOk P w K mg base CX0 1 f fd ["plan", "one", "other"] spAdd := by
 refine F.ok scAdd (fun vs H Q E h => ?_) (fun cdv A outer s H vs Q E hr h => ?_)
 ·obtain ⟨t, a, b, ns, ss, x, y, rfl, _⟩ := h
  rfl
 obtain ⟨t, a, b, ns, ss, x, y, rfl, pl, q⟩ := h
 refine ⟨_, (@pss_one _ _ _ (ps_ret (pe_and (pe_cmpR op_ne (pv 1) (pv 2) (nomark _)) (pe_one (pe_cmpR (op_inI K) (pe_op op_add (pv 1) (pv 2)) (pe_ix ix_tup (pv 0) pe_int (fun _ _ => rfl)) rfl))))), ?_⟩
 have e1 : (!decide (V.int x = V.int y)) = decide (x ≠ y) := by
  rw [← decide_not]
  exact decide_eq_decide.mpr (not_congr ⟨fun h => V.int.inj h, fun h => by rw [h]⟩)
 unfold addUp at q
 refine ⟨_, rfl, _, rfl, rfl, _, rfl, ?_⟩
 rw [e1]
 refine ite2 (fun c => ?_) (fun c => ?_)
 ·rw [c, Bool.true_and] at q
  exact ⟨_, rfl, _, rfl, _, _, rfl, rfl, _, rfl, t, _, 1, _, rfl, rfl, SqT.of pl.t, rfl, b, x + y, ss, rfl, rfl, SqL.of pl.b, q⟩
 ·rw [Bool.eq_false_iff.mpr c, Bool.false_and] at q
  exact q
end
structure Bt4 (mg : Str → Option Value) : Prop extends Bt3 mg where
 zip : mg "zip" = none
 sum : mg "sum" = none
def cnt (m : Nat) : Nat := ((List.range 10).filter fun k => m.testBit k).length
theorem cnt_dec : ∀ m < 1024, ∀ k < 10, m.testBit k = true → cnt (m - 2 ^ k) + 1 = cnt m ∧ m - 2 ^ k < m ∧ (m - 2 ^ k).testBit k = false := by decide +kernel
theorem cnt_zero : ∀ m < 1024, cnt m = 0 → m = 0 := by decide +kernel
theorem cnt_le : ∀ m < 1024, cnt m ≤ 10 := by decide +kernel
theorem pow_le : ∀ n < 11, 2 ^ n ≤ 1024 := by decide +kernel
theorem bits_and : ∀ m < 1024, ∀ k < 10, ((m &&& 2 ^ k) != 0) = m.testBit k := by decide +kernel
section
variable (near : Nat → List Nat) (ends : Nat → Bool)
def canF : Nat → Nat → Nat → Bool
 | 0, _, e => ends e
 | m + 1, left, e => (near e).any fun k => left.testBit k && canF m (left - 2 ^ k) k
def can (left e : Nat) : Bool := canF near ends (cnt left) left e
def fst (left e : Nat) : Option Nat := (near e).find? fun k => left.testBit k && can near ends (left - 2 ^ k) k
def pathF : Nat → Nat → Nat → List Nat
 | 0, _, _ => []
 | m + 1, left, e => match fst near ends left e with
  | none => []
  | some k => k :: pathF m (left - 2 ^ k) k
def path (left e : Nat) : List Nat := pathF near ends (cnt left) left e
structure NearOk (n : Nat) : Prop where
 n10 : n ≤ 10
 lt : ∀ e ≤ n, ∀ k ∈ near e, k < n
 up : ∀ e ≤ n, (near e).Pairwise (· < ·)
variable {near ends}
theorem can_zero {e : Nat} : can near ends 0 e = ends e := rfl
theorem any_congr' {l : List Nat} {p q : Nat → Bool} (h : ∀ k ∈ l, p k = q k) : l.any p = l.any q := by
 induction l with
 | nil => rfl
 | cons a r ih => rw [List.any_cons, List.any_cons, h a List.mem_cons_self, ih fun k hk => h k (List.mem_cons_of_mem _ hk)]
theorem can_succ {n left e : Nat} (N : NearOk near n) (hl : left < 1024) (h0 : left ≠ 0) (he : e ≤ n) : can near ends left e = (near e).any fun k => left.testBit k && can near ends (left - 2 ^ k) k := by
 unfold can
 cases hc : cnt left with
 | zero => exact absurd (cnt_zero left hl hc) h0
 | succ m =>
  show ((near e).any fun k => left.testBit k && canF near ends m (left - 2 ^ k) k) = _
  refine any_congr' fun k hk => ?_
  cases hb : left.testBit k with
  | false => rfl
  | true =>
   have hk10 : k < 10 := Nat.lt_of_lt_of_le (N.lt e he k hk) N.n10
   have := (cnt_dec left hl k hk10 hb).1
   have em : cnt (left - 2 ^ k) = m := by omega
   rw [em]
theorem fst_some {n left e k : Nat} (N : NearOk near n) (he : e ≤ n) (h : fst near ends left e = some k) : k < n ∧ left.testBit k = true ∧ can near ends (left - 2 ^ k) k = true := by
 have h1 := List.find?_some h
 have h2 := List.mem_of_find?_eq_some h
 rw [Bool.and_eq_true] at h1
 exact ⟨N.lt e he k h2, h1.1, h1.2⟩
theorem can_fst {n left e : Nat} (N : NearOk near n) (hl : left < 1024) (h0 : left ≠ 0) (he : e ≤ n) : can near ends left e = (fst near ends left e).isSome := by
 rw [can_succ N hl h0 he]
 unfold fst
 rw [Bool.eq_iff_iff, List.find?_isSome, List.any_eq_true]
theorem path_zero {e : Nat} : path near ends 0 e = [] := rfl
theorem path_succ {n left e k : Nat} (N : NearOk near n) (hl : left < 1024) (he : e ≤ n) (h : fst near ends left e = some k) : path near ends left e = k :: path near ends (left - 2 ^ k) k := by
 obtain ⟨hk, hb, hc⟩ := fst_some N he h
 have h1 := (cnt_dec left hl k (Nat.lt_of_lt_of_le hk N.n10) hb).1
 unfold path
 rw [← h1]
 show (match fst near ends left e with | none => [] | some j => j :: pathF near ends (cnt (left - 2 ^ k)) (left - 2 ^ j) j) = _
 rw [h]
theorem path_lt {n : Nat} (N : NearOk near n) : ∀ (m left e : Nat), e ≤ n → ∀ k ∈ pathF near ends m left e, k < n
 | 0, _, _, _, k, h => nomatch h
 | m + 1, left, e, he, k, h => by
  have h' : k ∈ (match fst near ends left e with | none => [] | some k => k :: pathF near ends m (left - 2 ^ k) k) := h
  cases hf : fst near ends left e with
  | none => rw [hf] at h'; exact nomatch h'
  | some j =>
   rw [hf] at h'
   have hj := (fst_some N he hf).1
   rcases List.mem_cons.mp h' with z | z
   ·rw [z]; exact hj
   ·exact path_lt N m _ j (Nat.le_of_lt hj) k z
theorem path_len : ∀ (m left e : Nat), (pathF near ends m left e).length ≤ m
 | 0, _, _ => Nat.le_refl _
 | m + 1, left, e => by
  show (match fst near ends left e with | none => [] | some k => k :: pathF near ends m (left - 2 ^ k) k).length ≤ m + 1
  cases fst near ends left e with
  | none => exact Nat.zero_le _
  | some j => exact Nat.succ_le_succ (path_len m _ j)
end
theorem pigeon : ∀ (N : Nat) (l : List Nat), l.Nodup → (∀ x ∈ l, x < N) → l.length ≤ N
 | 0, l, _, h => by
  cases l with
  | nil => exact Nat.le_refl _
  | cons a r => exact absurd (h a List.mem_cons_self) (Nat.not_lt_zero _)
 | N + 1, l, nd, h => by
  by_cases hm : N ∈ l
  ·have h1 := pigeon N (l.erase N) (nd.erase N) fun x hx => by
    have hx' := (List.Nodup.mem_erase_iff nd).mp hx
    have := h x hx'.2
    have hne := hx'.1
    omega
   rw [List.length_erase_of_mem hm] at h1
   omega
  ·have h1 := pigeon N l nd fun x hx => by
    have := h x hx
    have hne : x ≠ N := fun e => hm (e ▸ hx)
    omega
   omega
abbrev sNear : Stmt := top 24
abbrev sNums : Stmt := top 25
abbrev sIni0 : Stmt := inClass (top 26) 0
abbrev sSteps : Stmt := inClass (top 26) 1
def iv (l : List Nat) : List Int := l.map fun k : Nat => (k : Int)
theorem iv_len (l : List Nat) : (iv l).length = l.length := List.length_map _
theorem iv_V (l : List Nat) : (iv l).map V.int = l.map fun k : Nat => V.int (k : Int) := List.map_map
theorem iv_contains (l : List Nat) (e : Nat) : (iv l).contains (e : Int) = l.contains e := by
 rw [Bool.eq_iff_iff, List.contains_iff_mem, List.contains_iff_mem]
 unfold iv
 rw [List.mem_map]
 constructor
 ·rintro ⟨k, hk, h⟩
  have h' : k = e := by omega
  exact h' ▸ hk
 ·exact fun h => ⟨e, h, rfl⟩
def nearP (ns ss : List Int) (x : Int) : List Nat := (List.range ns.length).filter fun k => addUp ss x (ns.getD k 0)
def nearX (ns ss : List Int) (fs : List Nat) (e : Nat) : List Nat := if e < ns.length then nearP ns ss (ns.getD e 0) else fs
def spNear : Sp := fun vs H Q _ => ∃ (t a b : Addr) (ns ss : List Int) (x : Int), vs = [.ref t, .int x] ∧ IsPl H t a b ns ss ∧ ∀ (l : Addr) (H' : Hp), Same H H' → H l = none → H' l = some (.lst ((iv (nearP ns ss x)).map V.int)) → Q (.ref l) H'
def spNums : Sp := fun vs H Q _ => ∃ (t a b p : Addr) (ns ss : List Int) (ks : List Nat), vs = [.ref t, .ref p] ∧ IsPl H t a b ns ss ∧ H p = some (.lst ((iv ks).map V.int)) ∧ ks.length ≤ 1000 ∧ (∀ k ∈ ks, k < ns.length) ∧
 ∀ (l : Addr) (H' : Hp), Same H H' → H l = none → H' l = some (.lst ((ks.map fun k => ns.getD k 0).map V.int)) → Q (.ref l) H'
def NearAt (H : Hp) (nr : Addr) (n : Nat) (near : Nat → List Nat) : Prop := ∃ rs : List Addr, rs.length = n + 1 ∧ H nr = some (.lst (rs.map V.ref)) ∧ ∀ e ≤ n, ∃ r, rs[e]? = some r ∧ H r = some (.lst ((iv (near e)).map V.int))
structure SrT (K : PySem.W.Frag) (C : Addr) : Prop where
 cl : Cls K C
 nA : NoAttr K C "ahead"
 nN : NoAttr K C "near"
 nW : NoAttr K C "whole"
def fs0 (n : Nat) (nr : Addr) : List (Str × V) := [("ahead", .int n), ("near", .ref nr), ("whole", .int ((2 ^ n - 1 : Nat) : Int))]
def spIni0 (C : Addr) : Sp := fun vs H Q _ => ∃ (s t a b fp dx : Addr) (ns ss : List Int) (fs : List Nat), vs = [.ref s, .ref t, .ref fp] ∧ H s = some (.ins C dx []) ∧ IsPl H t a b ns ss ∧ H fp = some (.lst ((iv fs).map V.int)) ∧
 ∀ (nr : Addr) (H' : Hp), Ex (· = s) H H' → H' s = some (.ins C dx (fs0 ns.length nr)) → NearAt H' nr ns.length (nearX ns ss fs) → Q .non H'
def spSteps (C : Addr) : Sp := fun vs H Q _ => ∃ (s dx nr : Addr) (fs : List (Str × V)) (n : Nat) (near : Nat → List Nat) (left e : Nat), vs = [.ref s, .int left, .int e] ∧ H s = some (.ins C dx fs) ∧ fs.lookup ("near" : Str) = some (.ref nr) ∧ NearAt H nr n near ∧ NearOk near n ∧ e ≤ n ∧ left < 1024 ∧
 ∀ (l : Addr) (H' : Hp), Same H H' → H l = none → H' l = some (.lst ((iv ((near e).filter fun k => left.testBit k)).map V.int)) → Q (.ref l) H'
theorem near_ok {ns ss : List Int} {fs : List Nat} (ok : PlanOk ns ss) (h1 : ∀ k ∈ fs, k < ns.length) (h2 : fs.Pairwise (· < ·)) : NearOk (nearX ns ss fs) ns.length where
 n10 := ok.n2
 lt := fun e _ k hk => by
  unfold nearX at hk
  split at hk
  ·exact List.mem_range.mp (List.mem_filter.mp hk).1
  ·exact h1 k hk
 up := fun e _ => by
  unfold nearX
  split
  ·exact List.Pairwise.filter _ List.pairwise_lt_range
  ·exact h2
theorem near_len {near : Nat → List Nat} {n e : Nat} (N : NearOk near n) (he : e ≤ n) : (near e).length ≤ n :=
 pigeon n _ ((N.up e he).imp fun h => Nat.ne_of_lt h) (N.lt e he)
theorem bit_V (left k : Nat) (h : left < 1024) (hk : k < 10) : (Builtin.bitAnd (left : Int) (1 * 2 ^ ((k : Int)).toNat) != 0) = left.testBit k := by
 have e : (1 * 2 ^ ((k : Int)).toNat : Int) = ((2 ^ k : Nat) : Int) := by rw [Int.one_mul, Int.toNat_natCast]; simp
 rw [e, ← bits_and left h k hk]
 unfold Builtin.bitAnd
 simp only [Int.natCast_nonneg, decide_true, Int.toNat_natCast]
 rw [Bool.eq_iff_iff]
 simp only [bne_iff_ne, ne_eq]
 exact not_congr (by omega)
theorem sub_V (left k : Nat) (h : 2 ^ k ≤ left) : ((left : Int) - 1 * 2 ^ ((k : Int)).toNat) = ((left - 2 ^ k : Nat) : Int) := by
 have e : (1 * 2 ^ ((k : Int)).toNat : Int) = ((2 ^ k : Nat) : Int) := by rw [Int.one_mul, Int.toNat_natCast]; simp
 rw [e]; omega
theorem bit_le {left k : Nat} (h : left.testBit k = true) : 2 ^ k ≤ left := Nat.ge_two_pow_of_testBit h
theorem nat_at {l : List Nat} {i k : Nat} (h : l[i]? = some k) : ((iv l).map V.int)[i]? = some (.int (k : Int)) := by rw [iv_V, List.getElem?_map, h]; rfl
theorem at_nat {l : List Nat} {i : Nat} {x : V} (h : ((iv l).map V.int)[i]? = some x) : ∃ k, l[i]? = some k ∧ x = .int (k : Int) := by
 rw [iv_V, List.getElem?_map] at h
 cases e : l[i]? with
 | none => rw [e] at h; cases h
 | some k => rw [e] at h; exact ⟨k, rfl, (Option.some.inj h).symm⟩
theorem nums_of (ns : List Int) (ks : List Nat) : (((List.range ks.length).filter fun _ => true).map fun i => V.int (ns.getD (ks.getD i 0) 0)) = (ks.map fun k => ns.getD k 0).map V.int := by
 rw [fltT, List.map_map]
 have h := congrArg (List.map (V.int ∘ fun k => ns.getD k 0)) (rgD ks 0)
 rw [List.map_map] at h
 exact h
section
variable {f ad nf C : Addr} {fd add nfd : FuncData}
theorem scNear : FnScope ["plan", "number"] ["plan", "number"] (defScope sNear) := ⟨rfl, rfl, rfl, by decide +kernel, rfl, by decide +kernel, by decide +kernel⟩
theorem ok_near (F : Fun K "near_places" "near_places" sNear f fd) (B : Bt3 mg)
  (GA : FnOk P w K mg base CX0 1 ad add ["plan", "one", "other"] spAdd) (bA : Binds K add ["plan", "one", "other"] []) (kA : Kee K ad) (mA : mg "add_up" = some (.ref ad)) : FnOk P w K mg base CX0 2 f fd ["plan", "number"] spNear := by
 refine F.ok scNear (fun vs H Q E h => ?_) (fun cdv A outer s H vs Q E hr h => ?_)
 ·obtain ⟨t, a, b, ns, ss, x, rfl, _⟩ := h
  rfl
 obtain ⟨t, a, b, ns, ss, x, rfl, pl, q⟩ := h
 refine ⟨_, (@pss_one _ _ _ (ps_ret (pe_comp ["place", "other"] rfl (blk_ok (defScope sNear) ["plan", "number"] rfl rfl (by decide +kernel)) (pi_enum rfl B.enumerate (pa_cons (pe_ix ix_tup (pv 0) pe_int (fun _ _ => rfl)) pa_nil)) (fun pins C fp s3 H3 => ⟨(pg_tupK (n := 2) K rfl (pgs_cons (pg_name (i := 0) (show (blkN ["place", "other"] ["plan", "number"]).Nodup by decide +kernel) rfl (Or.inl rfl)) (pgs_cons (pg_name (i := 1) (show (blkN ["place", "other"] ["plan", "number"]).Nodup by decide +kernel) rfl (Or.inl rfl)) pgs_nil))), (pif_one (pt_val (pe_call GA hr rfl mA kA bA .nil pass0 (pa_cons (pv 2) (pa_cons (pv 3) (pa_cons (pv 1) pa_nil)))))), (pv 0)⟩)))), ?_⟩
 have n2 := pl.ok.n2
 have hml : (ns.map V.int).length = ns.length := List.length_map _
 refine ⟨_, rfl, t, _, 0, _, rfl, rfl, SqT.of pl.t, rfl, a, _, rfl, pl.a, fun D hD => ?_⟩
 refine turns_enum (σ := [some (.ref t), some (.int x)]) (xs := ns.map V.int) (fun i => addUp ss x (ns.getD i 0)) (fun i => .int (i : Int)) pl.a hD (by omega) (fun i H' hi g P hP => ?_) (fun i H' hi _ g P hP => ?_) fun H2 g2 e2 => ?_
 ·rw [getD_map_int _ (by rw [hml] at hi; exact hi)]
  exact ⟨_, rfl, _, rfl, _, rfl, t, a, b, ns, ss, x, _, rfl, pl.same g, _, rfl, hP _ Same.rfl'⟩
 ·exact ⟨_, rfl, hP _ Same.rfl'⟩
 ·refine q D H2 g2 hD ?_
  rw [e2, hml, iv_V]
  rfl
theorem scNums : FnScope ["plan", "places"] ["plan", "places"] (defScope sNums) := ⟨rfl, rfl, rfl, by decide +kernel, rfl, by decide +kernel, by decide +kernel⟩
theorem ok_nums (F : Fun K "numbers_at" "numbers_at" sNums f fd) : FnOk P w K mg base CX0 1 f fd ["plan", "places"] spNums := by
 refine F.ok scNums (fun vs H Q E h => ?_) (fun cdv A outer s H vs Q E hr h => ?_)
 ·obtain ⟨t, a, b, p, ns, ss, ks, rfl, _⟩ := h
  rfl
 obtain ⟨t, a, b, p, ns, ss, ks, rfl, pl, hp, h1000, hlt, q⟩ := h
 refine ⟨_, (@pss_one _ _ _ (ps_ret (pe_comp ["place"] rfl (blk_ok (defScope sNums) ["plan", "places"] rfl rfl (by decide +kernel)) (pi_list (pv 1)) (fun pins C fp s3 H3 => ⟨(pg_name (i := 0) (show (blkN ["place"] ["plan", "places"]).Nodup by decide +kernel) rfl (Or.inl rfl)), pif_nil, (pe_ix (ix_listK K) (pe_ix (ix_tupK K) (pv 1) pe_int (fun _ _ => rfl)) (pv 0) (fun _ _ => rfl))⟩)))), ?_⟩
 have hml : ((iv ks).map V.int).length = ks.length := by rw [List.length_map, iv_len]
 refine ⟨_, rfl, p, rfl, ⟨_, SqL.of hp⟩, fun D hD => ?_⟩
 refine turns_list (σ := [some (.ref t), some (.ref p)]) (xs := (iv ks).map V.int) (fun _ => true) (fun i => .int (ns.getD (ks.getD i 0) 0)) (SqL.of hp) hD (by omega) (fun i H' hi g P hP => ?_) (fun i H' hi _ g P hP => ?_) fun H2 g2 e2 => ?_
 ·exact hP _ Same.rfl'
 ·have hi' : i < ks.length := by rw [hml] at hi; exact hi
  have ek : ks[i]? = some ks[i] := List.getElem?_eq_getElem hi'
  have e1 : ((iv ks).map V.int).getD i .non = .int ((ks[i] : Nat) : Int) := by rw [List.getD_eq_getElem?_getD, nat_at ek]; rfl
  have e2 : ks.getD i 0 = ks[i] := by rw [List.getD_eq_getElem?_getD, ek]; rfl
  have hk : ks[i] < ns.length := hlt _ (List.getElem_mem hi')
  rw [e1]
  rw [e2] at hP
  refine ⟨_, rfl, t, _, 0, _, rfl, rfl, SqT.of (pl.same g).t, rfl, _, rfl, a, _, _, _, rfl, rfl, SqL.of (pl.same g).a, atI_nat ?_, hP _ Same.rfl'⟩
  rw [List.getElem?_map, List.getElem?_eq_getElem hk, List.getD_eq_getElem?_getD, List.getElem?_eq_getElem hk]
  rfl
 ·refine q D H2 g2 hD ?_
  rw [e2, hml]
  exact congrArg (fun x => some (HO.lst x)) (nums_of ns ks)
theorem scIni0 : FnScope ["self", "plan", "first_places"] ["self", "plan", "first_places"] (defScope sIni0) := ⟨rfl, rfl, rfl, by decide +kernel, rfl, by decide +kernel, by decide +kernel⟩
theorem ok_ini0 (F : Fun K "__init__" "Steps.__init__" sIni0 f fd) (B : Bt3 mg) (T : SrT K C)
  (GN : FnOk P w K mg base CX0 2 nf nfd ["plan", "number"] spNear) (bN : Binds K nfd ["plan", "number"] []) (kN : Kee K nf) (mN : mg "near_places" = some (.ref nf)) : FnOk P w K mg base CX0 3 f fd ["self", "plan", "first_places"] (spIni0 C) := by
 refine F.ok scIni0 (fun vs H Q E h => ?_) (fun cdv A outer s H vs Q E hr h => ?_)
 ·obtain ⟨s, t, a, b, fp, dx, ns, ss, fs, rfl, _⟩ := h
  rfl
 obtain ⟨s, t, a, b, fp, dx, ns, ss, fs, rfl, hs, pl, hfp, q⟩ := h
 refine ⟨_, (@pss_cons _ _ _ _ _ (ps_fld (pv 0) (pe_callB call_len_seq rfl B.len PySem.boot_len (pa_cons (pe_ix ix_tup (pv 1) pe_int (fun _ _ => rfl)) pa_nil)) rfl) (@pss_cons _ _ _ _ _ (ps_fld (pv 0) (pe_op op_cat (pe_comp ["number"] rfl (blk_ok (defScope sIni0) ["self", "plan", "first_places"] rfl rfl (by decide +kernel)) (pi_list (pe_ix ix_tup (pv 1) pe_int (fun _ _ => rfl))) (fun pins C fp s3 H3 => ⟨(pg_name (i := 0) (show (blkN ["number"] ["self", "plan", "first_places"]).Nodup by decide +kernel) rfl (Or.inl rfl)), pif_nil, (pe_call GN hr rfl mN kN bN .nil pass0 (pa_cons (pv 2) (pa_cons (pv 0) pa_nil)))⟩)) (pe_lst (pa_cons (pe_callTy call_list_of rfl B.list PyProof.Rows.boot_list (pa_cons (pv 2) pa_nil)) pa_nil))) rfl) (@pss_one _ _ _ (ps_fld (pv 0) (pe_op op_sub (pe_op op_shl pe_int (pe_fld (pv 0) rfl)) pe_int) rfl)))), ?_⟩
 have n2 := pl.ok.n2
 have hml : (ns.map V.int).length = ns.length := List.length_map _
 refine ⟨_, rfl, t, _, 0, _, rfl, rfl, SqT.of pl.t, rfl, a, _, rfl, .inl (SqL.of pl.a), _, rfl, s, C, dx, _, rfl, hs, T.cl, T.nA, (by show 0 < 1000; decide), ?_⟩
 rw [hml]
 have ts : t ≠ s := ne_of pl.t hs (by intro z; cases z)
 have as : a ≠ s := ne_of pl.a hs (by intro z; cases z)
 have bs : b ≠ s := ne_of pl.b hs (by intro z; cases z)
 have fps : fp ≠ s := ne_of hfp hs (by intro z; cases z)
 have pl1 : IsPl (upd H s (.ins C dx (putF "ahead" (.int (ns.length : Int)) []))) t a b ns ss := ⟨by rw [upd_ne ts]; exact pl.t, by rw [upd_ne as]; exact pl.a, by rw [upd_ne bs]; exact pl.b, pl.ok⟩
 have fp1 : (upd H s (.ins C dx (putF "ahead" (.int (ns.length : Int)) []))) fp = some (.lst ((iv fs).map V.int)) := by rw [upd_ne fps]; exact hfp
 have s1 : (upd H s (.ins C dx (putF "ahead" (.int (ns.length : Int)) []))) s = some (.ins C dx (putF "ahead" (.int (ns.length : Int)) [])) := upd_same
 have ex1 : Ex (· = s) H (upd H s (.ins C dx (putF "ahead" (.int (ns.length : Int)) []))) := Ex.put _ rfl
 generalize upd H s (.ins C dx (putF "ahead" (.int (ns.length : Int)) [])) = H1 at pl1 fp1 s1 ex1 ⊢
 refine ⟨_, rfl, t, _, 0, _, rfl, rfl, SqT.of pl1.t, rfl, a, rfl, ⟨_, SqL.of pl1.a⟩, fun D hD => ?_⟩
 refine turns_any (n := ns.length) (fun i σ' H' => ∃ (x : Option V) (rs : List Addr), σ' = [x, some (.ref s), some (.ref t), some (.ref fp)] ∧ Same H1 H' ∧ rs.length = i ∧ H' D = some (.lst (rs.map V.ref)) ∧
  ∀ e < i, ∃ r, rs[e]? = some r ∧ r ≠ D ∧ H' r = some (.lst ((iv (nearP ns ss (ns.getD e 0))).map V.int))) ⟨none, [], rfl, Same.new hD _, rfl, upd_same, fun e he => absurd he (Nat.not_lt_zero _)⟩ ?_ ?_
 ·rintro i σ' H' hi ⟨x, rs, rfl, g, hrs, hl, hr'⟩
  have ex : (ns.map V.int)[i]? = some (.int ns[i]) := by rw [List.getElem?_map, List.getElem?_eq_getElem hi]; rfl
  refine ⟨⟨_, _, SqL.of (g _ _ pl1.a), ex⟩, fun y H2 hy => ?_⟩
  obtain ⟨rfl, hy⟩ := hy
  have ey := hy _ (SqL.of (g _ _ pl1.a))
  rw [ex] at ey
  cases ey
  refine comp_true ?_
  refine ⟨_, rfl, _, rfl, t, a, b, ns, ss, ns[i], rfl, pl1.same g, fun l H4 g4 hl4 e4 => ?_⟩
  have hlD : l ≠ D := fun z => by rw [z, hl] at hl4; cases hl4
  refine ⟨_, g4 _ _ hl, small1000 (by rw [List.length_map]; omega), some (.int ns[i]), rs ++ [l], rfl, fun b o hb => ?_, by rw [List.length_append, hrs]; rfl, ?_, fun e he => ?_⟩
  ·have hne : b ≠ D := fun e => by rw [e, hD] at hb; cases hb
   rw [upd_ne hne]
   exact g4 _ _ (g _ _ hb)
  ·rw [upd_same, List.map_append]; rfl
  ·rcases Nat.lt_or_ge e i with z | z
   ·obtain ⟨r, r1, r2, r3⟩ := hr' e z
    exact ⟨r, by rw [List.getElem?_append_left (by omega)]; exact r1, r2, by rw [upd_ne r2]; exact g4 _ _ r3⟩
   ·have ei : e = i := by omega
    subst ei
    refine ⟨l, by rw [List.getElem?_append_right (by omega), hrs, Nat.sub_self]; rfl, hlD, ?_⟩
    rw [upd_ne hlD, e4, List.getD_eq_getElem?_getD, List.getElem?_eq_getElem hi]
    rfl
 ·rintro σ' H' ⟨x, rs, rfl, g, hrs, hl, hr'⟩
  refine ⟨⟨_, SqL.of (g _ _ pl1.a), by rw [hml]; exact Nat.le_refl _⟩, ?_⟩
  refine ⟨_, rfl, fp, _, rfl, .inl (SqL.of (g _ _ fp1)), fun lf hlf => ⟨by show 1 ≤ sizeLine; decide, fun l2 hl2 => ?_⟩⟩
  have lfD : D ≠ lf := ne_of_none hl hlf
  have l2D : D ≠ l2 := ne_of_none (by rw [upd_ne lfD]; exact hl) hl2
  have l2f : lf ≠ l2 := ne_of_none upd_same hl2
  refine ⟨D, l2, _, _, rfl, rfl, by rw [upd_ne l2D, upd_ne lfD]; exact hl, upd_same, by rw [List.length_map, hrs]; exact Nat.le_of_lt (small2000 (by show ns.length + 1 ≤ 2000; omega)), fun nr hnr => ?_⟩
  have sH : Same H1 (upd (upd (upd H' lf (.lst ((iv fs).map V.int))) l2 (.lst [.ref lf])) nr (.lst (rs.map V.ref ++ [.ref lf]))) := fun c o hc => by
   have c1 := g _ _ hc
   have c2 : (upd H' lf (.lst ((iv fs).map V.int))) c = some o := by rw [upd_ne (ne_of_none c1 hlf)]; exact c1
   have c3 : (upd (upd H' lf (.lst ((iv fs).map V.int))) l2 (.lst [.ref lf])) c = some o := by rw [upd_ne (ne_of_none c2 hl2)]; exact c2
   rw [upd_ne (ne_of_none c3 hnr)]; exact c3
  have nrF : lf ≠ nr := ne_of_none (by rw [upd_ne l2f]; exact upd_same) hnr
  have NA : NearAt (upd (upd (upd H' lf (.lst ((iv fs).map V.int))) l2 (.lst [.ref lf])) nr (.lst (rs.map V.ref ++ [.ref lf]))) nr ns.length (nearX ns ss fs) := by
   refine ⟨rs ++ [lf], by rw [List.length_append, hrs]; rfl, by rw [upd_same, List.map_append]; rfl, fun e he => ?_⟩
   rcases Nat.lt_or_ge e ns.length with z | z
   ·obtain ⟨r, r1, r2, r3⟩ := hr' e z
    have c1 := ne_of_none r3 hlf
    have r4 : (upd H' lf (.lst ((iv fs).map V.int))) r = _ := (upd_ne c1).trans r3
    have c2 := ne_of_none r4 hl2
    have r5 : (upd (upd H' lf (.lst ((iv fs).map V.int))) l2 (.lst [.ref lf])) r = _ := (upd_ne c2).trans r4
    refine ⟨r, by rw [List.getElem?_append_left (by omega)]; exact r1, ?_⟩
    rw [upd_ne (ne_of_none r5 hnr), r5]
    unfold nearX
    rw [if_pos z]
   ·have ei : e = ns.length := by omega
    subst ei
    refine ⟨lf, by rw [List.getElem?_append_right (by omega), hrs, Nat.sub_self]; rfl, ?_⟩
    rw [upd_ne nrF, upd_ne l2f, upd_same]
    unfold nearX
    rw [if_neg (Nat.lt_irrefl _)]
  generalize (upd (upd (upd H' lf (.lst ((iv fs).map V.int))) l2 (.lst [.ref lf])) nr (.lst (rs.map V.ref ++ [.ref lf]))) = H5 at sH NA ⊢
  have s5 := sH _ _ s1
  refine ⟨_, rfl, s, C, dx, _, rfl, s5, T.cl, T.nN, (by show 1 < 1000; decide), ?_⟩
  obtain ⟨rs5, q1, q2, q3⟩ := NA
  have nrs : nr ≠ s := ne_of q2 s5 (by intro z; cases z)
  have NA6 : ∀ o, NearAt (upd H5 s o) nr ns.length (nearX ns ss fs) := fun o => ⟨rs5, q1, by rw [upd_ne nrs]; exact q2, fun e he => by
   obtain ⟨r, r1, r2⟩ := q3 e he
   exact ⟨r, r1, by rw [upd_ne (ne_of r2 s5 (by intro z; cases z))]; exact r2⟩⟩
  refine ⟨_, rfl, s, C, dx, _, _, rfl, upd_same, T.cl, T.nA, rfl, _, _, rfl, rfl, ⟨by omega, by omega, by decide⟩, _, _, rfl, rfl, _, rfl, s, C, dx, _, rfl, upd_same, T.cl, T.nW, (by show 2 < 1000; decide), ?_⟩
  have ew : (1 * 2 ^ ((ns.length : Int)).toNat - 1 : Int) = ((2 ^ ns.length - 1 : Nat) : Int) := by
   rw [Int.one_mul, Int.toNat_natCast]
   have := Nat.one_le_two_pow (n := ns.length)
   rw [Int.natCast_sub this]
   simp
  refine q nr _ (fun c o hc ho => ?_) ?_ (by rw [upd_upd]; exact NA6 _)
  ·rw [upd_ne hc, upd_ne hc]
   exact sH _ _ (ex1 c o hc ho)
  ·rw [upd_same]
   show some (HO.ins C dx [("ahead", .int ns.length), ("near", .ref nr), ("whole", .int (1 * 2 ^ ((ns.length : Int)).toNat - 1))]) = _
   rw [ew]
   rfl
theorem scSteps : FnScope ["self", "left", "end"] ["self", "left", "end"] (defScope sSteps) := ⟨rfl, rfl, rfl, by decide +kernel, rfl, by decide +kernel, by decide +kernel⟩
theorem ok_steps (F : Fun K "steps" "Steps.steps" sSteps f fd) (T : SrT K C) : FnOk P w K mg base CX0 1 f fd ["self", "left", "end"] (spSteps C) := by
 refine F.ok scSteps (fun vs H Q E h => ?_) (fun cdv A outer s H vs Q E hr h => ?_)
 ·obtain ⟨s, dx, nr, fs, n, near, left, e, rfl, _⟩ := h
  rfl
 obtain ⟨s, dx, nr, fs, n, near, left, e, rfl, hs, hn, NA, N, he, hl, q⟩ := h
 refine ⟨_, (@pss_one _ _ _ (ps_ret (pe_comp ["place"] rfl (blk_ok (defScope sSteps) ["self", "left", "end"] rfl rfl (by decide +kernel)) (pi_list (pe_ix ix_list (pe_fld (pv 0) rfl) (pv 2) (fun _ _ => rfl))) (fun pins C fp s3 H3 => ⟨(pg_name (i := 0) (show (blkN ["place"] ["self", "left", "end"]).Nodup by decide +kernel) rfl (Or.inl rfl)), (pif_one (pt_valI (pe_op op_and (pv 2) (pe_op op_shl pe_int (pv 0))))), (pv 0)⟩)))), ?_⟩
 obtain ⟨rs, q1, q2, q3⟩ := NA
 obtain ⟨r, r1, r2⟩ := q3 e he
 have n10 := N.n10
 have hlen := near_len N he
 have hml : ((iv (near e)).map V.int).length = (near e).length := by rw [List.length_map, iv_len]
 refine ⟨_, rfl, s, C, dx, fs, _, rfl, hs, T.cl, T.nN, hn, _, rfl, nr, _, _, _, rfl, rfl, SqL.of q2, atI_nat (by rw [List.getElem?_map, r1]; rfl), r, rfl, ⟨_, SqL.of r2⟩, fun D hD => ?_⟩
 refine turns_list (σ := [some (.ref s), some (.int left), some (.int e)]) (xs := (iv (near e)).map V.int) (fun i => left.testBit ((near e).getD i 0)) (fun i => .int (((near e).getD i 0 : Nat) : Int)) (SqL.of r2) hD (by omega) (fun i H' hi g P hP => ?_) (fun i H' hi _ g P hP => ?_) fun H2 g2 e2 => ?_
 ·have hi' : i < (near e).length := by rw [hml] at hi; exact hi
  have ek : (near e)[i]? = some (near e)[i] := List.getElem?_eq_getElem hi'
  have e1 : ((iv (near e)).map V.int).getD i .non = .int (((near e)[i] : Nat) : Int) := by rw [List.getD_eq_getElem?_getD, nat_at ek]; rfl
  have e2 : (near e).getD i 0 = (near e)[i] := by rw [List.getD_eq_getElem?_getD, ek]; rfl
  have hk := N.lt e he _ (List.getElem_mem hi')
  rw [e1]
  refine ⟨_, rfl, _, rfl, _, _, rfl, rfl, ⟨by omega, by omega, by decide⟩, _, _, rfl, rfl, _, rfl, ?_⟩
  rw [bit_V left _ hl (by omega), ← e2]
  exact hP _ Same.rfl'
 ·have hi' : i < (near e).length := by rw [hml] at hi; exact hi
  have ek : (near e)[i]? = some (near e)[i] := List.getElem?_eq_getElem hi'
  have e1 : ((iv (near e)).map V.int).getD i .non = .int (((near e).getD i 0 : Nat) : Int) := by rw [List.getD_eq_getElem?_getD, nat_at ek, List.getD_eq_getElem?_getD, ek]; rfl
  rw [e1]
  exact ⟨_, rfl, hP _ Same.rfl'⟩
 ·refine q D H2 g2 hD ?_
  rw [e2, hml, iv_V, ← range_getD_filter (fun v => left.testBit v) 0 (near e), List.map_map]
  rfl
end
abbrev sIni : Stmt := inClass (top 28) 0
abbrev sCan : Stmt := inClass (top 28) 1
abbrev sFst : Stmt := inClass (top 28) 2
abbrev sFnd : Stmt := inClass (top 28) 3
abbrev sFrom : Stmt := top 29
structure SrT2 (K : PySem.W.Frag) (C : Addr) : Prop extends SrT K C where
 nL : NoAttr K C "last_places"
 nO : NoAttr K C "onward"
def optV : Option Nat → V
 | none => .non
 | some k => .int (k : Int)
def ky (l e : Nat) : List Key := [Sum.inl (l : Int), Sum.inl (e : Int)]
theorem ky_inj {l e l' e' : Nat} (h : ky l e = ky l' e') : l = l' ∧ e = e' := by
 unfold ky at h
 injection h with h1 h2
 injection h2 with h2 _
 have a := Sum.inl.inj h1
 have b := Sum.inl.inj h2
 omega
def kcode : List Key → Nat
 | [Sum.inl a, Sum.inl b] => a.toNat * 11 + b.toNat
 | _ => 0
section
variable (n : Nat) (near : Nat → List Nat) (ends : Nat → Bool)
structure Memo (kvs : List (List Key × V)) : Prop where
 nd : (kvs.map (·.1)).Nodup
 ok : ∀ kv ∈ kvs, ∃ l e, kv.1 = ky l e ∧ l ≠ 0 ∧ l < 2 ^ n ∧ e ≤ n ∧ kv.2 = optV (fst near ends l e)
 cl : ∀ l e k, (valV kvs (ky l e)).isSome = true → fst near ends l e = some k → l - 2 ^ k ≠ 0 → (valV kvs (ky (l - 2 ^ k) k)).isSome = true
variable {n near ends}
theorem memo_nil : Memo n near ends [] := ⟨List.nodup_nil, (fun _ h => nomatch h), (fun _ _ _ h => nomatch h)⟩
theorem val_mem {kvs : List (List Key × V)} {k : List Key} {v : V} (h : valV kvs k = some v) : (k, v) ∈ kvs := by
 unfold valV at h
 obtain ⟨p, hp, rfl⟩ := Option.map_eq_some_iff.mp h
 have h1 : p.1 = k := of_decide_eq_true (List.find?_some (p := fun kv : List Key × V => decide (kv.1 = k)) hp)
 have h2 := List.mem_of_find?_eq_some hp
 rw [← h1]
 exact h2
theorem Memo.val {kvs : List (List Key × V)} (M : Memo n near ends kvs) {l e : Nat} {v : V} (h : valV kvs (ky l e) = some v) : v = optV (fst near ends l e) := by
 obtain ⟨l', e', h1, _, _, _, h2⟩ := M.ok _ (val_mem h)
 obtain ⟨rfl, rfl⟩ := ky_inj h1
 exact h2
theorem Memo.len {kvs : List (List Key × V)} (M : Memo n near ends kvs) (hn : n ≤ 10) : kvs.length < sizeLine := by
 have hp : 2 ^ n ≤ 1024 := pow_le n (by omega)
 have hc : ∀ kv ∈ kvs, kcode kv.1 < 11264 := fun kv h => by
  obtain ⟨l, e, h1, _, h3, h4, _⟩ := M.ok kv h
  rw [h1]
  show ((l : Int)).toNat * 11 + ((e : Int)).toNat < 11264
  omega
 have hnd : (kvs.map fun kv => kcode kv.1).Nodup := by
  have h := M.nd
  unfold List.Nodup at h ⊢
  rw [List.pairwise_map] at h ⊢
  refine h.imp_of_mem fun {x y} hx hy hne he => hne ?_
  obtain ⟨l, e, h1, _, _, h4, _⟩ := M.ok x hx
  obtain ⟨l', e', h1', _, _, h4', _⟩ := M.ok y hy
  rw [h1, h1'] at he ⊢
  have he' : ((l : Int)).toNat * 11 + ((e : Int)).toNat = ((l' : Int)).toNat * 11 + ((e' : Int)).toNat := he
  have : l = l' ∧ e = e' := by omega
  rw [this.1, this.2]
 have h := pigeon 11264 _ hnd fun x hx => by
  obtain ⟨kv, h1, rfl⟩ := List.mem_map.mp hx
  exact hc kv h1
 rw [List.length_map] at h
 rw [sizeLine_eq]
 omega
theorem Memo.put {kvs : List (List Key × V)} (M : Memo n near ends kvs) {l e : Nat} (h0 : l ≠ 0) (hl : l < 2 ^ n) (he : e ≤ n) (hc : ∀ k, fst near ends l e = some k → l - 2 ^ k ≠ 0 → (valV kvs (ky (l - 2 ^ k) k)).isSome = true) :
  Memo n near ends (putK kvs (ky l e) (optV (fst near ends l e))) := by
 have hcl : ∀ l1 e1 k, (valV (putK kvs (ky l e) (optV (fst near ends l e))) (ky l1 e1)).isSome = true → fst near ends l1 e1 = some k → l1 - 2 ^ k ≠ 0 → (valV (putK kvs (ky l e) (optV (fst near ends l e))) (ky (l1 - 2 ^ k) k)).isSome = true := by
  intro l1 e1 k h1 h2 h3
  have hs : (valV kvs (ky (l1 - 2 ^ k) k)).isSome = true := by
   rw [valV_put] at h1
   by_cases z : ky l1 e1 = ky l e
   ·obtain ⟨rfl, rfl⟩ := ky_inj z
    exact hc k h2 h3
   ·rw [if_neg z] at h1
    exact M.cl l1 e1 k h1 h2 h3
  rw [valV_put]
  split
  ·rfl
  ·exact hs
 refine ⟨?_, ?_, hcl⟩
 ·cases hv : valV kvs (ky l e) with
  | none =>
   rw [putK_new _ hv, List.map_append]
   refine List.nodup_append.mpr ⟨M.nd, by simp, fun a ha b hb hab => ?_⟩
   have eb : b = ky l e := by simpa using hb
   subst eb
   subst hab
   obtain ⟨kv, h1, h2⟩ := List.mem_map.mp ha
   have h3 := valV_any (ky l e) kvs
   rw [hv] at h3
   have h4 : (kvs.any fun kv => decide (kv.1 = ky l e)) = true := List.any_eq_true.mpr ⟨kv, h1, decide_eq_true h2⟩
   rw [h4] at h3
   cases h3
  | some v =>
   unfold putK
   rw [valV_any, hv]
   rw [if_pos (show (some v).isSome = true from rfl), List.map_map]
   have : (kvs.map ((fun x : List Key × V => x.1) ∘ fun kv => if kv.1 = ky l e then (kv.1, optV (fst near ends l e)) else kv)) = kvs.map (·.1) := by
    refine List.map_congr_left fun kv _ => ?_
    show (if kv.1 = ky l e then (kv.1, optV (fst near ends l e)) else kv).1 = kv.1
    split <;> rfl
   rw [this]
   exact M.nd
 ·intro kv h
  unfold putK at h
  split at h
  ·obtain ⟨kv', h1, h2⟩ := List.mem_map.mp h
   by_cases z : kv'.1 = ky l e
   ·rw [if_pos z] at h2
    rw [← h2]
    exact ⟨l, e, z, h0, hl, he, rfl⟩
   ·rw [if_neg z] at h2
    rw [← h2]
    exact M.ok kv' h1
  ·rcases List.mem_append.mp h with z | z
   ·exact M.ok kv z
   ·have z : kv = (ky l e, optV (fst near ends l e)) := by simpa using z
    rw [z]
    exact ⟨l, e, rfl, h0, hl, he, rfl⟩
end
def Grow (kvs kvs' : List (List Key × V)) : Prop := ∀ k, (valV kvs k).isSome = true → (valV kvs' k).isSome = true
theorem Grow.refl {kvs : List (List Key × V)} : Grow kvs kvs := fun _ h => h
theorem Grow.trans {a b c : List (List Key × V)} (h : Grow a b) (g : Grow b c) : Grow a c := fun k z => g k (h k z)
theorem Grow.put {kvs : List (List Key × V)} {k : List Key} {v : V} : Grow kvs (putK kvs k v) := fun j h => by
 rw [valV_put]
 split
 ·rfl
 ·exact h
structure SP where
 n : Nat
 near : Nat → List Nat
 ends : Nat → Bool
 lasts : List Nat
 s : Addr
 dx : Addr
 nr : Addr
 lp : Addr
 ow : Addr
def SP.fs (p : SP) : List (Str × V) := [("ahead", .int p.n), ("near", .ref p.nr), ("whole", .int ((2 ^ p.n - 1 : Nat) : Int)), ("last_places", .ref p.lp), ("onward", .ref p.ow)]
structure Srch (C : Addr) (p : SP) (H : Hp) : Prop where
 at_ : H p.s = some (.ins C p.dx p.fs)
 nr : NearAt H p.nr p.n p.near
 lp : H p.lp = some (.lst ((iv p.lasts).map V.int))
 ok : NearOk p.near p.n
 le : ∀ e < p.n, p.lasts.contains e = p.ends e
def Known (p : SP) (H : Hp) (kvs : List (List Key × V)) : Prop := H p.ow = some (.dT kvs) ∧ Memo p.n p.near p.ends kvs
theorem Srch.ex {C : Addr} {p : SP} {H H' : Hp} {kvs : List (List Key × V)} (S : Srch C p H) (hk : H p.ow = some (.dT kvs)) (g : Ex (· = p.ow) H H') : Srch C p H' := by
 have ne : ∀ {b o}, H b = some o → (∀ kvs, o ≠ .dT kvs) → H' b = some o := fun {b o} h d => g b o (fun z => d kvs (by rw [z, hk] at h; exact (Option.some.inj h).symm)) h
 obtain ⟨rs, q1, q2, q3⟩ := S.nr
 exact ⟨ne S.at_ (fun _ z => by cases z), ⟨rs, q1, ne q2 (fun _ z => by cases z), fun e he => let ⟨r, a, b⟩ := q3 e he; ⟨r, a, ne b (fun _ z => by cases z)⟩⟩, ne S.lp (fun _ z => by cases z), S.ok, S.le⟩
theorem Srch.lt {C : Addr} {p : SP} {H : Hp} (S : Srch C p H) {left : Nat} (h : left < 2 ^ p.n) : left < 1024 := Nat.lt_of_lt_of_le h (pow_le _ (Nat.lt_succ_of_le S.ok.n10))
def spCan (C : Addr) (m : Nat) : Sp := fun vs H Q _ => ∃ (p : SP) (kvs : List (List Key × V)) (left e : Nat), vs = [.ref p.s, .int left, .int e] ∧ Srch C p H ∧ Known p H kvs ∧ left < 2 ^ p.n ∧ cnt left ≤ m ∧ e ≤ p.n ∧ (left = 0 → e < p.n) ∧
 ∀ (H' : Hp) (kvs' : List (List Key × V)), Ex (· = p.ow) H H' → Known p H' kvs' → Grow kvs kvs' → (left ≠ 0 → (valV kvs' (ky left e)).isSome = true) → Q (.bl (can p.near p.ends left e)) H'
def spFst (C : Addr) (m : Nat) : Sp := fun vs H Q _ => ∃ (p : SP) (kvs : List (List Key × V)) (left e : Nat), vs = [.ref p.s, .int left, .int e] ∧ Srch C p H ∧ Known p H kvs ∧ left < 2 ^ p.n ∧ left ≠ 0 ∧ cnt left ≤ m ∧ e ≤ p.n ∧
 ∀ (H' : Hp) (kvs' : List (List Key × V)), Ex (· = p.ow) H H' → Known p H' kvs' → Grow kvs kvs' → (∀ k, fst p.near p.ends left e = some k → left - 2 ^ k ≠ 0 → (valV kvs' (ky (left - 2 ^ k) k)).isSome = true) → Q (optV (fst p.near p.ends left e)) H'
theorem find_flt {p q : Nat → Bool} : ∀ l : List Nat, l.find? (fun k => p k && q k) = (l.filter p).find? q
 | [] => rfl
 | a :: r => by
  have ih := find_flt (p := p) (q := q) r
  cases hp : p a with
  | false => rw [List.find?_cons, List.filter_cons, hp, Bool.false_and, ih, if_neg Bool.false_ne_true]
  | true =>
   rw [List.find?_cons, List.filter_cons, hp, Bool.true_and, if_pos rfl, List.find?_cons]
   cases q a with
   | false => exact ih
   | true => rfl
theorem find_at {q : Nat → Bool} : ∀ {l : List Nat} {i k : Nat}, l[i]? = some k → q k = true → (∀ j < i, ∀ x, l[j]? = some x → q x = false) → l.find? q = some k
 | [], _, _, h, _, _ => nomatch h
 | a :: r, 0, k, h, hq, _ => by
  have e : a = k := Option.some.inj h
  rw [List.find?_cons, e, hq]
 | a :: r, i + 1, k, h, hq, hj => by
  rw [List.find?_cons, hj 0 (Nat.succ_pos _) a rfl]
  exact find_at (l := r) (i := i) h hq fun j hj' x hx => hj (j + 1) (Nat.succ_lt_succ hj') x hx
section
variable {f g1 g2 g3 C C0 : Addr} {mc : Value} {fd gd1 gd2 gd3 : FuncData}
theorem scCan : FnScope ["self", "left", "end", "key"] ["self", "left", "end"] (defScope sCan) := ⟨rfl, rfl, rfl, by decide +kernel, rfl, by decide +kernel, by decide +kernel⟩
theorem ok_can {j m : Nat} (F : Fun K "can_end" "Search.can_end" sCan f fd) (T : SrT2 K C) (mF : Meth K C "first_step" g1)
  (GF : FnOk P w K mg base CX0 j g1 gd1 ["self", "left", "end"] (spFst C m)) (bF : Binds K gd1 ["self", "left", "end"] []) : FnOk P w K mg base CX0 (j + 1) f fd ["self", "left", "end"] (spCan C m) := by
 refine F.ok scCan (fun vs H Q E h => ?_) (fun cdv A outer s H vs Q E hr h => ?_)
 ·obtain ⟨p, kvs, left, e, rfl, _⟩ := h
  rfl
 obtain ⟨p, kvs, left, e, rfl, S, hd, hl, hc, he, h0, q⟩ := h
 have hu := hu_of hr
 refine ⟨_, (@pss_cons _ _ _ _ _ (ps_if (pt_cmpR op_eq (pv 1) pe_int (nomark _)) (@pss_one _ _ _ (ps_ret (pe_cmpR (op_inI K) (pv 2) (pe_fld (pv 0) rfl) rfl))) pss_nil) (@pss_cons _ _ _ _ _ (ps_set (i := 3) scCan.nd rfl (Or.inl rfl) (pe_tup (pa_cons (pv 1) (pa_cons (pv 2) pa_nil)))) (@pss_cons _ _ _ _ _ (ps_if (pt_cmp (pc_dnotin hu (pv 3) (pe_fld (pv 0) rfl))) (@pss_one _ _ _ (ps_dput hu (pe_fld (pv 0) rfl) (pv 3) (pe_meth (pv 0) T.cl mF GF hr bF .nil pass0 (pa_cons (pv 1) (pa_cons (pv 2) pa_nil))) rfl)) pss_nil) (@pss_one _ _ _ (ps_ret (pe_cmpR op_notN (pe_dget hu (pe_fld (pv 0) rfl) (pv 3) (fun _ _ => rfl)) pe_non (nomark _))))))), ?_⟩
 refine ⟨_, rfl, rfl, _, rfl, ite2 (fun c => ?_) (fun c => ?_)⟩
 ·have el : left = 0 := by
   have z := V.int.inj (of_decide_eq_true c)
   omega
  subst el
  refine ⟨_, rfl, _, rfl, p.s, C, p.dx, p.fs, _, rfl, S.at_, T.cl, T.nL, rfl, p.lp, _, _, rfl, rfl, SqL.of S.lp, ?_⟩
  have z := q H kvs Ex.refl hd Grow.refl (fun z => absurd rfl z)
  rw [can_zero, ← S.le e (h0 rfl), ← iv_contains] at z
  exact z
 ·have el : left ≠ 0 := fun z => c (decide_eq_true (by rw [z]; rfl))
  refine ⟨_, rfl, _, rfl, two_le, fun kt hkt => ?_⟩
  have g1 : Same H (upd H kt (.tup [.int (left : Int), .int (e : Int)])) := Same.new hkt _
  have S1 : Srch C p (upd H kt (.tup [.int (left : Int), .int (e : Int)])) := S.ex hd.1 (Ex.same g1)
  have hd1 : Known p (upd H kt (.tup [.int (left : Int), .int (e : Int)])) kvs := ⟨g1 _ _ hd.1, hd.2⟩
  have hk1 : (upd H kt (.tup [.int (left : Int), .int (e : Int)])) kt = some (.tup ((ky left e).map kV)) := upd_same
  have ex1 : Ex (· = p.ow) H (upd H kt (.tup [.int (left : Int), .int (e : Int)])) := Ex.same g1
  generalize upd H kt (.tup [.int (left : Int), .int (e : Int)]) = H1 at S1 hd1 hk1 ex1 ⊢
  refine ⟨_, rfl, _, rfl, p.s, C, p.dx, p.fs, _, rfl, S1.at_, T.cl, T.nO, rfl, p.ow, _, rfl, DGet.t hd1.1 hk1, _, rfl, ite2 (fun c2 => ?_) (fun c2 => ?_)⟩
  ·refine ⟨_, rfl, p.s, p.dx, p.fs, rfl, S1.at_, rfl, _, rfl, _, rfl, p, kvs, left, e, rfl, S1, hd1, hl, el, hc, he, fun H2 kvs2 ex2 hd2 gr2 cl2 => ?_⟩
   have S2 := S1.ex hd1.1 ex2
   have hk2 : H2 kt = some (.tup ((ky left e).map kV)) := ex2 _ _ (ne_of hk1 hd1.1 (by intro z; cases z)) hk1
   refine ⟨_, rfl, p.s, C, p.dx, p.fs, _, rfl, S2.at_, T.cl, T.nO, rfl, _, rfl, p.ow, _, rfl, DPut.t hd2.1 hk2 (hd2.2.len S.ok.n10), ?_⟩
   have M3 := hd2.2.put el hl he cl2
   have ex3 : Ex (· = p.ow) H2 (upd H2 p.ow (.dT (putK kvs2 (ky left e) (optV (fst p.near p.ends left e))))) := Ex.put _ rfl
   have S3 := S2.ex hd2.1 ex3
   have hk3 := ex3 _ _ (ne_of hk2 hd2.1 (by intro z; cases z)) hk2
   refine ⟨_, rfl, p.s, C, p.dx, p.fs, _, rfl, S3.at_, T.cl, T.nO, rfl, _, rfl, p.ow, _, rfl, by have z := DGet.t (upd_same (H := H2) (a := p.ow) (o := .dT (putK kvs2 (ky left e) (optV (fst p.near p.ends left e))))) hk3; rw [valV_put, if_pos rfl] at z; exact z, rfl, ?_⟩
   have z := q _ _ ((ex1.trans ex2).trans ex3) ⟨upd_same, M3⟩ (gr2.trans Grow.put) (fun _ => by rw [valV_put, if_pos rfl]; rfl)
   rw [can_fst S.ok (S.lt hl) el he] at z
   cases ef : fst p.near p.ends left e with
   | none => rw [ef] at z; exact z
   | some k => rw [ef] at z; exact z
  ·cases ev : valV kvs (ky left e) with
   | none => rw [ev] at c2; exact absurd rfl c2
   | some v =>
    have hv := hd.2.val ev
    refine ⟨_, rfl, p.s, C, p.dx, p.fs, _, rfl, S1.at_, T.cl, T.nO, rfl, _, rfl, p.ow, _, rfl, by have z := DGet.t hd1.1 hk1; rw [ev] at z; exact z, rfl, ?_⟩
    have z := q _ _ ex1 hd1 Grow.refl (fun _ => by rw [ev]; rfl)
    rw [can_fst S.ok (S.lt hl) el he] at z
    rw [hv]
    cases ef : fst p.near p.ends left e with
    | none => rw [ef] at z; exact z
    | some k => rw [ef] at z; exact z
theorem scFst : FnScope ["self", "left", "end", "place"] ["self", "left", "end"] (defScope sFst) := ⟨rfl, rfl, rfl, by decide +kernel, rfl, by decide +kernel, by decide +kernel⟩
theorem ok_fst {j m : Nat} (F : Fun K "first_step" "Search.first_step" sFst f fd) (T : SrT2 K C) (mS : Meth K C "steps" g1) (mC : Meth K C "can_end" g2)
  (GS : FnOk P w K mg base CX0 j g1 gd1 ["self", "left", "end"] (spSteps C)) (bS : Binds K gd1 ["self", "left", "end"] [])
  (GC : FnOk P w K mg base CX0 j g2 gd2 ["self", "left", "end"] (spCan C m)) (bC : Binds K gd2 ["self", "left", "end"] []) : FnOk P w K mg base CX0 (j + 1) f fd ["self", "left", "end"] (spFst C (m + 1)) := by
 refine F.ok scFst (fun vs H Q E h => ?_) (fun cdv A outer s H vs Q E hr h => ?_)
 ·obtain ⟨p, kvs, left, e, rfl, _⟩ := h
  rfl
 obtain ⟨p, kvs, left, e, rfl, S, hd, hl, h0, hc, he, q⟩ := h
 refine ⟨_, (@pss_cons _ _ _ _ _ (ps_for PassesOwn.never rfl (pi_list (pe_meth (pv 0) T.cl mS GS hr bS .nil pass0 (pa_cons (pv 1) (pa_cons (pv 2) pa_nil)))) (pg_name (i := 3) scFst.nd rfl (Or.inl rfl)) (@pss_one _ _ _ (ps_if (pt_val (pe_meth (pv 0) T.cl mC GC hr bC .nil pass0 (pa_cons (pe_op op_sub (pv 1) (pe_op op_shl pe_int (pv 3))) (pa_cons (pv 3) pa_nil)))) (@pss_one _ _ _ (ps_ret (pv 3))) pss_nil))) (@pss_one _ _ _ (ps_ret pe_non))), ?_⟩
 have hl' := S.lt hl
 have n10 := S.ok.n10
 refine ⟨_, rfl, p.s, p.dx, p.fs, rfl, S.at_, rfl, _, rfl, _, rfl, p.s, p.dx, p.nr, p.fs, p.n, p.near, left, e, rfl, S.at_, rfl, S.nr, S.ok, he, hl', fun l H1 g1 hln e1 => ⟨l, rfl, ⟨_, SqL.of e1⟩, ?_⟩⟩
 have hd1 : Known p H1 kvs := ⟨g1 _ _ hd.1, hd.2⟩
 have lo : l ≠ p.ow := fun z => by rw [z, hd.1] at hln; cases hln
 have elen : ((iv ((p.near e).filter fun k => left.testBit k)).map V.int).length = ((p.near e).filter fun k => left.testBit k).length := by rw [List.length_map, iv_len]
 refine for_list (xs := (iv ((p.near e).filter fun k => left.testBit k)).map V.int) (fun i σ H' => ∃ (y : Option V) (kvs' : List (List Key × V)), σ = [some (.ref p.s), some (.int left), some (.int e), y] ∧ Ex (· = p.ow) H H' ∧ H' l = some (.lst ((iv ((p.near e).filter fun k => left.testBit k)).map V.int)) ∧ Known p H' kvs' ∧ Grow kvs kvs' ∧
  ∀ i' < i, ∀ k, ((p.near e).filter fun k => left.testBit k)[i']? = some k → can p.near p.ends (left - 2 ^ k) k = false)
  ⟨none, kvs, rfl, Ex.same g1, e1, hd1, Grow.refl, fun i' hi' => absurd hi' (Nat.not_lt_zero _)⟩ (fun i σ H' _ ⟨_, _, _, _, e2, _⟩ => SqL.of e2) ?_ ?_
 ·rintro i x σ H' hx ⟨y, kvs', rfl, ex, e2, hk', gr, hno⟩
  obtain ⟨k, hk, rfl⟩ := at_nat hx
  have hm : k ∈ (p.near e).filter fun k => left.testBit k := List.mem_of_getElem? hk
  obtain ⟨hm1, hb⟩ := List.mem_filter.mp hm
  have hkn := S.ok.lt e he k hm1
  have S' := S.ex hd.1 ex
  have hdec := cnt_dec left hl' k (by omega) hb
  refine ⟨_, rfl, p.s, p.dx, p.fs, rfl, S'.at_, rfl, _, rfl, _, rfl, _, _, rfl, rfl, ⟨by omega, by omega, by decide⟩, _, _, rfl, rfl, _, rfl, ?_⟩
  refine ⟨p, kvs', left - 2 ^ k, k, congrArg (fun x => [V.ref p.s, V.int x, V.int (k : Int)]) (sub_V left k (bit_le hb)), S', hk', by omega, by omega, by omega, fun _ => hkn, fun H2 kvs2 ex2 hd2 gr2 pr2 => ⟨_, rfl, ite2 (fun c => ?_) (fun c => ?_)⟩⟩
  ·refine ⟨_, rfl, ?_⟩
   have ef : fst p.near p.ends left e = some k := by
    unfold fst
    rw [find_flt]
    exact find_at hk c fun i' hi' k' hk' => hno i' hi' k' hk'
   have z := q H2 kvs2 (ex.trans ex2) hd2 (gr.trans gr2) (fun k' hk' hne => by rw [ef] at hk'; cases hk'; exact pr2 hne)
   rw [ef] at z
   exact z
  ·refine ⟨_, kvs2, rfl, ex.trans ex2, ex2 _ _ lo e2, hd2, gr.trans gr2, fun i' hi' k' hk' => ?_⟩
   rcases Nat.lt_or_ge i' i with z | z
   ·exact hno i' z k' hk'
   ·have ei : i' = i := by omega
    subst ei
    rw [hk] at hk'
    cases hk'
    exact Bool.eq_false_iff.mpr c
 ·rintro σ H' ⟨y, kvs', rfl, ex, e2, hk', gr, hno⟩
  have ef : fst p.near p.ends left e = none := by
   unfold fst
   rw [find_flt]
   refine List.find?_eq_none.mpr fun k hk hc' => ?_
   obtain ⟨i', hi', e'⟩ := List.mem_iff_getElem.mp hk
   have z := hno i' (by rw [elen]; exact hi') k (by rw [List.getElem?_eq_getElem hi', e'])
   rw [z] at hc'
   cases hc'
  have z := q H' kvs' ex hk' gr (fun k' hk' => by rw [ef] at hk'; cases hk')
  rw [ef] at z
  exact z
theorem ok_both {ca fs sf : Addr} {cd fsd sfd : FuncData} (FC : Fun K "can_end" "Search.can_end" sCan ca cd) (FF : Fun K "first_step" "Search.first_step" sFst fs fsd) (T : SrT2 K C) (mC : Meth K C "can_end" ca) (mF : Meth K C "first_step" fs) (mS : Meth K C "steps" sf)
  (GS : FnOk P w K mg base CX0 1 sf sfd ["self", "left", "end"] (spSteps C)) (bS : Binds K sfd ["self", "left", "end"] []) (bC : Binds K cd ["self", "left", "end"] []) (bF : Binds K fsd ["self", "left", "end"] []) :
  ∀ m : Nat, FnOk P w K mg base CX0 (2 * m + 2) ca cd ["self", "left", "end"] (spCan C m)
 | 0 => ok_can (j := 1) FC T mF ⟨fun vs H Q E h => by obtain ⟨p, kvs, left, e, rfl, _⟩ := h; rfl, fun A outer s H args us vs Q E _ _ _ _ h => by
   obtain ⟨p, kvs, left, e, _, S, _, hl, h0, hc, _⟩ := h
   exact absurd (cnt_zero left (S.lt hl) (Nat.le_zero.mp hc)) h0⟩ bF
 | m + 1 => by
  have GC := ok_both FC FF T mC mF mS GS bS bC bF m
  have GF := ok_fst (j := 2 * m + 2) FF T mS mC (GS.mono (by omega)) bS GC bC
  exact ok_can (j := 2 * m + 3) FC T mF GF bF
def spFnd (C : Addr) : Sp := fun vs H Q _ => ∃ (p : SP) (kvs : List (List Key × V)), vs = [.ref p.s] ∧ Srch C p H ∧ Known p H kvs ∧ 1 ≤ p.n ∧ can p.near p.ends (2 ^ p.n - 1) p.n = true ∧ (valV kvs (ky (2 ^ p.n - 1) p.n)).isSome = true ∧
 ∀ (l : Addr) (H' : Hp), Same H H' → H l = none → H' l = some (.lst ((iv (path p.near p.ends (2 ^ p.n - 1) p.n)).map V.int)) → Q (.ref l) H'
theorem scFnd : FnScope ["self", "places", "left", "end"] ["self"] (defScope sFnd) := ⟨rfl, rfl, rfl, by decide +kernel, rfl, by decide +kernel, by decide +kernel⟩
theorem ok_fnd (F : Fun K "found_places" "Search.found_places" sFnd f fd) (T : SrT2 K C) : FnOk P w K mg base CX0 1 f fd ["self"] (spFnd C) := by
 refine F.ok scFnd (fun vs H Q E h => ?_) (fun cdv A outer s H vs Q E hr h => ?_)
 ·obtain ⟨p, kvs, rfl, _⟩ := h
  rfl
 obtain ⟨p, kvs, rfl, S, hd, n1, hcan, hkey, q⟩ := h
 have hu := hu_of hr
 refine ⟨_, (@pss_cons _ _ _ _ _ (ps_set (i := 1) scFnd.nd rfl (Or.inl rfl) (pe_lst pa_nil)) (@pss_cons _ _ _ _ _ (ps_set (i := 2) scFnd.nd rfl (Or.inl rfl) (pe_fld (pv 0) rfl)) (@pss_cons _ _ _ _ _ (ps_set (i := 3) scFnd.nd rfl (Or.inl rfl) (pe_fld (pv 0) rfl)) (@pss_cons _ _ _ _ _ (ps_while PassesOwn.never (pt_valI (pv 2)) (@pss_cons _ _ _ _ _ (ps_set (i := 3) scFnd.nd rfl (Or.inl rfl) (pe_dget hu (pe_fld (pv 0) rfl) (pe_tup (pa_cons (pv 2) (pa_cons (pv 3) pa_nil))) (fun _ _ => rfl))) (@pss_cons _ _ _ _ _ (ps_expr (pe_bm PySem.F.plainAttrs_list PySem.F.slot_list_append PySem.F.type_list_append mt_append (pv 1) (pa_cons (pv 3) pa_nil))) (@pss_one _ _ _ (ps_set (i := 2) scFnd.nd rfl (Or.inl rfl) (pe_op op_sub (pv 2) (pe_op op_shl pe_int (pv 3)))))))) (@pss_one _ _ _ (ps_ret (pv 1))))))), ?_⟩
 refine ⟨by decide, fun l hln => ?_⟩
 have g1 : Same H (upd H l (.lst [])) := Same.new hln _
 have lo : l ≠ p.ow := fun z => by rw [z, hd.1] at hln; cases hln
 refine ⟨_, rfl, p.s, C, p.dx, p.fs, _, rfl, g1 _ _ S.at_, T.cl, T.nW, rfl, _, rfl, p.s, C, p.dx, p.fs, _, rfl, g1 _ _ S.at_, T.cl, T.nA, rfl, ?_⟩
 have hp2 : 2 ^ p.n - 1 < 2 ^ p.n := Nat.sub_lt (Nat.two_pow_pos _) (by decide)
 dsimp only [gName, tSeq]
 refine while_by2 (fun σ H' => ∃ (pre : List Nat) (left e : Nat), σ = [some (.ref p.s), some (.ref l), some (.int left), some (.int e)] ∧ Same H H' ∧ H' l = some (.lst ((iv pre).map V.int)) ∧ left < 2 ^ p.n ∧ e ≤ p.n ∧ pre.length + cnt left ≤ 10 ∧
   (left ≠ 0 → can p.near p.ends left e = true ∧ (valV kvs (ky left e)).isSome = true) ∧ pre ++ path p.near p.ends left e = path p.near p.ends (2 ^ p.n - 1) p.n)
  (fun σ _ => slotN 2 σ) ⟨[], 2 ^ p.n - 1, p.n, rfl, g1, upd_same, hp2, Nat.le_refl _, by have := cnt_le _ (S.lt hp2); simpa using this, fun _ => ⟨hcan, hkey⟩, rfl⟩ ?_
 rintro σ H' ⟨pre, left, e, rfl, g, hl, hlt, he, hlen, hgo, hpath⟩
 have hl' := S.lt hlt
 refine ⟨_, rfl, _, rfl, ite2 (fun c => ?_) (fun c => ?_)⟩
 ·have h0 : left ≠ 0 := fun z => by subst z; exact absurd c (by decide)
  obtain ⟨hc, hk⟩ := hgo h0
  have S' : Srch C p H' := S.ex hd.1 (Ex.same g)
  cases ef : fst p.near p.ends left e with
  | none =>
   rw [can_fst S.ok hl' h0 he, ef] at hc
   cases hc
  | some k =>
   obtain ⟨hkn, hb, hc2⟩ := fst_some S.ok he ef
   have n10 := S.ok.n10
   have hdec := cnt_dec left hl' k (by omega) hb
   obtain ⟨v, hv⟩ := Option.isSome_iff_exists.mp hk
   have hv2 := hd.2.val hv
   rw [ef] at hv2
   subst hv2
   refine next_by (H := H') (μ := fun σ _ => slotN 2 σ) ?_
   refine ⟨_, rfl, p.s, C, p.dx, p.fs, _, rfl, S'.at_, T.cl, T.nO, rfl, _, rfl, _, rfl, two_le, fun kt hkt => ?_⟩
   have g2 : Same H' (upd H' kt (.tup [.int (left : Int), .int (e : Int)])) := Same.new hkt _
   have hk1 : (upd H' kt (.tup [.int (left : Int), .int (e : Int)])) kt = some (.tup ((ky left e).map kV)) := upd_same
   generalize upd H' kt (.tup [.int (left : Int), .int (e : Int)]) = H2 at g2 hk1 ⊢
   have hl2 := g2 _ _ hl
   refine ⟨p.ow, _, rfl, by have z := DGet.t (g2 _ _ (g _ _ hd.1)) hk1; rw [hv] at z; exact z, ?_⟩
   refine ⟨_, rfl, .inl ⟨rfl, _, SqL.of hl2⟩, _, rfl, l, _, _, rfl, rfl, hl2, small1000 (by rw [List.length_map, iv_len]; omega), ?_⟩
   refine ⟨_, rfl, _, rfl, _, _, rfl, rfl, ⟨by show (0 : Int) ≤ (k : Int); omega, by show (k : Int) ≤ 1000000; omega, by decide⟩, _, _, rfl, rfl, ?_⟩
   refine ⟨⟨pre ++ [k], left - 2 ^ k, k, ?_, fun b o hb' => ?_, ?_, by omega, by omega, ?_, fun hne => ⟨hc2, hd.2.cl left e k hk ef hne⟩, ?_⟩, ?_⟩
   ·rw [← sub_V left k (bit_le hb)]
    rfl
   ·rw [upd_ne (ne_of_none hb' hln)]
    exact g2 _ _ (g _ _ hb')
   ·rw [upd_same, iv_V, iv_V, List.map_append]
    rfl
   ·rw [List.length_append]
    show pre.length + 1 + cnt (left - 2 ^ k) ≤ 10
    omega
   ·rw [← hpath, path_succ S.ok hl' he ef, List.append_assoc]
    rfl
   ·show ((left : Int) - 1 * 2 ^ ((k : Int)).toNat).toNat < ((left : Int)).toNat
    rw [sub_V left k (bit_le hb)]
    omega
 ·have h0 : left = 0 := by
   rcases Nat.eq_zero_or_pos left with z | z
   ·exact z
   ·exact absurd (show (((left : Nat) : Int) != 0) = true from bne_iff_ne.mpr (by omega)) c
  subst h0
  rw [path_zero, List.append_nil] at hpath
  subst hpath
  exact ⟨_, rfl, q l H' g hln hl⟩
end
def spIni (C : Addr) : Sp := fun vs H Q _ => ∃ (s t a b fp lp dx : Addr) (ns ss : List Int) (fs ls : List Nat), vs = [.ref s, .ref t, .ref fp, .ref lp] ∧ H s = some (.ins C dx []) ∧ IsPl H t a b ns ss ∧ H fp = some (.lst ((iv fs).map V.int)) ∧ H lp = some (.lst ((iv ls).map V.int)) ∧
 ∀ (nr lq ow : Addr) (H' : Hp), Ex (· = s) H H' → H ow = none → H' s = some (.ins C dx [("ahead", .int ns.length), ("near", .ref nr), ("whole", .int ((2 ^ ns.length - 1 : Nat) : Int)), ("last_places", .ref lq), ("onward", .ref ow)]) →
  NearAt H' nr ns.length (nearX ns ss fs) → H' lq = some (.lst ((iv ls).map V.int)) → H' ow = some (.dT []) → Q .non H'
def spFrom : Sp := fun vs H Q _ => ∃ (t a b fp lp : Addr) (ns ss : List Int) (fs ls : List Nat) (ends : Nat → Bool), vs = [.ref t, .ref fp, .ref lp] ∧ IsPl H t a b ns ss ∧ H fp = some (.lst ((iv fs).map V.int)) ∧ H lp = some (.lst ((iv ls).map V.int)) ∧
 (∀ k ∈ fs, k < ns.length) ∧ fs.Pairwise (· < ·) ∧ (∀ e < ns.length, ls.contains e = ends e) ∧
 (can (nearX ns ss fs) ends (2 ^ ns.length - 1) ns.length = false → ∀ H', Same H H' → Q .non H') ∧
 (can (nearX ns ss fs) ends (2 ^ ns.length - 1) ns.length = true → ∀ (l : Addr) (H' : Hp), Same H H' → H l = none → H' l = some (.lst (((path (nearX ns ss fs) ends (2 ^ ns.length - 1) ns.length).map fun k => ns.getD k 0).map V.int)) → Q (.ref l) H')
section
variable {f g1 g2 g3 g4 C C0 : Addr} {mc : Value} {fd gd1 gd2 gd3 gd4 : FuncData}
theorem scIni : FnScope ["self", "plan", "first_places", "last_places"] ["self", "plan", "first_places", "last_places"] (defScope sIni) := ⟨rfl, rfl, rfl, by decide +kernel, rfl, by decide +kernel, by decide +kernel⟩
theorem ok_ini (F : Fun K "__init__" "Search.__init__" sIni f fd) (B : Bt3 mg) (T : SrT2 K C) (BI : Base K C0 mc "__init__" g1) (mI : mg "Steps" = some (.ref C0))
  (GI : FnOk P w K mg base CX0 3 g1 gd1 ["self", "plan", "first_places"] (spIni0 C)) (bI : Binds K gd1 ["self", "plan", "first_places"] []) : FnOk P w K mg base CX0 4 f fd ["self", "plan", "first_places", "last_places"] (spIni C) := by
 refine F.ok scIni (fun vs H Q E h => ?_) (fun cdv A outer s H vs Q E hr h => ?_)
 ·obtain ⟨s, t, a, b, fp, lp, dx, ns, ss, fs, ls, rfl, _⟩ := h
  rfl
 obtain ⟨s, t, a, b, fp, lp, dx, ns, ss, fs, ls, rfl, hs, pl, hfp, hlp, q⟩ := h
 refine ⟨_, (@pss_cons _ _ _ _ _ (ps_expr (pe_base BI GI hr rfl mI bI .nil pass0 (pa_cons (pv 0) (pa_cons (pv 1) (pa_cons (pv 2) pa_nil))))) (@pss_cons _ _ _ _ _ (ps_fld (pv 0) (pe_callTy call_list_of rfl B.list PyProof.Rows.boot_list (pa_cons (pv 3) pa_nil)) rfl) (@pss_one _ _ _ (ps_fld (pv 0) pe_dnewT rfl)))), ?_⟩
 refine ⟨_, rfl, _, rfl, _, rfl, s, t, a, b, fp, dx, ns, ss, fs, rfl, hs, pl, hfp, fun nr H1 ex1 s1 na1 => ?_⟩
 have lps : lp ≠ s := ne_of hlp hs (by intro z; cases z)
 have lp1 := ex1 _ _ lps hlp
 refine ⟨_, rfl, lp, _, rfl, .inl (SqL.of lp1), fun lq hlq => ?_⟩
 have g2 : Same H1 (upd H1 lq (.lst ((iv ls).map V.int))) := Same.new hlq _
 refine ⟨_, rfl, s, C, dx, _, rfl, g2 _ _ s1, T.cl, T.nL, (by show 3 < 1000; decide), ?_⟩
 refine fun ow how => ?_
 have sq : s ≠ lq := ne_of_none s1 hlq
 have ow_s : ow ≠ s := fun z => by rw [z, upd_same] at how; cases how
 have ow_q : ow ≠ lq := fun z => by rw [z, upd_ne sq.symm, upd_same] at how; cases how
 have how1 : H1 ow = none := by rwa [upd_ne ow_s, upd_ne ow_q] at how
 refine ⟨_, rfl, s, C, dx, _, rfl, by rw [upd_ne (Ne.symm ow_s)]; exact upd_same, T.cl, T.nO, (by show 4 < 1000; decide), ?_⟩
 obtain ⟨rs, q1, q2, q3⟩ := na1
 have st : ∀ {c : Addr} {o : HO}, c ≠ s → H1 c = some o → ∀ {o1 o2}, (upd (upd (upd (upd H1 lq (.lst ((iv ls).map V.int))) s o1) ow (.dT [])) s o2) c = some o := fun {c o} hc h {o1 o2} => by
  rw [upd_ne hc, upd_ne (ne_of_none h how1), upd_ne hc, upd_ne (ne_of_none h hlq)]
  exact h
 refine q nr lq ow _ (fun c o hc ho => st hc (ex1 c o hc ho)) ?_ ?_ ⟨rs, q1, st (ne_of q2 s1 (by intro z; cases z)) q2, fun e he => let ⟨r, r1, r2⟩ := q3 e he; ⟨r, r1, st (ne_of r2 s1 (by intro z; cases z)) r2⟩⟩ ?_ ?_
 ·cases e : H ow with
  | none => rfl
  | some o => rw [ex1 _ _ ow_s e] at how1; cases how1
 ·rw [upd_same]
  rfl
 ·rw [upd_ne (Ne.symm sq), upd_ne (Ne.symm ow_q), upd_ne (Ne.symm sq), upd_same]
 ·rw [upd_ne ow_s, upd_same]
theorem scFrom : FnScope ["plan", "first_places", "last_places", "search"] ["plan", "first_places", "last_places"] (defScope sFrom) := ⟨rfl, rfl, rfl, by decide +kernel, rfl, by decide +kernel, by decide +kernel⟩
theorem ok_from (F : Fun K "first_from" "first_from" sFrom f fd) (T : SrT2 K C) (MS : Mk K C g1) (mS : mg "Search" = some (.ref C)) (mC : Meth K C "can_end" g2) (mF : Meth K C "found_places" g3)
  (GI : FnOk P w K mg base CX0 21 g1 gd1 ["self", "plan", "first_places", "last_places"] (spIni C)) (bI : Binds K gd1 ["self", "plan", "first_places", "last_places"] [])
  (GC : FnOk P w K mg base CX0 22 g2 gd2 ["self", "left", "end"] (spCan C 10)) (bC : Binds K gd2 ["self", "left", "end"] [])
  (GF : FnOk P w K mg base CX0 22 g3 gd3 ["self"] (spFnd C)) (bF : Binds K gd3 ["self"] [])
  (GN : FnOk P w K mg base CX0 22 g4 gd4 ["plan", "places"] spNums) (bN : Binds K gd4 ["plan", "places"] []) (kN : Kee K g4) (mN : mg "numbers_at" = some (.ref g4)) : FnOk P w K mg base CX0 23 f fd ["plan", "first_places", "last_places"] spFrom := by
 refine F.ok scFrom (fun vs H Q E h => ?_) (fun cdv A outer s H vs Q E hr h => ?_)
 ·obtain ⟨t, a, b, fp, lp, ns, ss, fs, ls, ends, rfl, _⟩ := h
  rfl
 obtain ⟨t, a, b, fp, lp, ns, ss, fs, ls, ends, rfl, pl, hfp, hlp, h1, h2, h3, qn, qs⟩ := h
 refine ⟨_, (@pss_cons _ _ _ _ _ (ps_set (i := 3) scFrom.nd rfl (Or.inl rfl) (pe_make MS GI hr rfl mS bI .nil pass0 (pa_cons (pv 0) (pa_cons (pv 1) (pa_cons (pv 2) pa_nil))))) (@pss_cons _ _ _ _ _ (ps_if (pt_not (pt_val (pe_meth (pv 3) T.cl mC GC hr bC .nil pass0 (pa_cons (pe_fld (pv 3) rfl) (pa_cons (pe_fld (pv 3) rfl) pa_nil))))) (@pss_one _ _ _ (ps_ret pe_non)) pss_nil) (@pss_one _ _ _ (ps_ret (pe_call GN hr rfl mN kN bN .nil pass0 (pa_cons (pv 0) (pa_cons (pe_meth0 (pv 3) T.cl mF GF hr bF .nil pass0) pa_nil))))))), ?_⟩
 refine ⟨_, rfl, _, rfl, _, rfl, fun x dx nx ndx nex => ?_⟩
 have g2 : Same H (upd (upd H dx (.own x)) x (.ins C dx [])) := fun c o hc => by
  rw [upd_ne (ne_of_none hc nx), upd_ne (ne_of_none hc ndx)]; exact hc
 refine ⟨x, t, a, b, fp, lp, dx, ns, ss, fs, ls, rfl, upd_same, pl.same g2, g2 _ _ hfp, g2 _ _ hlp, fun nr lq ow H3 ex3 how s3 na3 lq3 ow3 => ⟨rfl, ?_⟩⟩
 have how' : H ow = none := none_of_same g2 how
 have g3 : Same H H3 := fun c o hc => ex3 c o (ne_of_none hc nx) (g2 _ _ hc)
 have n1 := pl.ok.n1
 have n2 := pl.ok.n2
 have p2 : 2 ≤ 2 ^ ns.length := Nat.pow_le_pow_right (n := 2) (by decide) n1
 have hw : 2 ^ ns.length - 1 < 2 ^ ns.length := by omega
 have S3 : Srch C ⟨ns.length, nearX ns ss fs, ends, ls, x, dx, nr, lq, ow⟩ H3 := ⟨s3, na3, lq3, near_ok pl.ok h1 h2, h3⟩
 refine ⟨_, rfl, x, dx, _, rfl, s3, rfl, _, rfl, x, C, dx, _, _, rfl, s3, T.cl, T.nW, rfl, _, rfl, x, C, dx, _, _, rfl, s3, T.cl, T.nA, rfl, ?_⟩
 refine ⟨⟨ns.length, nearX ns ss fs, ends, ls, x, dx, nr, lq, ow⟩, [], 2 ^ ns.length - 1, ns.length, rfl, S3, ⟨ow3, memo_nil⟩, hw, cnt_le _ (S3.lt hw), Nat.le_refl _, fun z => by omega, fun H4 kvs4 ex4 hd4 gr4 pr4 => ⟨_, rfl, ite2 (fun c => ?_) (fun c => ?_)⟩⟩
 ·have g4 : Same H H4 := fun c o hc => ex4 c o (ne_of_none hc how') (g3 _ _ hc)
  refine qn ?_ H4 g4
  exact Bool.not_eq_true' _ ▸ c
 ·have g4 : Same H H4 := fun c o hc => ex4 c o (ne_of_none hc how') (g3 _ _ hc)
  have hc : can (nearX ns ss fs) ends (2 ^ ns.length - 1) ns.length = true := by
   cases e : can (nearX ns ss fs) ends (2 ^ ns.length - 1) ns.length with
   | true => rfl
   | false => exact absurd (show (!can (nearX ns ss fs) ends (2 ^ ns.length - 1) ns.length) = true by rw [e]; rfl) c
  have S4 := S3.ex ow3 ex4
  refine ⟨_, rfl, _, rfl, x, dx, _, rfl, S4.at_, rfl, ⟨ns.length, nearX ns ss fs, ends, ls, x, dx, nr, lq, ow⟩, kvs4, rfl, S4, hd4, n1, hc, pr4 (by omega), fun l H5 g5 hl5 e5 => ?_⟩
  refine ⟨t, a, b, l, ns, ss, path (nearX ns ss fs) ends (2 ^ ns.length - 1) ns.length, rfl, pl.same (g4.trans g5), e5, ?_, ?_, fun l6 H6 g6 hl6 e6 => qs hc l6 H6 ((g4.trans g5).trans g6) (none_of_same (g4.trans g5) hl6) e6⟩
  ·have := path_len (near := nearX ns ss fs) (ends := ends) (cnt (2 ^ ns.length - 1)) (2 ^ ns.length - 1) ns.length
   have := cnt_le _ (S3.lt hw)
   exact Nat.le_trans (path_len _ _ _) (by omega)
  ·exact path_lt S3.ok _ _ _ (Nat.le_refl _)
end
def firsts (n : Nat) (ring : Bool) : List Nat := if ring then [0] else List.range n
def endsP (ns ss : List Int) (ring : Bool) (e : Nat) : Bool := !ring || (nearP ns ss (ns.getD e 0)).contains 0
def canW (ns ss : List Int) (ring : Bool) : Bool := can (nearX ns ss (firsts ns.length ring)) (endsP ns ss ring) (2 ^ ns.length - 1) ns.length
def rowW (ns ss : List Int) (ring : Bool) : List Int := (path (nearX ns ss (firsts ns.length ring)) (endsP ns ss ring) (2 ^ ns.length - 1) ns.length).map fun k => ns.getD k 0
def hasW (ns ss : List Int) (ring : Bool) : Bool := canW ns ss ring && !(ring && decide (ns.length < 3))
def spFRow (ring : Bool) : Sp := fun vs H Q _ => ∃ (t a b : Addr) (ns ss : List Int), vs = [.ref t] ∧ IsPl H t a b ns ss ∧ (hasW ns ss ring = false → ∀ H', Same H H' → Q .non H') ∧
 (hasW ns ss ring = true → ∀ (l : Addr) (H' : Hp), Same H H' → H l = none → H' l = some (.lst ((rowW ns ss ring).map V.int)) → Q (.ref l) H')
abbrev sAllP : Stmt := top 23
def spAllP : Sp := fun vs H Q _ => ∃ (t a b : Addr) (ns ss : List Int), vs = [.ref t] ∧ IsPl H t a b ns ss ∧ ∀ l : Addr, H l = none → Q (.ref l) (upd H l (.lst ((iv (List.range ns.length)).map V.int)))
abbrev sFRow : Stmt := top 30
section
variable {f cp fr al : Addr} {fd cpd frd ald : FuncData}
theorem scAllP : FnScope ["plan"] ["plan"] (defScope sAllP) := ⟨rfl, rfl, rfl, by decide +kernel, rfl, by decide +kernel, by decide +kernel⟩
theorem ok_allP (F : Fun K "all_places" "all_places" sAllP f fd) (B : Bt3 mg) : FnOk P w K mg base CX0 1 f fd ["plan"] spAllP := by
 refine F.ok scAllP (fun vs H Q E h => ?_) (fun cdv A outer s H vs Q E hr h => ?_)
 ·obtain ⟨t, a, b, ns, ss, rfl, _⟩ := h
  rfl
 obtain ⟨t, a, b, ns, ss, rfl, pl, q⟩ := h
 refine ⟨_, (@pss_one _ _ _ (ps_ret (pe_list_range1 rfl rfl B.range rfl B.list (pa_cons (pe_callB call_len_seq rfl B.len PySem.boot_len (pa_cons (pe_ix ix_tup (pv 0) pe_int (fun _ _ => rfl)) pa_nil)) pa_nil)))), ?_⟩
 have n2 := pl.ok.n2
 have hml : (ns.map V.int).length = ns.length := List.length_map _
 refine ⟨_, rfl, t, _, 0, _, rfl, rfl, SqT.of pl.t, rfl, a, _, rfl, .inl (SqL.of pl.a), 0, _, rfl, by rw [hml]; omega, fun l hl => ?_⟩
 have e : ((List.range (((((ns.map V.int).length : Nat) : Int)) - 0).toNat).map fun k : Nat => V.int (0 + (k : Int))) = (iv (List.range ns.length)).map V.int := by
  rw [iv_V, hml, show (((ns.length : Nat) : Int) - 0).toNat = ns.length by omega]
  refine List.map_congr_left fun k _ => ?_
  rw [Int.zero_add]
 rw [e]
 exact q l hl
theorem scFRow : FnScope ["plan"] ["plan"] (defScope sFRow) := ⟨rfl, rfl, rfl, by decide +kernel, rfl, by decide +kernel, by decide +kernel⟩
theorem ok_frow (F : Fun K "first_row" "first_row" sFRow f fd)
  (GC : FnOk P w K mg base CX0 23 cp cpd ["plan"] spCkP) (bC : Binds K cpd ["plan"] []) (kC : Kee K cp) (mC : mg "check_plan" = some (.ref cp))
  (GF : FnOk P w K mg base CX0 23 fr frd ["plan", "first_places", "last_places"] spFrom) (bF : Binds K frd ["plan", "first_places", "last_places"] []) (kF : Kee K fr) (mF : mg "first_from" = some (.ref fr))
  (GA : FnOk P w K mg base CX0 23 al ald ["plan"] spAllP) (bA : Binds K ald ["plan"] []) (kA : Kee K al) (mA : mg "all_places" = some (.ref al)) : FnOk P w K mg base CX0 24 f fd ["plan"] (spFRow false) := by
 refine F.ok scFRow (fun vs H Q E h => ?_) (fun cdv A outer s H vs Q E hr h => ?_)
 ·obtain ⟨t, a, b, ns, ss, rfl, _⟩ := h
  rfl
 obtain ⟨t, a, b, ns, ss, rfl, pl, qn, qs⟩ := h
 refine ⟨_, (@pss_cons _ _ _ _ _ (ps_expr (pe_call GC hr rfl mC kC bC .nil pass0 (pa_cons (pv 0) pa_nil))) (@pss_one _ _ _ (ps_ret (pe_call GF hr rfl mF kF bF .nil pass0 (pa_cons (pv 0) (pa_cons (pe_call GA hr rfl mA kA bA .nil pass0 (pa_cons (pv 0) pa_nil)) (pa_cons (pe_call GA hr rfl mA kA bA .nil pass0 (pa_cons (pv 0) pa_nil)) pa_nil))))))), ?_⟩
 refine ⟨_, rfl, t, a, b, ns, ss, rfl, pl, ?_⟩
 refine ⟨_, rfl, _, rfl, t, a, b, ns, ss, rfl, pl, fun l1 hl1 => ?_⟩
 have g1 : Same H (upd H l1 (.lst ((iv (List.range ns.length)).map V.int))) := Same.new hl1 _
 refine ⟨_, rfl, t, a, b, ns, ss, rfl, pl.same g1, fun l2 hl2 => ?_⟩
 have g2 : Same (upd H l1 (.lst ((iv (List.range ns.length)).map V.int))) (upd (upd H l1 (.lst ((iv (List.range ns.length)).map V.int))) l2 (.lst ((iv (List.range ns.length)).map V.int))) := Same.new hl2 _
 have e : hasW ns ss false = can (nearX ns ss (List.range ns.length)) (endsP ns ss false) (2 ^ ns.length - 1) ns.length := by
  unfold hasW canW firsts
  simp
 refine ⟨t, a, b, l1, l2, ns, ss, List.range ns.length, List.range ns.length, endsP ns ss false, rfl, (pl.same g1).same g2, g2 _ _ upd_same, upd_same, fun k hk => List.mem_range.mp hk, List.pairwise_lt_range, fun e he => ?_, fun hc H' g => ?_, fun hc l H' g hl e' => ?_⟩
 ·have : (List.range ns.length).contains e = true := List.contains_iff_mem.mpr (List.mem_range.mpr he)
  rw [this]
  rfl
 ·exact qn (e.trans hc) H' ((g1.trans g2).trans g)
 ·exact qs (e.trans hc) l H' ((g1.trans g2).trans g) (none_of_same (g1.trans g2) hl) e'
end
abbrev sTIn : Stmt := inClass (top 32) 0
abbrev sWy : Stmt := inClass (top 32) 1
abbrev sWb : Stmt := inClass (top 32) 2
abbrev sAw : Stmt := inClass (top 32) 3
structure TyT (K : PySem.W.Frag) (C : Addr) : Prop extends SrT K C where
 nL : NoAttr K C "last_places"
 nK : NoAttr K C "known"
section
variable (near : Nat → List Nat) (ends : Nat → Bool)
def waysF : Nat → Nat → Nat → Nat
 | 0, _, e => if ends e then 1 else 0
 | m + 1, left, e => (((near e).filter fun k => left.testBit k).map fun k => waysF m (left - 2 ^ k) k).sum
def ways (left e : Nat) : Nat := waysF near ends (cnt left) left e
variable {near ends}
theorem ways_succ {n left e : Nat} (N : NearOk near n) (hl : left < 1024) (h0 : left ≠ 0) (he : e ≤ n) : ways near ends left e = (((near e).filter fun k => left.testBit k).map fun k => ways near ends (left - 2 ^ k) k).sum := by
 unfold ways
 cases hc : cnt left with
 | zero => exact absurd (cnt_zero left hl hc) h0
 | succ m =>
  show (((near e).filter fun k => left.testBit k).map fun k => waysF near ends m (left - 2 ^ k) k).sum = _
  congr 1
  refine List.map_congr_left fun k hk => ?_
  obtain ⟨hk1, hb⟩ := List.mem_filter.mp hk
  have := (cnt_dec left hl k (Nat.lt_of_lt_of_le (N.lt e he k hk1) N.n10) hb).1
  have em : cnt (left - 2 ^ k) = m := by omega
  rw [em]
end
section
variable (n : Nat) (near : Nat → List Nat) (ends : Nat → Bool)
structure MemoT (kvs : List (List Key × V)) : Prop where
 nd : (kvs.map (·.1)).Nodup
 ok : ∀ kv ∈ kvs, ∃ l e, kv.1 = ky l e ∧ l ≠ 0 ∧ l < 2 ^ n ∧ e ≤ n ∧ kv.2 = .int (ways near ends l e : Nat)
variable {n near ends}
theorem memoT_nil : MemoT n near ends [] := ⟨List.nodup_nil, (fun _ h => nomatch h)⟩
theorem MemoT.val {kvs : List (List Key × V)} (M : MemoT n near ends kvs) {l e : Nat} {v : V} (h : valV kvs (ky l e) = some v) : v = .int (ways near ends l e : Nat) := by
 obtain ⟨l', e', h1, _, _, _, h2⟩ := M.ok _ (val_mem h)
 obtain ⟨rfl, rfl⟩ := ky_inj h1
 exact h2
theorem MemoT.len {kvs : List (List Key × V)} (M : MemoT n near ends kvs) (hn : n ≤ 10) : kvs.length < sizeLine := by
 have hp : 2 ^ n ≤ 1024 := pow_le n (by omega)
 have hc : ∀ kv ∈ kvs, kcode kv.1 < 11264 := fun kv h => by
  obtain ⟨l, e, h1, _, h3, h4, _⟩ := M.ok kv h
  rw [h1]
  show ((l : Int)).toNat * 11 + ((e : Int)).toNat < 11264
  omega
 have hnd : (kvs.map fun kv => kcode kv.1).Nodup := by
  have h := M.nd
  unfold List.Nodup at h ⊢
  rw [List.pairwise_map] at h ⊢
  refine h.imp_of_mem fun {x y} hx hy hne he => hne ?_
  obtain ⟨l, e, h1, _, _, h4, _⟩ := M.ok x hx
  obtain ⟨l', e', h1', _, _, h4', _⟩ := M.ok y hy
  rw [h1, h1'] at he ⊢
  have he' : ((l : Int)).toNat * 11 + ((e : Int)).toNat = ((l' : Int)).toNat * 11 + ((e' : Int)).toNat := he
  have : l = l' ∧ e = e' := by omega
  rw [this.1, this.2]
 have h := pigeon 11264 _ hnd fun x hx => by
  obtain ⟨kv, h1, rfl⟩ := List.mem_map.mp hx
  exact hc kv h1
 rw [List.length_map] at h
 rw [sizeLine_eq]
 omega
theorem MemoT.put {kvs : List (List Key × V)} (M : MemoT n near ends kvs) {l e : Nat} (h0 : l ≠ 0) (hl : l < 2 ^ n) (he : e ≤ n) : MemoT n near ends (putK kvs (ky l e) (.int (ways near ends l e : Nat))) := by
 refine ⟨?_, ?_⟩
 ·cases hv : valV kvs (ky l e) with
  | none =>
   rw [putK_new _ hv, List.map_append]
   refine List.nodup_append.mpr ⟨M.nd, by simp, fun a ha b hb hab => ?_⟩
   have eb : b = ky l e := by simpa using hb
   subst eb
   subst hab
   obtain ⟨kv, h1, h2⟩ := List.mem_map.mp ha
   have h3 := valV_any (ky l e) kvs
   rw [hv] at h3
   have h4 : (kvs.any fun kv => decide (kv.1 = ky l e)) = true := List.any_eq_true.mpr ⟨kv, h1, decide_eq_true h2⟩
   rw [h4] at h3
   cases h3
  | some v =>
   unfold putK
   rw [valV_any, hv]
   rw [if_pos (show (some v).isSome = true from rfl), List.map_map]
   have : (kvs.map ((fun x : List Key × V => x.1) ∘ fun kv => if kv.1 = ky l e then (kv.1, V.int (ways near ends l e : Nat)) else kv)) = kvs.map (·.1) := by
    refine List.map_congr_left fun kv _ => ?_
    show (if kv.1 = ky l e then (kv.1, V.int (ways near ends l e : Nat)) else kv).1 = kv.1
    split <;> rfl
   rw [this]
   exact M.nd
 ·intro kv h
  unfold putK at h
  split at h
  ·obtain ⟨kv', h1, h2⟩ := List.mem_map.mp h
   by_cases z : kv'.1 = ky l e
   ·rw [if_pos z] at h2
    rw [← h2]
    exact ⟨l, e, z, h0, hl, he, rfl⟩
   ·rw [if_neg z] at h2
    rw [← h2]
    exact M.ok kv' h1
  ·rcases List.mem_append.mp h with z | z
   ·exact M.ok kv z
   ·have z : kv = (ky l e, V.int (ways near ends l e : Nat)) := by simpa using z
    rw [z]
    exact ⟨l, e, rfl, h0, hl, he, rfl⟩
end
def fsT (p : SP) : List (Str × V) := [("ahead", .int p.n), ("near", .ref p.nr), ("whole", .int ((2 ^ p.n - 1 : Nat) : Int)), ("last_places", .ref p.lp), ("known", .ref p.ow)]
structure Tly (C : Addr) (p : SP) (H : Hp) : Prop where
 at_ : H p.s = some (.ins C p.dx (fsT p))
 nr : NearAt H p.nr p.n p.near
 lp : H p.lp = some (.lst ((iv p.lasts).map V.int))
 ok : NearOk p.near p.n
 le : ∀ e < p.n, p.lasts.contains e = p.ends e
def KnownT (p : SP) (H : Hp) (kvs : List (List Key × V)) : Prop := H p.ow = some (.dT kvs) ∧ MemoT p.n p.near p.ends kvs
theorem Tly.ex {C : Addr} {p : SP} {H H' : Hp} {kvs : List (List Key × V)} (S : Tly C p H) (hk : H p.ow = some (.dT kvs)) (g : Ex (· = p.ow) H H') : Tly C p H' := by
 have ne : ∀ {b o}, H b = some o → (∀ kvs, o ≠ .dT kvs) → H' b = some o := fun {b o} h d => g b o (fun z => d kvs (by rw [z, hk] at h; exact (Option.some.inj h).symm)) h
 obtain ⟨rs, q1, q2, q3⟩ := S.nr
 exact ⟨ne S.at_ (fun _ z => by cases z), ⟨rs, q1, ne q2 (fun _ z => by cases z), fun e he => let ⟨r, a, b⟩ := q3 e he; ⟨r, a, ne b (fun _ z => by cases z)⟩⟩, ne S.lp (fun _ z => by cases z), S.ok, S.le⟩
theorem Tly.lt {C : Addr} {p : SP} {H : Hp} (S : Tly C p H) {left : Nat} (h : left < 2 ^ p.n) : left < 1024 := Nat.lt_of_lt_of_le h (pow_le _ (Nat.lt_succ_of_le S.ok.n10))
def spWays (C : Addr) (m : Nat) : Sp := fun vs H Q _ => ∃ (p : SP) (kvs : List (List Key × V)) (left e : Nat), vs = [.ref p.s, .int left, .int e] ∧ Tly C p H ∧ KnownT p H kvs ∧ left < 2 ^ p.n ∧ cnt left ≤ m ∧ e ≤ p.n ∧ (left = 0 → e < p.n) ∧
 ∀ (H' : Hp) (kvs' : List (List Key × V)), Ex (· = p.ow) H H' → KnownT p H' kvs' → Q (.int (ways p.near p.ends left e : Nat)) H'
def spWb (C : Addr) (m : Nat) : Sp := fun vs H Q _ => ∃ (p : SP) (kvs : List (List Key × V)) (left k : Nat), vs = [.ref p.s, .int left, .int k] ∧ Tly C p H ∧ KnownT p H kvs ∧ left < 2 ^ p.n ∧ left.testBit k = true ∧ k < p.n ∧ cnt left ≤ m ∧
 ∀ (H' : Hp) (kvs' : List (List Key × V)), Ex (· = p.ow) H H' → KnownT p H' kvs' → Q (.int (ways p.near p.ends (left - 2 ^ k) k : Nat)) H'
def spAw (C : Addr) : Sp := fun vs H Q _ => ∃ (p : SP) (kvs : List (List Key × V)), vs = [.ref p.s] ∧ Tly C p H ∧ KnownT p H kvs ∧ 1 ≤ p.n ∧ ∀ (H' : Hp) (kvs' : List (List Key × V)), Ex (· = p.ow) H H' → KnownT p H' kvs' → Q (.int (ways p.near p.ends (2 ^ p.n - 1) p.n : Nat)) H'
def spTIn (C : Addr) : Sp := fun vs H Q _ => ∃ (s t a b fp lp dx : Addr) (ns ss : List Int) (fs ls : List Nat), vs = [.ref s, .ref t, .ref fp, .ref lp] ∧ H s = some (.ins C dx []) ∧ IsPl H t a b ns ss ∧ H fp = some (.lst ((iv fs).map V.int)) ∧ H lp = some (.lst ((iv ls).map V.int)) ∧
 ∀ (nr lq ow : Addr) (H' : Hp), Ex (· = s) H H' → H ow = none → H' s = some (.ins C dx [("ahead", .int ns.length), ("near", .ref nr), ("whole", .int ((2 ^ ns.length - 1 : Nat) : Int)), ("last_places", .ref lq), ("known", .ref ow)]) →
  NearAt H' nr ns.length (nearX ns ss fs) → H' lq = some (.lst ((iv ls).map V.int)) → H' ow = some (.dT []) → Q .non H'
theorem sum_cast (l : List Nat) (f : Nat → Nat) : (l.map fun k => ((f k : Nat) : Int)).sum = (((l.map f).sum : Nat) : Int) := by
 induction l with
 | nil => rfl
 | cons a r ih => rw [List.map_cons, List.map_cons, List.sum_cons, List.sum_cons, ih]; omega
section
variable {f g1 g2 C C0 : Addr} {mc : Value} {fd gd1 gd2 : FuncData}
theorem scWb : FnScope ["self", "left", "place"] ["self", "left", "place"] (defScope sWb) := ⟨rfl, rfl, rfl, by decide +kernel, rfl, by decide +kernel, by decide +kernel⟩
theorem ok_wb {j m : Nat} (F : Fun K "ways_by" "Tally.ways_by" sWb f fd) (T : TyT K C) (mW : Meth K C "ways" g1)
  (GW : FnOk P w K mg base CX0 j g1 gd1 ["self", "left", "end"] (spWays C m)) (bW : Binds K gd1 ["self", "left", "end"] []) : FnOk P w K mg base CX0 (j + 1) f fd ["self", "left", "place"] (spWb C (m + 1)) := by
 refine F.ok scWb (fun vs H Q E h => ?_) (fun cdv A outer s H vs Q E hr h => ?_)
 ·obtain ⟨p, kvs, left, k, rfl, _⟩ := h
  rfl
 obtain ⟨p, kvs, left, k, rfl, S, hd, hl, hb, hk, hc, q⟩ := h
 refine ⟨_, (@pss_one _ _ _ (ps_ret (pe_meth (pv 0) T.cl mW GW hr bW .nil pass0 (pa_cons (pe_op op_sub (pv 1) (pe_op op_shl pe_int (pv 2))) (pa_cons (pv 2) pa_nil))))), ?_⟩
 have n10 := S.ok.n10
 have hdec := cnt_dec left (S.lt hl) k (by omega) hb
 refine ⟨_, rfl, p.s, p.dx, _, rfl, S.at_, rfl, _, rfl, _, rfl, _, _, rfl, rfl, ⟨by show (0 : Int) ≤ (k : Int); omega, by show (k : Int) ≤ 1000000; omega, by decide⟩, _, _, rfl, rfl, _, rfl, ?_⟩
 exact ⟨p, kvs, left - 2 ^ k, k, congrArg (fun x => [V.ref p.s, V.int x, V.int (k : Int)]) (sub_V left k (bit_le hb)), S, hd, by omega, by omega, by omega, fun _ => hk, q⟩
theorem scWy : FnScope ["self", "left", "end", "key"] ["self", "left", "end"] (defScope sWy) := ⟨rfl, rfl, rfl, by decide +kernel, rfl, by decide +kernel, by decide +kernel⟩
theorem ok_wy {j m : Nat} (F : Fun K "ways" "Tally.ways" sWy f fd) (B : Bt4 mg) (T : TyT K C) (mB : Meth K C "ways_by" g1) (mS : Meth K C "steps" g2)
  (GB : FnOk P w K mg base CX0 j g1 gd1 ["self", "left", "place"] (spWb C m)) (bB : Binds K gd1 ["self", "left", "place"] [])
  (GS : FnOk P w K mg base CX0 j g2 gd2 ["self", "left", "end"] (spSteps C)) (bS : Binds K gd2 ["self", "left", "end"] []) : FnOk P w K mg base CX0 (j + 1) f fd ["self", "left", "end"] (spWays C m) := by
 refine F.ok scWy (fun vs H Q E h => ?_) (fun cdv A outer s H vs Q E hr h => ?_)
 ·obtain ⟨p, kvs, left, e, rfl, _⟩ := h
  rfl
 obtain ⟨p, kvs, left, e, rfl, S, hd, hl, hc, he, h0, q⟩ := h
 have hu := hu_of hr
 refine ⟨_, (@pss_cons _ _ _ _ _ (ps_if (pt_cmpR op_eq (pv 1) pe_int (nomark _)) (@pss_one _ _ _ (ps_ret (pe_ifExp (pt_cmpR (op_inI K) (pv 2) (pe_fld (pv 0) rfl) rfl) pe_int pe_int))) pss_nil) (@pss_cons _ _ _ _ _ (ps_set (i := 3) scWy.nd rfl (Or.inl rfl) (pe_tup (pa_cons (pv 1) (pa_cons (pv 2) pa_nil)))) (@pss_cons _ _ _ _ _ (ps_if (pt_cmp (pc_dnotin hu (pv 3) (pe_fld (pv 0) rfl))) (@pss_one _ _ _ (ps_dput hu (pe_fld (pv 0) rfl) (pv 3) (pe_callB (call_sumL rfl) rfl B.sum boot_sum (pa_cons (pe_comp ["place"] rfl (blk_ok (defScope sWy) ["self", "left", "end", "key"] rfl rfl (by decide +kernel)) (pi_list (pe_meth (pv 0) T.cl mS GS hr bS .nil pass0 (pa_cons (pv 1) (pa_cons (pv 2) pa_nil)))) (fun pins C fp s3 H3 => ⟨(pg_name (i := 0) (show (blkN ["place"] ["self", "left", "end", "key"]).Nodup by decide +kernel) rfl (Or.inl rfl)), pif_nil, (pe_meth (pv 1) T.cl mB GB hr bB .nil pass0 (pa_cons (pv 2) (pa_cons (pv 0) pa_nil)))⟩)) pa_nil)) rfl)) pss_nil) (@pss_one _ _ _ (ps_ret (pe_dget hu (pe_fld (pv 0) rfl) (pv 3) (fun _ _ => rfl))))))), ?_⟩
 refine ⟨_, rfl, rfl, _, rfl, ite2 (fun c => ?_) (fun c => ?_)⟩
 ·have el : left = 0 := by
   have z := V.int.inj (of_decide_eq_true c)
   omega
  subst el
  have z := q H kvs Ex.refl hd
  have e0 : ways p.near p.ends 0 e = if p.ends e then 1 else 0 := rfl
  rw [e0, ← S.le e (h0 rfl), ← iv_contains] at z
  refine ⟨_, rfl, _, rfl, p.s, C, p.dx, _, _, rfl, S.at_, T.cl, T.nL, rfl, p.lp, _, _, rfl, rfl, SqL.of S.lp, _, rfl, ite2 (fun c => ?_) (fun c => ?_)⟩
  ·have c' : (iv p.lasts).contains (e : Int) = true := c
   rw [c'] at z
   exact z
  ·have c' : (iv p.lasts).contains (e : Int) = false := Bool.eq_false_iff.mpr c
   rw [c'] at z
   exact z
 ·have el : left ≠ 0 := fun z => c (decide_eq_true (by rw [z]; rfl))
  refine ⟨_, rfl, _, rfl, two_le, fun kt hkt => ?_⟩
  have gk : Same H (upd H kt (.tup [.int (left : Int), .int (e : Int)])) := Same.new hkt _
  have S1 : Tly C p (upd H kt (.tup [.int (left : Int), .int (e : Int)])) := S.ex hd.1 (Ex.same gk)
  have hd1 : KnownT p (upd H kt (.tup [.int (left : Int), .int (e : Int)])) kvs := ⟨gk _ _ hd.1, hd.2⟩
  have hk1 : (upd H kt (.tup [.int (left : Int), .int (e : Int)])) kt = some (.tup ((ky left e).map kV)) := upd_same
  have ex1 : Ex (· = p.ow) H (upd H kt (.tup [.int (left : Int), .int (e : Int)])) := Ex.same gk
  generalize upd H kt (.tup [.int (left : Int), .int (e : Int)]) = H1 at S1 hd1 hk1 ex1 ⊢
  refine ⟨_, rfl, _, rfl, p.s, C, p.dx, _, _, rfl, S1.at_, T.cl, T.nK, rfl, p.ow, _, rfl, DGet.t hd1.1 hk1, _, rfl, ite2 (fun c2 => ?_) (fun c2 => ?_)⟩
  ·have hl' := S.lt hl
   have n10 := S.ok.n10
   refine ⟨_, rfl, p.s, p.dx, _, rfl, S1.at_, rfl, _, rfl, _, rfl, p.s, p.dx, p.nr, _, p.n, p.near, left, e, rfl, S1.at_, rfl, S1.nr, S1.ok, he, hl', fun l H2 g2 hln e2 => ⟨l, rfl, ⟨_, SqL.of e2⟩, fun D hD => ?_⟩⟩
   have hd2 : KnownT p H2 kvs := ⟨g2 _ _ hd1.1, hd1.2⟩
   have lo : l ≠ p.ow := ne_of e2 hd2.1 (by intro z; cases z)
   have Do : p.ow ≠ D := ne_of_none hd2.1 hD
   have lD : l ≠ D := ne_of_none e2 hD
   have klen : ((p.near e).filter fun k => left.testBit k).length ≤ 10 := Nat.le_trans (List.length_filter_le _ _) (Nat.le_trans (near_len S.ok he) n10)
   obtain ⟨ks, eks⟩ : ∃ ks, ks = (p.near e).filter fun k => left.testBit k := ⟨_, rfl⟩
   have ew := ways_succ (ends := p.ends) S.ok hl' el he
   have hmem : ∀ k ∈ ks, k < p.n ∧ left.testBit k = true := fun k hk => by
    rw [eks] at hk
    obtain ⟨h1, h2⟩ := List.mem_filter.mp hk
    exact ⟨S.ok.lt e he k h1, h2⟩
   rw [← eks] at e2 klen ew
   have kml : ((iv ks).map V.int).length = ks.length := by rw [List.length_map, iv_len]
   refine turns_any (n := ks.length) (fun i σ' H' => ∃ (x : Option V) (kvs' : List (List Key × V)), σ' = [x, some (.ref p.s), some (.int left), some (.int e), some (.ref kt)] ∧ Ex (· = p.ow) H2 H' ∧ KnownT p H' kvs' ∧ H' D = some (.lst (((ks.take i).map fun k => ((ways p.near p.ends (left - 2 ^ k) k : Nat) : Int)).map V.int)))
    ⟨none, kvs, rfl, Ex.new _ hD, ⟨by rw [upd_ne Do]; exact hd2.1, hd2.2⟩, upd_same⟩ ?_ ?_
   ·rintro i σ' H' hi ⟨x, kvs', rfl, ex, hk', hD'⟩
    have ek : ks[i]? = some ks[i] := List.getElem?_eq_getElem hi
    obtain ⟨hkn, hb⟩ := hmem _ (List.getElem_mem hi)
    have el2 := ex _ _ lo e2
    refine ⟨⟨_, _, SqL.of el2, nat_at ek⟩, fun y H3 hy => ?_⟩
    obtain ⟨rfl, hy⟩ := hy
    have ey := hy _ (SqL.of el2)
    rw [nat_at ek] at ey
    cases ey
    refine comp_true ?_
    have S' : Tly C p H3 := (S1.ex hd1.1 (Ex.same g2)).ex hd2.1 ex
    refine ⟨_, rfl, p.s, p.dx, _, rfl, S'.at_, rfl, _, rfl, _, rfl, p, kvs', left, ks[i], rfl, S', hk', hl, hb, hkn, hc, fun H4 kvs4 ex4 hk4 => ?_⟩
    have hD4 := ex4 _ _ (Ne.symm Do) hD'
    refine ⟨_, hD4, small1000 (by rw [List.length_map, List.length_map, List.length_take]; omega), _, kvs4, rfl, fun c o hc ho => ?_, ⟨by rw [upd_ne Do]; exact hk4.1, hk4.2⟩, ?_⟩
    ·rw [upd_ne (ne_of_none ho hD)]
     exact ex4 _ _ hc (ex _ _ hc ho)
    ·rw [upd_same, List.take_add_one, ek, List.map_append, List.map_append]
     rfl
   ·rintro σ' H' ⟨x, kvs', rfl, ex, hk', hD'⟩
    have el2 := ex _ _ lo e2
    refine ⟨⟨_, SqL.of el2, by rw [kml]; exact Nat.le_refl _⟩, ?_⟩
    rw [List.take_of_length_le (Nat.le_refl _)] at hD'
    refine ⟨D, _, rfl, hD', ?_⟩
    have S' : Tly C p H' := (S1.ex hd1.1 (Ex.same g2)).ex hd2.1 ex
    have hk2 : H' kt = some (.tup ((ky left e).map kV)) := ex _ _ (ne_of (g2 _ _ hk1) hd2.1 (by intro z; cases z)) (g2 _ _ hk1)
    have esum : (ks.map fun k => ((ways p.near p.ends (left - 2 ^ k) k : Nat) : Int)).sum = ((ways p.near p.ends left e : Nat) : Int) := by rw [sum_cast, ew]
    refine ⟨_, rfl, p.s, C, p.dx, _, _, rfl, S'.at_, T.cl, T.nK, rfl, _, rfl, p.ow, _, rfl, DPut.t hk'.1 hk2 (hk'.2.len S.ok.n10), ?_⟩
    rw [esum]
    have M3 := hk'.2.put el hl he
    have ex3 : Ex (· = p.ow) H' (upd H' p.ow (.dT (putK kvs' (ky left e) (.int (ways p.near p.ends left e : Nat))))) := Ex.put _ rfl
    have S3 := S'.ex hk'.1 ex3
    have hk3 := ex3 _ _ (ne_of hk2 hk'.1 (by intro z; cases z)) hk2
    refine ⟨_, rfl, p.s, C, p.dx, _, _, rfl, S3.at_, T.cl, T.nK, rfl, _, rfl, p.ow, _, rfl, by have z := DGet.t (upd_same (H := H') (a := p.ow) (o := .dT (putK kvs' (ky left e) (.int (ways p.near p.ends left e : Nat))))) hk3; rw [valV_put, if_pos rfl] at z; exact z, ?_⟩
    exact q _ _ (((ex1.trans (Ex.same g2)).trans ex).trans ex3) ⟨upd_same, M3⟩
  ·cases ev : valV kvs (ky left e) with
   | none => rw [ev] at c2; exact absurd rfl c2
   | some v =>
    have hv := hd.2.val ev
    refine ⟨_, rfl, p.s, C, p.dx, _, _, rfl, S1.at_, T.cl, T.nK, rfl, _, rfl, p.ow, _, rfl, by have z := DGet.t hd1.1 hk1; rw [ev] at z; exact z, ?_⟩
    rw [hv]
    exact q _ _ ex1 hd1
theorem ok_ways {wa wb sf : Addr} {wd wbd sfd : FuncData} (FW : Fun K "ways" "Tally.ways" sWy wa wd) (FB : Fun K "ways_by" "Tally.ways_by" sWb wb wbd) (B : Bt4 mg) (T : TyT K C) (mW : Meth K C "ways" wa) (mB : Meth K C "ways_by" wb) (mS : Meth K C "steps" sf)
  (GS : FnOk P w K mg base CX0 1 sf sfd ["self", "left", "end"] (spSteps C)) (bS : Binds K sfd ["self", "left", "end"] []) (bW : Binds K wd ["self", "left", "end"] []) (bB : Binds K wbd ["self", "left", "place"] []) :
  ∀ m : Nat, FnOk P w K mg base CX0 (2 * m + 2) wa wd ["self", "left", "end"] (spWays C m)
 | 0 => ok_wy (j := 1) FW B T mB mS ⟨fun vs H Q E h => by obtain ⟨p, kvs, left, k, rfl, _⟩ := h; rfl, fun A outer s H args us vs Q E _ _ _ _ h => by
   obtain ⟨p, kvs, left, k, _, S, _, hl, hb, hk, hc, _⟩ := h
   have n10 := S.ok.n10
   have := (cnt_dec left (S.lt hl) k (by omega) hb).1
   omega⟩ bB GS bS
 | m + 1 => by
  have GW := ok_ways FW FB B T mW mB mS GS bS bW bB m
  have GB := ok_wb (j := 2 * m + 2) FB T mW GW bW
  exact ok_wy (j := 2 * m + 3) FW B T mB mS GB bB (GS.mono (by omega)) bS
theorem scAw : FnScope ["self"] ["self"] (defScope sAw) := ⟨rfl, rfl, rfl, by decide +kernel, rfl, by decide +kernel, by decide +kernel⟩
theorem ok_aw (F : Fun K "all_ways" "Tally.all_ways" sAw f fd) (T : TyT K C) (mW : Meth K C "ways" g1) (GW : FnOk P w K mg base CX0 22 g1 gd1 ["self", "left", "end"] (spWays C 10)) (bW : Binds K gd1 ["self", "left", "end"] []) : FnOk P w K mg base CX0 23 f fd ["self"] (spAw C) := by
 refine F.ok scAw (fun vs H Q E h => ?_) (fun cdv A outer s H vs Q E hr h => ?_)
 ·obtain ⟨p, kvs, rfl, _⟩ := h
  rfl
 obtain ⟨p, kvs, rfl, S, hd, n1, q⟩ := h
 refine ⟨_, (@pss_one _ _ _ (ps_ret (pe_meth (pv 0) T.cl mW GW hr bW .nil pass0 (pa_cons (pe_fld (pv 0) rfl) (pa_cons (pe_fld (pv 0) rfl) pa_nil))))), ?_⟩
 have p2 : 2 ≤ 2 ^ p.n := Nat.pow_le_pow_right (n := 2) (by decide) n1
 have hw : 2 ^ p.n - 1 < 2 ^ p.n := by omega
 refine ⟨_, rfl, p.s, p.dx, _, rfl, S.at_, rfl, _, rfl, p.s, C, p.dx, _, _, rfl, S.at_, T.cl, T.nW, rfl, _, rfl, p.s, C, p.dx, _, _, rfl, S.at_, T.cl, T.nA, rfl, ?_⟩
 exact ⟨p, kvs, 2 ^ p.n - 1, p.n, rfl, S, hd, hw, cnt_le _ (S.lt hw), Nat.le_refl _, fun z => by omega, q⟩
theorem scTIn : FnScope ["self", "plan", "first_places", "last_places"] ["self", "plan", "first_places", "last_places"] (defScope sTIn) := ⟨rfl, rfl, rfl, by decide +kernel, rfl, by decide +kernel, by decide +kernel⟩
theorem ok_tin (F : Fun K "__init__" "Tally.__init__" sTIn f fd) (B : Bt3 mg) (T : TyT K C) (BI : Base K C0 mc "__init__" g1) (mI : mg "Steps" = some (.ref C0))
  (GI : FnOk P w K mg base CX0 3 g1 gd1 ["self", "plan", "first_places"] (spIni0 C)) (bI : Binds K gd1 ["self", "plan", "first_places"] []) : FnOk P w K mg base CX0 4 f fd ["self", "plan", "first_places", "last_places"] (spTIn C) := by
 refine F.ok scTIn (fun vs H Q E h => ?_) (fun cdv A outer s H vs Q E hr h => ?_)
 ·obtain ⟨s, t, a, b, fp, lp, dx, ns, ss, fs, ls, rfl, _⟩ := h
  rfl
 obtain ⟨s, t, a, b, fp, lp, dx, ns, ss, fs, ls, rfl, hs, pl, hfp, hlp, q⟩ := h
 refine ⟨_, (@pss_cons _ _ _ _ _ (ps_expr (pe_base BI GI hr rfl mI bI .nil pass0 (pa_cons (pv 0) (pa_cons (pv 1) (pa_cons (pv 2) pa_nil))))) (@pss_cons _ _ _ _ _ (ps_fld (pv 0) (pe_callTy call_list_of rfl B.list PyProof.Rows.boot_list (pa_cons (pv 3) pa_nil)) rfl) (@pss_one _ _ _ (ps_fld (pv 0) pe_dnewT rfl)))), ?_⟩
 refine ⟨_, rfl, _, rfl, _, rfl, s, t, a, b, fp, dx, ns, ss, fs, rfl, hs, pl, hfp, fun nr H1 ex1 s1 na1 => ?_⟩
 have lps : lp ≠ s := ne_of hlp hs (by intro z; cases z)
 have lp1 := ex1 _ _ lps hlp
 refine ⟨_, rfl, lp, _, rfl, .inl (SqL.of lp1), fun lq hlq => ?_⟩
 have g2 : Same H1 (upd H1 lq (.lst ((iv ls).map V.int))) := Same.new hlq _
 refine ⟨_, rfl, s, C, dx, _, rfl, g2 _ _ s1, T.cl, T.nL, (by show 3 < 1000; decide), ?_⟩
 refine fun ow how => ?_
 have sq : s ≠ lq := ne_of_none s1 hlq
 have ow_s : ow ≠ s := fun z => by rw [z, upd_same] at how; cases how
 have ow_q : ow ≠ lq := fun z => by rw [z, upd_ne sq.symm, upd_same] at how; cases how
 have how1 : H1 ow = none := by rwa [upd_ne ow_s, upd_ne ow_q] at how
 refine ⟨_, rfl, s, C, dx, _, rfl, by rw [upd_ne (Ne.symm ow_s)]; exact upd_same, T.cl, T.nK, (by show 4 < 1000; decide), ?_⟩
 obtain ⟨rs, q1, q2, q3⟩ := na1
 have st : ∀ {c : Addr} {o : HO}, c ≠ s → H1 c = some o → ∀ {o1 o2}, (upd (upd (upd (upd H1 lq (.lst ((iv ls).map V.int))) s o1) ow (.dT [])) s o2) c = some o := fun {c o} hc h {o1 o2} => by
  rw [upd_ne hc, upd_ne (ne_of_none h how1), upd_ne hc, upd_ne (ne_of_none h hlq)]
  exact h
 refine q nr lq ow _ (fun c o hc ho => st hc (ex1 c o hc ho)) ?_ ?_ ⟨rs, q1, st (ne_of q2 s1 (by intro z; cases z)) q2, fun e he => let ⟨r, r1, r2⟩ := q3 e he; ⟨r, r1, st (ne_of r2 s1 (by intro z; cases z)) r2⟩⟩ ?_ ?_
 ·cases e : H ow with
  | none => rfl
  | some o => rw [ex1 _ _ ow_s e] at how1; cases how1
 ·rw [upd_same]
  rfl
 ·rw [upd_ne (Ne.symm sq), upd_ne (Ne.symm ow_q), upd_ne (Ne.symm sq), upd_same]
 ·rw [upd_ne ow_s, upd_same]
end
abbrev sTr : Stmt := top 33
abbrev sCr : Stmt := top 34
def cntW (ns ss : List Int) (ring : Bool) : Nat := ways (nearX ns ss (firsts ns.length ring)) (endsP ns ss ring) (2 ^ ns.length - 1) ns.length
def spTr (C : Addr) : Sp := fun vs H Q _ => ∃ (t a b : Addr) (ns ss : List Int), vs = [.ref t] ∧ IsPl H t a b ns ss ∧ ∀ (p : SP) (H' : Hp), p.n = ns.length → p.near = nearX ns ss (List.range ns.length) → p.ends = endsP ns ss false → Same H H' → H p.ow = none → Tly C p H' → KnownT p H' [] → Q (.ref p.s) H'
def spCount (f : List Int → List Int → Nat) : Sp := fun vs H Q _ => ∃ (t a b : Addr) (ns ss : List Int), vs = [.ref t] ∧ IsPl H t a b ns ss ∧ ∀ H', Same H H' → Q (.int (f ns ss : Nat)) H'
section
variable {f g1 g2 g3 g4 C : Addr} {fd gd1 gd2 gd3 gd4 : FuncData} {t3 : Tok}
theorem scTr : FnScope ["plan"] ["plan"] (defScope sTr) := ⟨rfl, rfl, rfl, by decide +kernel, rfl, by decide +kernel, by decide +kernel⟩
theorem ok_tr (F : Fun K "tally_of_rows" "tally_of_rows" sTr f fd) (MT : Mk K C g1) (mT : mg "Tally" = some (.ref C))
  (GI : FnOk P w K mg base CX0 4 g1 gd1 ["self", "plan", "first_places", "last_places"] (spTIn C)) (bI : Binds K gd1 ["self", "plan", "first_places", "last_places"] [])
  (GA : FnOk P w K mg base CX0 5 g2 gd2 ["plan"] spAllP) (bA : Binds K gd2 ["plan"] []) (kA : Kee K g2) (mA : mg "all_places" = some (.ref g2)) : FnOk P w K mg base CX0 6 f fd ["plan"] (spTr C) := by
 refine F.ok scTr (fun vs H Q E h => ?_) (fun cdv A outer s H vs Q E hr h => ?_)
 ·obtain ⟨t, a, b, ns, ss, rfl, _⟩ := h
  rfl
 obtain ⟨t, a, b, ns, ss, rfl, pl, q⟩ := h
 refine ⟨_, (@pss_one _ _ _ (ps_ret (pe_make MT GI hr rfl mT bI .nil pass0 (pa_cons (pv 0) (pa_cons (pe_call GA hr rfl mA kA bA .nil pass0 (pa_cons (pv 0) pa_nil)) (pa_cons (pe_call GA hr rfl mA kA bA .nil pass0 (pa_cons (pv 0) pa_nil)) pa_nil)))))), ?_⟩
 refine ⟨_, rfl, _, rfl, t, a, b, ns, ss, rfl, pl, fun l1 hl1 => ?_⟩
 have g1 : Same H (upd H l1 (.lst ((iv (List.range ns.length)).map V.int))) := Same.new hl1 _
 refine ⟨_, rfl, t, a, b, ns, ss, rfl, pl.same g1, fun l2 hl2 => fun x dx nx ndx nex => ?_⟩
 have g2 : Same (upd H l1 (.lst ((iv (List.range ns.length)).map V.int))) (upd (upd H l1 (.lst ((iv (List.range ns.length)).map V.int))) l2 (.lst ((iv (List.range ns.length)).map V.int))) := Same.new hl2 _
 have e1 : (upd (upd H l1 (.lst ((iv (List.range ns.length)).map V.int))) l2 (.lst ((iv (List.range ns.length)).map V.int))) l1 = some (.lst ((iv (List.range ns.length)).map V.int)) := g2 _ _ upd_same
 have e2 : (upd (upd H l1 (.lst ((iv (List.range ns.length)).map V.int))) l2 (.lst ((iv (List.range ns.length)).map V.int))) l2 = some (.lst ((iv (List.range ns.length)).map V.int)) := upd_same
 have g12 := g1.trans g2
 generalize upd (upd H l1 (.lst ((iv (List.range ns.length)).map V.int))) l2 (.lst ((iv (List.range ns.length)).map V.int)) = H2 at g2 e1 e2 g12 nx ndx ⊢
 have g3 : Same H2 (upd (upd H2 dx (.own x)) x (.ins C dx [])) := fun c o hc => by
  rw [upd_ne (ne_of_none hc nx), upd_ne (ne_of_none hc ndx)]; exact hc
 refine ⟨x, t, a, b, l1, l2, dx, ns, ss, List.range ns.length, List.range ns.length, rfl, upd_same, (pl.same g12).same g3, g3 _ _ e1, g3 _ _ e2, fun nr lq ow H3 ex3 how s3 na3 lq3 ow3 => ⟨rfl, ?_⟩⟩
 have g4 : Same H H3 := fun c o hc => ex3 c o (ne_of_none (g12 _ _ hc) nx) (g3 _ _ (g12 _ _ hc))
 refine q ⟨ns.length, nearX ns ss (List.range ns.length), endsP ns ss false, List.range ns.length, x, dx, nr, lq, ow⟩ H3 rfl rfl rfl g4 (none_of_same (g12.trans g3) how) ⟨s3, na3, lq3, near_ok pl.ok (fun k hk => List.mem_range.mp hk) List.pairwise_lt_range, fun e he => ?_⟩ ⟨ow3, memoT_nil⟩
 have : (List.range ns.length).contains e = true := List.contains_iff_mem.mpr (List.mem_range.mpr he)
 rw [this]
 rfl
theorem scCr : FnScope ["plan"] ["plan"] (defScope sCr) := ⟨rfl, rfl, rfl, by decide +kernel, rfl, by decide +kernel, by decide +kernel⟩
theorem ok_cr (F : Fun K "count_rows" "count_rows" sCr f fd) (T : TyT K C) (mW : Meth K C "all_ways" g1)
  (GW : FnOk P w K mg base CX0 23 g1 gd1 ["self"] (spAw C)) (bW : Binds K gd1 ["self"] [])
  (GC : FnOk P w K mg base CX0 23 g2 gd2 ["plan"] spCkP) (bC : Binds K gd2 ["plan"] []) (kC : Kee K g2) (mC : mg "check_plan" = some (.ref g2))
  (GT : FnOk P w K mg base CX0 23 g3 gd3 ["plan"] (spTr C)) (bT : Binds K gd3 ["plan"] []) (kT : Kee K g3) (mT : mg "tally_of_rows" = some (.ref g3)) : FnOk P w K mg base CX0 24 f fd ["plan"] (spCount fun ns ss => cntW ns ss false) := by
 refine F.ok scCr (fun vs H Q E h => ?_) (fun cdv A outer s H vs Q E hr h => ?_)
 ·obtain ⟨t, a, b, ns, ss, rfl, _⟩ := h
  rfl
 obtain ⟨t, a, b, ns, ss, rfl, pl, q⟩ := h
 refine ⟨_, (@pss_cons _ _ _ _ _ (ps_expr (pe_call GC hr rfl mC kC bC .nil pass0 (pa_cons (pv 0) pa_nil))) (@pss_one _ _ _ (ps_ret (pe_meth0 (pe_call GT hr rfl mT kT bT .nil pass0 (pa_cons (pv 0) pa_nil)) T.cl mW GW hr bW .nil pass0)))), ?_⟩
 refine ⟨_, rfl, t, a, b, ns, ss, rfl, pl, ?_⟩
 refine ⟨_, rfl, t, a, b, ns, ss, rfl, pl, fun p H1 e1 e2 e3 g1 how S hk => ?_⟩
 refine ⟨p.s, p.dx, _, rfl, S.at_, rfl, p, [], rfl, S, hk, by rw [e1]; exact pl.ok.n1, fun H2 kvs2 ex2 hk2 => ?_⟩
 have z := q H2 (fun c o hc => ex2 c o (ne_of_none hc how) (g1 _ _ hc))
 rw [e1, e2, e3]
 exact z
end
abbrev bmV : List Value := [.type "ValueError", .type "Exception", .type "BaseException", .type "object"]
abbrev sRoom : Stmt := top 36
abbrev sStd : Stmt := top 37
abbrev sNew : Stmt := top 38
abbrev sWi : Stmt := top 39
abbrev sWo : Stmt := top 40
abbrev sKIn : Stmt := inClass (top 41) 0
abbrev sKPl : Stmt := inClass (top 41) 1
abbrev sKCt : Stmt := inClass (top 41) 2
abbrev sKFi : Stmt := inClass (top 41) 3
abbrev sKCh : Stmt := inClass (top 41) 4
def numIn (ns : List Int) : PyData → Bool
 | .int n => ns.contains n
 | _ => false
theorem num_back {H : Hp} {v : V} {d : PyData} {ns : List Int} (hd : Dat H v d) (e : numIn ns d = true) : ∃ x : Int, v = .int x ∧ d = .int x ∧ x ∈ ns := by
 cases hd with
 | int n => exact ⟨n, rfl, rfl, List.contains_iff_mem.mp e⟩
 | _ => cases e
def newIn (ns : List Int) : PyData → Bool
 | .int n => decide (0 ≤ n) && !ns.contains n
 | _ => false
theorem new_back {H : Hp} {v : V} {d : PyData} {ns : List Int} (hd : Dat H v d) (e : newIn ns d = true) : ∃ x : Int, v = .int x ∧ d = .int x ∧ x ∉ ns ∧ 0 ≤ x := by
 cases hd with
 | int n =>
  simp only [newIn, Bool.and_eq_true, decide_eq_true_eq, Bool.not_eq_true'] at e
  exact ⟨n, rfl, rfl, fun z => by rw [List.contains_iff_mem.mpr z] at e; exact Bool.noConfusion e.2, e.1⟩
 | _ => cases e
def insI (x : Int) : List Int → List Int
 | [] => [x]
 | y :: r => if x < y then x :: y :: r else y :: insI x r
def delI (x : Int) (l : List Int) : List Int := l.filter fun y => decide (y ≠ x)
theorem insI_mem (x z : Int) : ∀ l : List Int, z ∈ insI x l ↔ z = x ∨ z ∈ l
 | [] => by simp [insI]
 | y :: r => by
  unfold insI
  split
  ·simp
  ·rw [List.mem_cons, insI_mem x z r, List.mem_cons]
   constructor
   ·rintro (h | h | h)
    ·exact .inr (.inl h)
    ·exact .inl h
    ·exact .inr (.inr h)
   ·rintro (h | h | h)
    ·exact .inr (.inl h)
    ·exact .inl h
    ·exact .inr (.inr h)
theorem insI_len (x : Int) : ∀ l : List Int, (insI x l).length = l.length + 1
 | [] => rfl
 | y :: r => by
  unfold insI
  split
  ·rfl
  ·rw [List.length_cons, insI_len x r, List.length_cons]
theorem insI_rise {x : Int} : ∀ {l : List Int}, l.Pairwise (· < ·) → x ∉ l → (insI x l).Pairwise (· < ·)
 | [], _, _ => List.pairwise_singleton _ _
 | y :: r, h, n => by
  obtain ⟨h1, h2⟩ := List.pairwise_cons.mp h
  unfold insI
  split
  ·rename_i c
   refine List.pairwise_cons.mpr ⟨fun z hz => ?_, h⟩
   rcases List.mem_cons.mp hz with e | e
   ·rw [e]; exact c
   ·exact Int.lt_trans c (h1 z e)
  ·rename_i c
   refine List.pairwise_cons.mpr ⟨fun z hz => ?_, insI_rise h2 fun q => n (List.mem_cons_of_mem _ q)⟩
   rcases (insI_mem x z r).mp hz with e | e
   ·have : x ≠ y := fun q => n (by rw [q]; exact List.mem_cons_self)
    omega
   ·exact h1 z e
theorem rise_eq : ∀ {l m : List Int}, l.Pairwise (· < ·) → m.Pairwise (· < ·) → (∀ z, z ∈ l ↔ z ∈ m) → l = m
 | [], [], _, _, _ => rfl
 | [], y :: r, _, _, h => absurd ((h y).mpr List.mem_cons_self) List.not_mem_nil
 | x :: l, [], _, _, h => absurd ((h x).mp List.mem_cons_self) List.not_mem_nil
 | x :: l, y :: m, h1, h2, h => by
  obtain ⟨a1, a2⟩ := List.pairwise_cons.mp h1
  obtain ⟨b1, b2⟩ := List.pairwise_cons.mp h2
  have e : x = y := by
   rcases List.mem_cons.mp ((h x).mp List.mem_cons_self) with e | e
   ·exact e
   ·rcases List.mem_cons.mp ((h y).mpr List.mem_cons_self) with e2 | e2
    ·exact e2.symm
    ·have := b1 x e; have := a1 y e2; omega
  subst e
  congr 1
  refine rise_eq a2 b2 fun z => ⟨fun hz => ?_, fun hz => ?_⟩
  ·rcases List.mem_cons.mp ((h z).mp (List.mem_cons_of_mem _ hz)) with e | e
   ·have := a1 z hz; omega
   ·exact e
  ·rcases List.mem_cons.mp ((h z).mpr (List.mem_cons_of_mem _ hz)) with e | e
   ·have := b1 z hz; omega
   ·exact e
theorem sorted_ins {l m : List Int} {x : Int} (p : m.Perm (l ++ [x])) (s : m.Pairwise (· ≤ ·)) (h : l.Pairwise (· < ·)) (n : x ∉ l) : m = insI x l := by
 have nd : m.Nodup := by
  refine p.nodup_iff.mpr (List.nodup_append.mpr ⟨h.imp fun q => Int.ne_of_lt q, List.pairwise_singleton _ _, fun a ha b hb => ?_⟩)
  rw [List.mem_singleton.mp hb]
  exact fun q => n (by rw [← q]; exact ha)
 refine rise_eq (strict s nd) (insI_rise h n) fun z => ?_
 rw [p.mem_iff, List.mem_append, List.mem_singleton, insI_mem]
 exact Or.comm
theorem ins_ok {ns ss : List Int} {x : Int} (p : PlanOk ns ss) (n : x ∉ ns) (x0 : 0 ≤ x) (l : ns.length < 10) : PlanOk (insI x ns) ss :=
 ⟨⟨insI_rise p.n.up n, fun z hz => by rcases (insI_mem x z ns).mp hz with e | e; (rw [e]; exact x0); exact p.n.bd z e⟩, p.s, by rw [insI_len]; omega, by rw [insI_len]; omega, p.s2⟩
theorem ins_okS {ns ss : List Int} {x : Int} (p : PlanOk ns ss) (n : x ∉ ss) (x0 : 0 ≤ x) (l : ss.length < 10) : PlanOk ns (insI x ss) :=
 ⟨p.n, ⟨insI_rise p.s.up n, fun z hz => by rcases (insI_mem x z ss).mp hz with e | e; (rw [e]; exact x0); exact p.s.bd z e⟩, p.n1, p.n2, by rw [insI_len]; omega⟩
theorem del_len {x : Int} : ∀ {l : List Int}, l.Nodup → x ∈ l → (delI x l).length + 1 = l.length
 | [], _, h => absurd h List.not_mem_nil
 | y :: r, nd, h => by
  obtain ⟨n1, n2⟩ := List.nodup_cons.mp nd
  unfold delI
  by_cases e : y = x
  ·rw [List.filter_cons, if_neg (by simp [e]), List.length_cons]
   congr 1
   have k : r.filter (fun y => decide (y ≠ x)) = r := List.filter_eq_self.mpr fun z hz => decide_eq_true fun (q : z = x) => n1 (by rw [e, ← q]; exact hz)
   rw [k]
  ·rw [List.filter_cons, if_pos (by simp [e]), List.length_cons, List.length_cons]
   congr 1
   rcases List.mem_cons.mp h with q | q
   ·exact absurd q.symm e
   ·exact del_len n2 q
theorem del_ok {ns ss : List Int} {x : Int} (p : PlanOk ns ss) (n : x ∈ ns) (l : ns.length ≠ 1) : PlanOk (delI x ns) ss := by
 have e := del_len (p.n.up.imp fun q => Int.ne_of_lt q) n
 have := p.n1; have := p.n2
 exact ⟨⟨p.n.up.filter _, fun z hz => p.n.bd z (List.mem_filter.mp hz).1⟩, p.s, by omega, by omega, p.s2⟩
theorem del_okS {ns ss : List Int} {x : Int} (p : PlanOk ns ss) (n : x ∈ ss) : PlanOk ns (delI x ss) := by
 have e := del_len (p.s.up.imp fun q => Int.ne_of_lt q) n
 have := p.s2
 exact ⟨p.n, ⟨p.s.up.filter _, fun z hz => p.s.bd z (List.mem_filter.mp hz).1⟩, p.n1, p.n2, by omega⟩
structure KpT (K : PySem.W.Frag) (C : Addr) : Prop where
 cl : Cls K C
 nN : NoAttr K C "numbers"
 nS : NoAttr K C "sums"
structure Kp (H : Hp) (C k dx a b : Addr) (ns ss : List Int) : Prop where
 k : H k = some (.ins C dx [("numbers", .ref a), ("sums", .ref b)])
 a : H a = some (.lst (ns.map V.int))
 b : H b = some (.lst (ss.map V.int))
 ok : PlanOk ns ss
theorem Kp.same {H H' : Hp} {C k dx a b : Addr} {ns ss : List Int} (h : Kp H C k dx a b ns ss) (g : Same H H') : Kp H' C k dx a b ns ss := ⟨g _ _ h.k, g _ _ h.a, g _ _ h.b, h.ok⟩
def spRoom (XT : Addr) : Sp := fun vs H Q E => ∃ (a : Addr) (ns : List Int), vs = [.ref a] ∧ H a = some (.lst (ns.map V.int)) ∧ (ns.length < 10 → Q .non H) ∧ (10 ≤ ns.length → E (.ref XT) none H)
def spTold (f : List Int → PyData → Bool) : Sp := fun vs H Q _ => ∃ (a : Addr) (ns : List Int) (v : V) (d : PyData), vs = [.ref a, v] ∧ H a = some (.lst (ns.map V.int)) ∧ Dat H v d ∧ Q (.bl (f ns d)) H
def spWi : Sp := fun vs H Q _ => ∃ (a : Addr) (ns : List Int) (x : Int), vs = [.ref a, .int x] ∧ H a = some (.lst (ns.map V.int)) ∧ ns.length ≤ 20 ∧ ns.Pairwise (· < ·) ∧ x ∉ ns ∧ ∀ (l : Addr) (H' : Hp), Same H H' → H l = none → H' l = some (.lst ((insI x ns).map V.int)) → Q (.ref l) H'
def spWo : Sp := fun vs H Q _ => ∃ (a : Addr) (ns : List Int) (x : Int), vs = [.ref a, .int x] ∧ H a = some (.lst (ns.map V.int)) ∧ ns.length ≤ 20 ∧ ∀ (l : Addr) (H' : Hp), Same H H' → H l = none → H' l = some (.lst ((delI x ns).map V.int)) → Q (.ref l) H'
def spKIn (C : Addr) : Sp := fun vs H Q _ => ∃ (k dx t a b : Addr) (ns ss : List Int), vs = [.ref k, .ref t] ∧ H k = some (.ins C dx []) ∧ IsPl H t a b ns ss ∧ ∀ (a' b' : Addr) (H' : Hp), Ex (· = k) H H' → Kp H' C k dx a' b' ns ss → H a' = none → H b' = none → Q .non H'
def spKPl (C : Addr) : Sp := fun vs H Q _ => ∃ (k dx a b : Addr) (ns ss : List Int), vs = [.ref k] ∧ Kp H C k dx a b ns ss ∧ ∀ (t a' b' : Addr) (H' : Hp), Same H H' → H t = none → H a' = none → H b' = none → a' ≠ b' → IsPl H' t a' b' ns ss → Q (.ref t) H'
def spKCt (C : Addr) : Sp := fun vs H Q _ => ∃ (k dx a b : Addr) (ns ss : List Int), vs = [.ref k] ∧ Kp H C k dx a b ns ss ∧ ∀ H', Same H H' → Q (.int (cntW ns ss false : Nat)) H'
def spKFi (C : Addr) : Sp := fun vs H Q _ => ∃ (k dx a b : Addr) (ns ss : List Int), vs = [.ref k] ∧ Kp H C k dx a b ns ss ∧ (hasW ns ss false = false → ∀ H', Same H H' → Q .non H') ∧
 (hasW ns ss false = true → ∀ (l : Addr) (H' : Hp), Same H H' → H l = none → H' l = some (.lst ((rowW ns ss false).map V.int)) → Q (.ref l) H')
def spKCh (C : Addr) : Sp := fun vs H Q _ => ∃ (k dx a b a' b' : Addr) (ns ss ns' ss' : List Int), vs = [.ref k, .ref a', .ref b'] ∧ Kp H C k dx a b ns ss ∧ H a' = some (.lst (ns'.map V.int)) ∧ H b' = some (.lst (ss'.map V.int)) ∧ PlanOk ns' ss' ∧
 ∀ (t : Addr) (H' : Hp), Ex (· = k) H H' → H t = none → H' t = some (.tup [.int (cntW ns ss false : Nat), .int (cntW ns' ss' false : Nat)]) → Kp H' C k dx a' b' ns' ss' → Q (.ref t) H'
section
variable {f g1 g2 g3 C XT : Addr} {fd gd1 gd2 gd3 : FuncData} {t10 : Tok}
theorem scRoom : FnScope ["numbers"] ["numbers"] (defScope sRoom) := ⟨rfl, rfl, rfl, by decide +kernel, rfl, by decide +kernel, by decide +kernel⟩
theorem ok_room (F : Fun K "check_room" "check_room" sRoom f fd) (B : Bt3 mg) (m10 : mg "MOST" = some (.int 10 t10)) (eXT : PySem.W.excIn K XT bmV "ValueError.__new__" = true) (mXT : mg "TooMany" = some (.ref XT)) : FnOk P w K mg base (CX1 P w) 1 f fd ["numbers"] (spRoom XT) := by
 refine F.ok1 scRoom (fun vs H Q E h => ?_) (fun cdv A outer s H vs Q E hr h => ?_)
 ·obtain ⟨a, ns, rfl, _⟩ := h
  rfl
 obtain ⟨a, ns, rfl, ha, q, qe⟩ := h
 refine ⟨_, (@pss_one _ _ _ (ps_if (pt_cmpR op_ge (pe_callB call_len_seq rfl B.len PySem.boot_len (pa_cons (pv 0) pa_nil)) (pe_glob (v := .int 10) rfl m10 ⟨_, rfl⟩) (nomark _)) (@pss_one _ _ _ (ps_raise raises1 rfl PySem.F.excBase_ValueError eXT rfl mXT (pa_cons pe_str pa_nil))) pss_nil)), ?_⟩
 have hml : (ns.map V.int).length = ns.length := List.length_map _
 refine ⟨_, rfl, a, _, rfl, .inl (SqL.of ha), _, _, rfl, rfl, _, rfl, ite2 (fun c => ?_) (fun c => ?_)⟩
 ·have c' := of_decide_eq_true c
  rw [hml] at c'
  exact ⟨by decide, qe (by omega)⟩
 ·refine q ?_
  have c' : ¬ (10 : Int) ≤ (((ns.map V.int).length : Nat) : Int) := fun z => c (decide_eq_true z)
  rw [hml] at c'
  omega
theorem scStd : FnScope ["numbers", "thing"] ["numbers", "thing"] (defScope sStd) := ⟨rfl, rfl, rfl, by decide +kernel, rfl, by decide +kernel, by decide +kernel⟩
theorem ok_std (F : Fun K "stands_in" "stands_in" sStd f fd) (GW : FnOk P w K mg base CX0 1 g1 gd1 ["thing"] spWholeD) (bW : Binds K gd1 ["thing"] []) (kW : Kee K g1) (mW : mg "is_whole" = some (.ref g1)) : FnOk P w K mg base CX0 2 f fd ["numbers", "thing"] (spTold numIn) := by
 refine F.ok scStd (fun vs H Q E h => ?_) (fun cdv A outer s H vs Q E hr h => ?_)
 ·obtain ⟨a, ns, v, d, rfl, _⟩ := h
  rfl
 obtain ⟨a, ns, v, d, rfl, ha, hd, q⟩ := h
 refine ⟨_, (@pss_one _ _ _ (ps_ret (pe_and (pe_call GW hr rfl mW kW bW .nil pass0 (pa_cons (pv 1) pa_nil)) (pe_one (pe_cmpR (op_inI K) (pv 1) (pv 0) rfl))))), ?_⟩
 refine ⟨_, rfl, v, d, rfl, hd, _, rfl, ite2 (fun c => ?_) (fun c => ?_)⟩
 ·cases hd with
  | int n => exact ⟨_, rfl, _, rfl, a, n, ns, rfl, rfl, SqL.of ha, q⟩
  | _ => cases c
 ·have e : numIn ns d = false := by cases d <;> first | rfl | exact absurd rfl c
  rw [e] at q
  exact q
theorem scNew : FnScope ["numbers", "thing"] ["numbers", "thing"] (defScope sNew) := ⟨rfl, rfl, rfl, by decide +kernel, rfl, by decide +kernel, by decide +kernel⟩
theorem ok_new (F : Fun K "is_new" "is_new" sNew f fd) (GW : FnOk P w K mg base CX0 1 g1 gd1 ["thing"] spWholeD) (bW : Binds K gd1 ["thing"] []) (kW : Kee K g1) (mW : mg "is_whole" = some (.ref g1)) : FnOk P w K mg base CX0 2 f fd ["numbers", "thing"] (spTold newIn) := by
 refine F.ok scNew (fun vs H Q E h => ?_) (fun cdv A outer s H vs Q E hr h => ?_)
 ·obtain ⟨a, ns, v, d, rfl, _⟩ := h
  rfl
 obtain ⟨a, ns, v, d, rfl, ha, hd, q⟩ := h
 refine ⟨_, (@pss_one _ _ _ (ps_ret (pe_and (pe_call GW hr rfl mW kW bW .nil pass0 (pa_cons (pv 1) pa_nil)) (pe_and (pe_cmpR op_ge (pv 1) pe_int (nomark _)) (pe_one (pe_cmpR (op_notInI K) (pv 1) (pv 0) rfl)))))), ?_⟩
 refine ⟨_, rfl, v, d, rfl, hd, _, rfl, ite2 (fun c => ?_) (fun c => ?_)⟩
 ·cases hd with
  | int n =>
   refine ⟨_, rfl, _, _, rfl, rfl, _, rfl, ite2 (fun c2 => ?_) (fun c2 => ?_)⟩
   ·have c3 : decide (0 ≤ n) = true := c2
    have e : newIn ns (.int n) = !ns.contains n := by rw [newIn, c3, Bool.true_and]
    rw [e] at q
    exact ⟨_, rfl, _, rfl, a, n, ns, rfl, rfl, SqL.of ha, q⟩
   ·have c3 : decide (0 ≤ n) = false := by cases h : decide (0 ≤ n) with | true => exact absurd h c2 | false => rfl
    have e : newIn ns (.int n) = false := by rw [newIn, c3, Bool.false_and]
    rw [e] at q
    exact q
  | _ => cases c
 ·have e : newIn ns d = false := by cases d <;> first | rfl | exact absurd rfl c
  rw [e] at q
  exact q
theorem scWi : FnScope ["numbers", "number"] ["numbers", "number"] (defScope sWi) := ⟨rfl, rfl, rfl, by decide +kernel, rfl, by decide +kernel, by decide +kernel⟩
theorem ok_wi (F : Fun K "with_one" "with_one" sWi f fd) (B : Bt3 mg) : FnOk P w K mg base CX0 1 f fd ["numbers", "number"] spWi := by
 refine F.ok scWi (fun vs H Q E h => ?_) (fun cdv A outer s H vs Q E hr h => ?_)
 ·obtain ⟨a, ns, x, rfl, _⟩ := h
  rfl
 obtain ⟨a, ns, x, rfl, ha, hl, up, nx, q⟩ := h
 refine ⟨_, (@pss_one _ _ _ (ps_ret (pe_callB call_sorted rfl B.sorted boot_sorted (pa_cons (pe_op op_cat (pv 0) (pe_lst (pa_cons (pv 1) pa_nil))) pa_nil)))), ?_⟩
 have hml : (ns.map V.int).length = ns.length := List.length_map _
 refine ⟨_, rfl, _, rfl, (by show 1 ≤ sizeLine; decide), ?_⟩
 intro l1 hl1
 have g1 : Same H (upd H l1 (.lst [.int x])) := Same.new hl1 _
 refine ⟨a, l1, _, _, rfl, rfl, g1 _ _ ha, upd_same, by rw [hml]; show ns.length + 1 ≤ sizeLine; exact small (by omega), fun l2 hl2 => ?_⟩
 have g2 := g1.trans (Same.new hl2 (.lst (ns.map V.int ++ [.int x])))
 have e2 : ns.map V.int ++ [.int x] = (ns ++ [x]).map V.int := by rw [List.map_append]; rfl
 refine ⟨l2, ns ++ [x], rfl, SqL.of (by rw [upd_same, e2]), by rw [List.length_append, List.length_singleton]; omega, fun l ns' hl3 p st => ?_⟩
 rw [sorted_ins p st up nx]
 exact q l _ (g2.trans (Same.new hl3 _)) (none_of_same g2 hl3) upd_same
theorem scWo : FnScope ["numbers", "number"] ["numbers", "number"] (defScope sWo) := ⟨rfl, rfl, rfl, by decide +kernel, rfl, by decide +kernel, by decide +kernel⟩
theorem ok_wo (F : Fun K "without_one" "without_one" sWo f fd) : FnOk P w K mg base CX0 1 f fd ["numbers", "number"] spWo := by
 refine F.ok scWo (fun vs H Q E h => ?_) (fun cdv A outer s H vs Q E hr h => ?_)
 ·obtain ⟨a, ns, x, rfl, _⟩ := h
  rfl
 obtain ⟨a, ns, x, rfl, ha, hl, q⟩ := h
 refine ⟨_, (@pss_one _ _ _ (ps_ret (pe_comp ["other"] rfl (blk_ok (defScope sWo) ["numbers", "number"] rfl rfl (by decide +kernel)) (pi_list (pv 0)) (fun pins C fp s3 H3 => ⟨(pg_name (i := 0) (show (blkN ["other"] ["numbers", "number"]).Nodup by decide +kernel) rfl (Or.inl rfl)), (pif_one (pt_cmpR op_ne (pv 0) (pv 2) (nomark _))), (pv 0)⟩)))), ?_⟩
 have hml : (ns.map V.int).length = ns.length := List.length_map _
 refine ⟨_, rfl, a, rfl, ⟨_, SqL.of ha⟩, fun D hD => ?_⟩
 refine turns_list (σ := [some (.ref a), some (.int x)]) (xs := ns.map V.int) (fun i => decide (ns.getD i 0 ≠ x)) (fun i => .int (ns.getD i 0)) (SqL.of ha) hD (by omega) (fun i H' hi g P hP => ?_) (fun i H' hi _ g P hP => ?_) fun H2 g2 e2 => ?_
 ·rw [getD_map_int _ (by rw [hml] at hi; exact hi)]
  have e : (!decide (V.int (ns.getD i 0) = V.int x)) = decide (ns.getD i 0 ≠ x) := by simp
  refine ⟨_, rfl, _, rfl, rfl, _, rfl, ?_⟩
  rw [e]
  exact hP _ Same.rfl'
 ·rw [getD_map_int _ (by rw [hml] at hi; exact hi)]
  exact ⟨_, rfl, hP _ Same.rfl'⟩
 ·refine q D H2 g2 hD ?_
  rw [e2, hml]
  unfold delI
  rw [← range_getD_filter (fun v => decide (v ≠ x)) 0 ns, List.map_map]
  rfl
theorem scKIn : FnScope ["self", "plan"] ["self", "plan"] (defScope sKIn) := ⟨rfl, rfl, rfl, by decide +kernel, rfl, by decide +kernel, by decide +kernel⟩
theorem ok_kin0 (F : Fun K "__init__" "Keeper.__init__" sKIn f fd) (B : Bt3 mg) (T : KpT K C) (GC : FnOk P w K mg base CX0 4 g1 gd1 ["plan"] spCkP) (bC : Binds K gd1 ["plan"] []) (kC : Kee K g1) (mC : mg "check_plan" = some (.ref g1)) : FnOk P w K mg base CX0 5 f fd ["self", "plan"] (spKIn C) := by
 refine F.ok scKIn (fun vs H Q E h => ?_) (fun cdv A outer s H vs Q E hr h => ?_)
 ·obtain ⟨k, dx, t, a, b, ns, ss, rfl, _⟩ := h
  rfl
 obtain ⟨k, dx, t, a, b, ns, ss, rfl, hk, pl, q⟩ := h
 refine ⟨_, (@pss_cons _ _ _ _ _ (ps_expr (pe_call GC hr rfl mC kC bC .nil pass0 (pa_cons (pv 1) pa_nil))) (@pss_cons _ _ _ _ _ (ps_fld (pv 0) (pe_callTy call_list_of rfl B.list PyProof.Rows.boot_list (pa_cons (pe_ix ix_tup (pv 1) pe_int (fun _ _ => rfl)) pa_nil)) rfl) (@pss_one _ _ _ (ps_fld (pv 0) (pe_callTy call_list_of rfl B.list PyProof.Rows.boot_list (pa_cons (pe_ix ix_tup (pv 1) pe_int (fun _ _ => rfl)) pa_nil)) rfl)))), ?_⟩
 have tk : t ≠ k := ne_of pl.t hk (by intro z; cases z)
 have ak : a ≠ k := ne_of pl.a hk (by intro z; cases z)
 have bk : b ≠ k := ne_of pl.b hk (by intro z; cases z)
 refine ⟨_, rfl, t, a, b, ns, ss, rfl, pl, ?_⟩
 refine ⟨_, rfl, t, _, 0, _, rfl, rfl, SqT.of pl.t, rfl, a, _, rfl, .inl (SqL.of pl.a), fun l1 hl1 => ?_⟩
 have kl1 : k ≠ l1 := ne_of_none hk hl1
 have g1 : Same H (upd H l1 (.lst (ns.map V.int))) := Same.new hl1 _
 refine ⟨_, rfl, k, C, dx, _, rfl, g1 _ _ hk, T.cl, T.nN, (by show 0 < 1000; decide), ?_⟩
 have st : ∀ {c : Addr} {o : HO}, c ≠ k → H c = some o → ∀ {o1}, (upd (upd H l1 (.lst (ns.map V.int))) k o1) c = some o := fun {c o} hc h {o1} => by rw [upd_ne hc]; exact g1 _ _ h
 refine ⟨_, rfl, t, _, 1, _, rfl, rfl, SqT.of (st tk pl.t), rfl, b, _, rfl, .inl (SqL.of (st bk pl.b)), fun l2 hl2 => ?_⟩
 have kl2 : l2 ≠ k := fun z => by rw [z, upd_same] at hl2; cases hl2
 have l12 : l2 ≠ l1 := fun z => by rw [z, upd_ne (Ne.symm kl1), upd_same] at hl2; cases hl2
 have hl2' : H l2 = none := by rwa [upd_ne kl2, upd_ne l12] at hl2
 refine ⟨_, rfl, k, C, dx, _, rfl, by rw [upd_ne (Ne.symm kl2)]; exact upd_same, T.cl, T.nS, (by show 1 < 1000; decide), ?_⟩
 refine q l1 l2 _ (fun c o hc h => ?_) ⟨?_, ?_, ?_, pl.ok⟩ hl1 hl2'
 ·rw [upd_ne hc, upd_ne (ne_of_none h hl2'), upd_ne hc]
  exact g1 _ _ h
 ·rw [upd_same]
  rfl
 ·rw [upd_ne (Ne.symm kl1), upd_ne (Ne.symm l12), upd_ne (Ne.symm kl1), upd_same]
 ·rw [upd_ne kl2, upd_same]
theorem scKPl : FnScope ["self"] ["self"] (defScope sKPl) := ⟨rfl, rfl, rfl, by decide +kernel, rfl, by decide +kernel, by decide +kernel⟩
theorem ok_kpl (F : Fun K "plan" "Keeper.plan" sKPl f fd) (B : Bt3 mg) (T : KpT K C) : FnOk P w K mg base CX0 1 f fd ["self"] (spKPl C) := by
 refine F.ok scKPl (fun vs H Q E h => ?_) (fun cdv A outer s H vs Q E hr h => ?_)
 ·obtain ⟨k, dx, a, b, ns, ss, rfl, _⟩ := h
  rfl
 obtain ⟨k, dx, a, b, ns, ss, rfl, kp, q⟩ := h
 refine ⟨_, (@pss_one _ _ _ (ps_ret (pe_tup (pa_cons (pe_callTy call_list_of rfl B.list PyProof.Rows.boot_list (pa_cons (pe_fld (pv 0) rfl) pa_nil)) (pa_cons (pe_callTy call_list_of rfl B.list PyProof.Rows.boot_list (pa_cons (pe_fld (pv 0) rfl) pa_nil)) pa_nil))))), ?_⟩
 refine ⟨_, rfl, k, C, dx, _, _, rfl, kp.k, T.cl, T.nN, rfl, a, _, rfl, .inl (SqL.of kp.a), fun l1 hl1 => ?_⟩
 have g1 := Same.new hl1 (.lst (ns.map V.int))
 have k1 := kp.same g1
 refine ⟨_, rfl, k, C, dx, _, _, rfl, k1.k, T.cl, T.nS, rfl, b, _, rfl, .inl (SqL.of k1.b), fun l2 hl2 => ?_⟩
 have g2 := Same.new hl2 (.lst (ss.map V.int))
 refine ⟨two_le, fun t ht => ?_⟩
 have g3 := Same.new ht (.tup [.ref l1, .ref l2])
 have n2 : H l2 = none := none_of_same g1 hl2
 have n3 : H t = none := none_of_same (g1.trans g2) ht
 refine q t l1 l2 _ (g1.trans (g2.trans g3)) n3 hl1 n2 (fun z => by rw [← z, upd_same] at hl2; cases hl2) ⟨upd_same, g3 _ _ (g2 _ _ upd_same), g3 _ _ upd_same, kp.ok⟩
theorem scKCt : FnScope ["self"] ["self"] (defScope sKCt) := ⟨rfl, rfl, rfl, by decide +kernel, rfl, by decide +kernel, by decide +kernel⟩
theorem ok_kct (F : Fun K "count" "Keeper.count" sKCt f fd) (T : KpT K C) (mP : Meth K C "plan" g2) (GP : FnOk P w K mg base CX0 24 g2 gd2 ["self"] (spKPl C)) (bP : Binds K gd2 ["self"] [])
  (GR : FnOk P w K mg base CX0 24 g1 gd1 ["plan"] (spCount fun ns ss => cntW ns ss false)) (bR : Binds K gd1 ["plan"] []) (kR : Kee K g1) (mR : mg "count_rows" = some (.ref g1)) : FnOk P w K mg base CX0 25 f fd ["self"] (spKCt C) := by
 refine F.ok scKCt (fun vs H Q E h => ?_) (fun cdv A outer s H vs Q E hr h => ?_)
 ·obtain ⟨k, dx, a, b, ns, ss, rfl, _⟩ := h
  rfl
 obtain ⟨k, dx, a, b, ns, ss, rfl, kp, q⟩ := h
 refine ⟨_, (@pss_one _ _ _ (ps_ret (pe_call GR hr rfl mR kR bR .nil pass0 (pa_cons (pe_meth0 (pv 0) T.cl mP GP hr bP .nil pass0) pa_nil)))), ?_⟩
 exact ⟨_, rfl, k, dx, _, rfl, kp.k, rfl, k, dx, a, b, ns, ss, rfl, kp, fun t a' b' H1 g1 _ _ _ _ pl => ⟨t, a', b', ns, ss, rfl, pl, fun H2 g2 => q _ (g1.trans g2)⟩⟩
theorem scKFi : FnScope ["self"] ["self"] (defScope sKFi) := ⟨rfl, rfl, rfl, by decide +kernel, rfl, by decide +kernel, by decide +kernel⟩
theorem ok_kfi (F : Fun K "first" "Keeper.first" sKFi f fd) (T : KpT K C) (mP : Meth K C "plan" g2) (GP : FnOk P w K mg base CX0 24 g2 gd2 ["self"] (spKPl C)) (bP : Binds K gd2 ["self"] [])
  (GR : FnOk P w K mg base CX0 24 g1 gd1 ["plan"] (spFRow false)) (bR : Binds K gd1 ["plan"] []) (kR : Kee K g1) (mR : mg "first_row" = some (.ref g1)) : FnOk P w K mg base CX0 25 f fd ["self"] (spKFi C) := by
 refine F.ok scKFi (fun vs H Q E h => ?_) (fun cdv A outer s H vs Q E hr h => ?_)
 ·obtain ⟨k, dx, a, b, ns, ss, rfl, _⟩ := h
  rfl
 obtain ⟨k, dx, a, b, ns, ss, rfl, kp, qn, qs⟩ := h
 refine ⟨_, (@pss_one _ _ _ (ps_ret (pe_call GR hr rfl mR kR bR .nil pass0 (pa_cons (pe_meth0 (pv 0) T.cl mP GP hr bP .nil pass0) pa_nil)))), ?_⟩
 exact ⟨_, rfl, k, dx, _, rfl, kp.k, rfl, k, dx, a, b, ns, ss, rfl, kp, fun t a' b' H1 g1 _ _ _ _ pl => ⟨t, a', b', ns, ss, rfl, pl, fun hw H2 g2 => qn hw _ (g1.trans g2), fun hw l H2 g2 hl el => qs hw l _ (g1.trans g2) (none_of_same g1 hl) el⟩⟩
theorem scKCh : FnScope ["self", "numbers", "sums", "before"] ["self", "numbers", "sums"] (defScope sKCh) := ⟨rfl, rfl, rfl, by decide +kernel, rfl, by decide +kernel, by decide +kernel⟩
theorem ok_kch (F : Fun K "change_to" "Keeper.change_to" sKCh f fd) (T : KpT K C) (mT : Meth K C "count" g2) (GT : FnOk P w K mg base CX0 25 g2 gd2 ["self"] (spKCt C)) (bT : Binds K gd2 ["self"] []) : FnOk P w K mg base CX0 26 f fd ["self", "numbers", "sums"] (spKCh C) := by
 refine F.ok scKCh (fun vs H Q E h => ?_) (fun cdv A outer s H vs Q E hr h => ?_)
 ·obtain ⟨k, dx, a, b, a', b', ns, ss, ns', ss', rfl, _⟩ := h
  rfl
 obtain ⟨k, dx, a, b, a', b', ns, ss, ns', ss', rfl, kp, ha', hb', ok', q⟩ := h
 refine ⟨_, (@pss_cons _ _ _ _ _ (ps_set (i := 3) scKCh.nd rfl (Or.inl rfl) (pe_meth0 (pv 0) T.cl mT GT hr bT .nil pass0)) (@pss_cons _ _ _ _ _ (ps_fld (pv 0) (pv 1) rfl) (@pss_cons _ _ _ _ _ (ps_fld (pv 0) (pv 2) rfl) (@pss_one _ _ _ (ps_ret (pe_tup (pa_cons (pv 3) (pa_cons (pe_meth0 (pv 0) T.cl mT GT hr bT .nil pass0) pa_nil)))))))), ?_⟩
 refine ⟨_, rfl, k, dx, _, rfl, kp.k, rfl, k, dx, a, b, ns, ss, rfl, kp, fun H1 g1 => ?_⟩
 have ak : a' ≠ k := ne_of ha' kp.k (by intro z; cases z)
 have bk : b' ≠ k := ne_of hb' kp.k (by intro z; cases z)
 refine ⟨_, rfl, _, rfl, k, C, dx, _, rfl, g1 _ _ kp.k, T.cl, T.nN, (by show 2 < 1000; decide), ?_⟩
 refine ⟨_, rfl, _, rfl, k, C, dx, _, rfl, upd_same, T.cl, T.nS, (by show 2 < 1000; decide), ?_⟩
 have kp2 : Kp (upd (upd H1 k (.ins C dx [("numbers", .ref a'), ("sums", .ref b)])) k (.ins C dx [("numbers", .ref a'), ("sums", .ref b')])) C k dx a' b' ns' ss' := ⟨upd_same, by rw [upd_ne ak, upd_ne ak]; exact g1 _ _ ha', by rw [upd_ne bk, upd_ne bk]; exact g1 _ _ hb', ok'⟩
 refine ⟨_, rfl, _, rfl, k, dx, _, rfl, kp2.k, rfl, k, dx, a', b', ns', ss', rfl, kp2, fun H2 g2 => ?_⟩
 refine ⟨two_le, fun t ht => ?_⟩
 have g3 := Same.new ht (.tup [.int (cntW ns ss false : Nat), .int (cntW ns' ss' false : Nat)])
 have ex : Ex (· = k) H H2 := fun c o hc h => g2 _ _ (by rw [upd_ne hc, upd_ne hc]; exact g1 _ _ h)
 refine q t _ (ex.trans (Ex.same g3)) ?_ upd_same ((kp2.same g2).same g3)
 cases e : H t with
 | none => rfl
 | some o =>
  by_cases z : t = k
  ·rw [z, g2 _ _ kp2.k] at ht; cases ht
  ·rw [ex _ _ z e] at ht; cases ht
end
def dueC (ns : List Int) (d : PyData) : Nat := if 10 ≤ ns.length then 1 else if newIn ns d = true then 0 else 2
def spDeed (C XT XW : Addr) (due : List Int → List Int → PyData → Nat) (aft : List Int → List Int → Int → List Int × List Int) : Sp := fun vs H Q E => ∃ (k dx a b : Addr) (ns ss : List Int) (v : V) (d : PyData), vs = [.ref k, v] ∧ Kp H C k dx a b ns ss ∧ Dat H v d ∧
 (due ns ss d = 1 → E (.ref XT) none H) ∧ (due ns ss d = 2 → E (.ref XW) none H) ∧
 (due ns ss d = 0 → ∀ x : Int, v = .int x → d = .int x → PlanOk (aft ns ss x).1 (aft ns ss x).2 → ∀ (t a' b' : Addr) (H' : Hp), Ex (· = k) H H' → H t = none → H' t = some (.tup [.int (cntW ns ss false : Nat), .int (cntW (aft ns ss x).1 (aft ns ss x).2 false : Nat)]) →
  Kp H' C k dx a' b' (aft ns ss x).1 (aft ns ss x).2 → (a' = a ∨ H a' = none) → (b' = b ∨ H b' = none) → Q (.ref t) H')
abbrev sKCo : Stmt := inClass (top 41) 5
def dueCo : List Int → List Int → PyData → Nat := fun ns _ d => dueC ns d
def aftCo : List Int → List Int → Int → List Int × List Int := fun ns ss x => (insI x ns, ss)
section
variable {f g1 g2 g3 g4 C XT XW : Addr} {fd gd1 gd2 gd3 gd4 : FuncData}
theorem scKCo : FnScope ["self", "number"] ["self", "number"] (defScope sKCo) := ⟨rfl, rfl, rfl, by decide +kernel, rfl, by decide +kernel, by decide +kernel⟩
theorem ok_kco (F : Fun K "come" "Keeper.come" sKCo f fd) (B : Bt3 mg) (T : KpT K C) (eXW : PySem.W.excIn K XW bmV "ValueError.__new__" = true) (mXW : mg "NoNumber" = some (.ref XW))
  (GR : FnOk P w K mg base (CX1 P w) 26 g1 gd1 ["numbers"] (spRoom XT)) (bR : Binds K gd1 ["numbers"] []) (kR : Kee K g1) (mR : mg "check_room" = some (.ref g1))
  (GI : FnOk P w K mg base CX0 26 g2 gd2 ["numbers", "thing"] (spTold newIn)) (bI : Binds K gd2 ["numbers", "thing"] []) (kI : Kee K g2) (mI : mg "is_new" = some (.ref g2))
  (GW : FnOk P w K mg base CX0 26 g3 gd3 ["numbers", "number"] spWi) (bW : Binds K gd3 ["numbers", "number"] []) (kW : Kee K g3) (mW : mg "with_one" = some (.ref g3))
  (mC : Meth K C "change_to" g4) (GC : FnOk P w K mg base CX0 26 g4 gd4 ["self", "numbers", "sums"] (spKCh C)) (bC : Binds K gd4 ["self", "numbers", "sums"] []) : FnOk P w K mg base (CX1 P w) 27 f fd ["self", "number"] (spDeed C XT XW dueCo aftCo) := by
 refine F.ok1 scKCo (fun vs H Q E h => ?_) (fun cdv A outer s H vs Q E hr h => ?_)
 ·obtain ⟨k, dx, a, b, ns, ss, v, d, rfl, _⟩ := h
  rfl
 obtain ⟨k, dx, a, b, ns, ss, v, d, rfl, kp, hd, q1, q2, q⟩ := h
 refine ⟨_, (@pss_cons _ _ _ _ _ (ps_expr (pe_call GR hr rfl mR kR bR .nil pass1 (pa_cons (pe_fld (pv 0) rfl) pa_nil))) (@pss_cons _ _ _ _ _ (ps_if (pt_not (pt_val (pe_call GI hr rfl mI kI bI .nil pass0 (pa_cons (pe_fld (pv 0) rfl) (pa_cons (pv 1) pa_nil))))) (@pss_one _ _ _ (ps_raise raises1 rfl PySem.F.excBase_ValueError eXW rfl mXW (pa_cons pe_str pa_nil))) pss_nil) (@pss_one _ _ _ (ps_ret (pe_meth (pv 0) T.cl mC GC hr bC .nil pass0 (pa_cons (pe_call GW hr rfl mW kW bW .nil pass0 (pa_cons (pe_fld (pv 0) rfl) (pa_cons (pv 1) pa_nil))) (pa_cons (pe_fld (pv 0) rfl) pa_nil))))))), ?_⟩
 refine ⟨_, rfl, k, C, dx, _, _, rfl, kp.k, T.cl, T.nN, rfl, a, ns, rfl, kp.a, fun r1 => ?_, fun r1 => q1 ?_⟩
 rotate_left
 ·unfold dueCo dueC
  rw [if_pos r1]
 refine ⟨_, rfl, k, C, dx, _, _, rfl, kp.k, T.cl, T.nN, rfl, _, rfl, a, ns, v, d, rfl, kp.a, hd, _, rfl, ite2 (fun c => ?_) (fun c => ?_)⟩
 ·refine ⟨by decide, q2 ?_⟩
  unfold dueCo dueC
  rw [if_neg (by omega), if_neg (fun z => by rw [z] at c; cases c)]
 have hn : newIn ns d = true := by cases e : newIn ns d with | true => rfl | false => exact absurd (show (!newIn ns d) = true by rw [e]; rfl) c
 obtain ⟨x, rfl, rfl, nx, x0⟩ := new_back hd hn
 have d0 : dueCo ns ss (.int x) = 0 := by unfold dueCo dueC; rw [if_neg (by omega), if_pos hn]
 refine ⟨_, rfl, k, dx, _, rfl, kp.k, rfl, _, rfl, k, C, dx, _, _, rfl, kp.k, T.cl, T.nN, rfl, _, rfl, a, ns, x, rfl, kp.a, by have := kp.ok.n2; omega, kp.ok.n.up, nx, fun l H1 g1 hl el => ?_⟩
 have k1 := kp.same g1
 refine ⟨_, rfl, k, C, dx, _, _, rfl, k1.k, T.cl, T.nS, rfl, k, dx, a, b, l, b, ns, ss, _, ss, rfl, k1, el, k1.b, (ins_ok kp.ok nx x0 r1), fun t H2 ex ht et k2 => ?_⟩
 exact q d0 x rfl rfl (ins_ok kp.ok nx x0 r1) t l b H2 ((Ex.same g1).trans ex) (none_of_same g1 ht) et k2 (.inr hl) (.inl rfl)
end
abbrev sKGo : Stmt := inClass (top 41) 6
def dueGo : List Int → List Int → PyData → Nat := fun ns _ d => if (numIn ns d && decide (ns.length ≠ 1)) = true then 0 else 2
def aftGo : List Int → List Int → Int → List Int × List Int := fun ns ss x => (delI x ns, ss)
section
variable {f g1 g2 g3 g4 C XT XW : Addr} {fd gd1 gd2 gd3 gd4 : FuncData}
theorem scKGo : FnScope ["self", "number"] ["self", "number"] (defScope sKGo) := ⟨rfl, rfl, rfl, by decide +kernel, rfl, by decide +kernel, by decide +kernel⟩
theorem ok_kgo (F : Fun K "go" "Keeper.go" sKGo f fd) (B : Bt3 mg) (T : KpT K C) (eXW : PySem.W.excIn K XW bmV "ValueError.__new__" = true) (mXW : mg "NoNumber" = some (.ref XW))
  (GI : FnOk P w K mg base CX0 26 g2 gd2 ["numbers", "thing"] (spTold numIn)) (bI : Binds K gd2 ["numbers", "thing"] []) (kI : Kee K g2) (mI : mg "stands_in" = some (.ref g2))
  (GW : FnOk P w K mg base CX0 26 g3 gd3 ["numbers", "number"] spWo) (bW : Binds K gd3 ["numbers", "number"] []) (kW : Kee K g3) (mW : mg "without_one" = some (.ref g3))
  (mC : Meth K C "change_to" g4) (GC : FnOk P w K mg base CX0 26 g4 gd4 ["self", "numbers", "sums"] (spKCh C)) (bC : Binds K gd4 ["self", "numbers", "sums"] []) : FnOk P w K mg base (CX1 P w) 27 f fd ["self", "number"] (spDeed C XT XW dueGo aftGo) := by
 refine F.ok1 scKGo (fun vs H Q E h => ?_) (fun cdv A outer s H vs Q E hr h => ?_)
 ·obtain ⟨k, dx, a, b, ns, ss, v, d, rfl, _⟩ := h
  rfl
 obtain ⟨k, dx, a, b, ns, ss, v, d, rfl, kp, hd, q1, q2, q⟩ := h
 refine ⟨_, (@pss_cons _ _ _ _ _ (ps_if (PW.pt (pw_or (pt_not (pt_val (pe_call GI hr rfl mI kI bI .nil pass0 (pa_cons (pe_fld (pv 0) rfl) (pa_cons (pv 1) pa_nil))))) (pw_or1 (pt_cmpR op_eq (pe_callB call_len_seq rfl B.len PySem.boot_len (pa_cons (pe_fld (pv 0) rfl) pa_nil)) pe_int (nomark _))))) (@pss_one _ _ _ (ps_raise raises1 rfl PySem.F.excBase_ValueError eXW rfl mXW (pa_cons pe_str pa_nil))) pss_nil) (@pss_one _ _ _ (ps_ret (pe_meth (pv 0) T.cl mC GC hr bC .nil pass0 (pa_cons (pe_call GW hr rfl mW kW bW .nil pass0 (pa_cons (pe_fld (pv 0) rfl) (pa_cons (pv 1) pa_nil))) (pa_cons (pe_fld (pv 0) rfl) pa_nil)))))), ?_⟩
 refine ⟨_, rfl, k, C, dx, _, _, rfl, kp.k, T.cl, T.nN, rfl, _, rfl, a, ns, v, d, rfl, kp.a, hd, _, rfl, ?_⟩
 have hml : (ns.map V.int).length = ns.length := List.length_map _
 cases hn : numIn ns d with
 | false =>
  refine iteT (iteT ⟨by decide, q2 ?_⟩)
  unfold dueGo
  rw [hn, if_neg (by simp)]
 | true =>
  refine iteF ?_
  refine ⟨_, rfl, k, C, dx, _, _, rfl, kp.k, T.cl, T.nN, rfl, a, _, rfl, .inl (SqL.of kp.a), rfl, _, rfl, ite2 (fun c => ?_) (fun c => ?_)⟩
  ·refine ⟨by decide, q2 ?_⟩
   have c' : ((((ns.map V.int).length : Nat) : Int)) = 1 := V.int.inj (of_decide_eq_true c)
   rw [hml] at c'
   unfold dueGo
   rw [if_neg (fun z => by rw [Bool.and_eq_true] at z; exact of_decide_eq_true z.2 (by omega))]
  have l1 : ns.length ≠ 1 := fun z => c (decide_eq_true (by rw [hml, z]; rfl))
  obtain ⟨x, rfl, rfl, nx⟩ := num_back hd hn
  have d0 : dueGo ns ss (.int x) = 0 := by unfold dueGo; rw [if_pos (by rw [hn, decide_eq_true l1]; rfl)]
  refine ⟨_, rfl, k, dx, _, rfl, kp.k, rfl, _, rfl, k, C, dx, _, _, rfl, kp.k, T.cl, T.nN, rfl, _, rfl, a, ns, x, rfl, kp.a, by have := kp.ok.n2; omega, fun l H1 g1 hl el => ?_⟩
  have k1 := kp.same g1
  refine ⟨_, rfl, k, C, dx, _, _, rfl, k1.k, T.cl, T.nS, rfl, k, dx, a, b, l, b, ns, ss, _, ss, rfl, k1, el, k1.b, (del_ok kp.ok nx l1), fun t H2 ex ht et k2 => ?_⟩
  exact q d0 x rfl rfl (del_ok kp.ok nx l1) t l b H2 ((Ex.same g1).trans ex) (none_of_same g1 ht) et k2 (.inr hl) (.inl rfl)
end
abbrev sKSc : Stmt := inClass (top 41) 7
def dueSc : List Int → List Int → PyData → Nat := fun _ ss d => dueC ss d
def aftSc : List Int → List Int → Int → List Int × List Int := fun ns ss x => (ns, insI x ss)
section
variable {f g1 g2 g3 g4 C XT XW : Addr} {fd gd1 gd2 gd3 gd4 : FuncData}
theorem scKSc : FnScope ["self", "number"] ["self", "number"] (defScope sKSc) := ⟨rfl, rfl, rfl, by decide +kernel, rfl, by decide +kernel, by decide +kernel⟩
theorem ok_ksc (F : Fun K "sum_comes" "Keeper.sum_comes" sKSc f fd) (B : Bt3 mg) (T : KpT K C) (eXW : PySem.W.excIn K XW bmV "ValueError.__new__" = true) (mXW : mg "NoSum" = some (.ref XW))
  (GR : FnOk P w K mg base (CX1 P w) 26 g1 gd1 ["numbers"] (spRoom XT)) (bR : Binds K gd1 ["numbers"] []) (kR : Kee K g1) (mR : mg "check_room" = some (.ref g1))
  (GI : FnOk P w K mg base CX0 26 g2 gd2 ["numbers", "thing"] (spTold newIn)) (bI : Binds K gd2 ["numbers", "thing"] []) (kI : Kee K g2) (mI : mg "is_new" = some (.ref g2))
  (GW : FnOk P w K mg base CX0 26 g3 gd3 ["numbers", "number"] spWi) (bW : Binds K gd3 ["numbers", "number"] []) (kW : Kee K g3) (mW : mg "with_one" = some (.ref g3))
  (mC : Meth K C "change_to" g4) (GC : FnOk P w K mg base CX0 26 g4 gd4 ["self", "numbers", "sums"] (spKCh C)) (bC : Binds K gd4 ["self", "numbers", "sums"] []) : FnOk P w K mg base (CX1 P w) 27 f fd ["self", "number"] (spDeed C XT XW dueSc aftSc) := by
 refine F.ok1 scKSc (fun vs H Q E h => ?_) (fun cdv A outer s H vs Q E hr h => ?_)
 ·obtain ⟨k, dx, a, b, ns, ss, v, d, rfl, _⟩ := h
  rfl
 obtain ⟨k, dx, a, b, ns, ss, v, d, rfl, kp, hd, q1, q2, q⟩ := h
 refine ⟨_, (@pss_cons _ _ _ _ _ (ps_expr (pe_call GR hr rfl mR kR bR .nil pass1 (pa_cons (pe_fld (pv 0) rfl) pa_nil))) (@pss_cons _ _ _ _ _ (ps_if (pt_not (pt_val (pe_call GI hr rfl mI kI bI .nil pass0 (pa_cons (pe_fld (pv 0) rfl) (pa_cons (pv 1) pa_nil))))) (@pss_one _ _ _ (ps_raise raises1 rfl PySem.F.excBase_ValueError eXW rfl mXW (pa_cons pe_str pa_nil))) pss_nil) (@pss_one _ _ _ (ps_ret (pe_meth (pv 0) T.cl mC GC hr bC .nil pass0 (pa_cons (pe_fld (pv 0) rfl) (pa_cons (pe_call GW hr rfl mW kW bW .nil pass0 (pa_cons (pe_fld (pv 0) rfl) (pa_cons (pv 1) pa_nil))) pa_nil))))))), ?_⟩
 refine ⟨_, rfl, k, C, dx, _, _, rfl, kp.k, T.cl, T.nS, rfl, b, ss, rfl, kp.b, fun r1 => ?_, fun r1 => q1 ?_⟩
 rotate_left
 ·unfold dueSc dueC
  rw [if_pos r1]
 refine ⟨_, rfl, k, C, dx, _, _, rfl, kp.k, T.cl, T.nS, rfl, _, rfl, b, ss, v, d, rfl, kp.b, hd, _, rfl, ite2 (fun c => ?_) (fun c => ?_)⟩
 ·refine ⟨by decide, q2 ?_⟩
  unfold dueSc dueC
  rw [if_neg (by omega), if_neg (fun z => by rw [z] at c; cases c)]
 have hn : newIn ss d = true := by cases e : newIn ss d with | true => rfl | false => exact absurd (show (!newIn ss d) = true by rw [e]; rfl) c
 obtain ⟨x, rfl, rfl, nx, x0⟩ := new_back hd hn
 have d0 : dueSc ns ss (.int x) = 0 := by unfold dueSc dueC; rw [if_neg (by omega), if_pos hn]
 refine ⟨_, rfl, k, dx, _, rfl, kp.k, rfl, _, rfl, k, C, dx, _, _, rfl, kp.k, T.cl, T.nN, rfl, _, rfl, k, C, dx, _, _, rfl, kp.k, T.cl, T.nS, rfl, _, rfl, b, ss, x, rfl, kp.b, by have := kp.ok.s2; omega, kp.ok.s.up, nx, fun l H1 g1 hl el => ?_⟩
 have k1 := kp.same g1
 refine ⟨k, dx, a, b, a, l, ns, ss, ns, _, rfl, k1, k1.a, el, (ins_okS kp.ok nx x0 r1), fun t H2 ex ht et k2 => ?_⟩
 exact q d0 x rfl rfl (ins_okS kp.ok nx x0 r1) t a l H2 ((Ex.same g1).trans ex) (none_of_same g1 ht) et k2 (.inl rfl) (.inr hl)
end
abbrev sKSg : Stmt := inClass (top 41) 8
def dueSg : List Int → List Int → PyData → Nat := fun _ ss d => if numIn ss d = true then 0 else 2
def aftSg : List Int → List Int → Int → List Int × List Int := fun ns ss x => (ns, delI x ss)
section
variable {f g1 g2 g3 g4 C XT XW : Addr} {fd gd1 gd2 gd3 gd4 : FuncData}
theorem scKSg : FnScope ["self", "number"] ["self", "number"] (defScope sKSg) := ⟨rfl, rfl, rfl, by decide +kernel, rfl, by decide +kernel, by decide +kernel⟩
theorem ok_ksg (F : Fun K "sum_goes" "Keeper.sum_goes" sKSg f fd) (B : Bt3 mg) (T : KpT K C) (eXW : PySem.W.excIn K XW bmV "ValueError.__new__" = true) (mXW : mg "NoSum" = some (.ref XW))
  (GI : FnOk P w K mg base CX0 26 g2 gd2 ["numbers", "thing"] (spTold numIn)) (bI : Binds K gd2 ["numbers", "thing"] []) (kI : Kee K g2) (mI : mg "stands_in" = some (.ref g2))
  (GW : FnOk P w K mg base CX0 26 g3 gd3 ["numbers", "number"] spWo) (bW : Binds K gd3 ["numbers", "number"] []) (kW : Kee K g3) (mW : mg "without_one" = some (.ref g3))
  (mC : Meth K C "change_to" g4) (GC : FnOk P w K mg base CX0 26 g4 gd4 ["self", "numbers", "sums"] (spKCh C)) (bC : Binds K gd4 ["self", "numbers", "sums"] []) : FnOk P w K mg base (CX1 P w) 27 f fd ["self", "number"] (spDeed C XT XW dueSg aftSg) := by
 refine F.ok1 scKSg (fun vs H Q E h => ?_) (fun cdv A outer s H vs Q E hr h => ?_)
 ·obtain ⟨k, dx, a, b, ns, ss, v, d, rfl, _⟩ := h
  rfl
 obtain ⟨k, dx, a, b, ns, ss, v, d, rfl, kp, hd, q1, q2, q⟩ := h
 refine ⟨_, (@pss_cons _ _ _ _ _ (ps_if (pt_not (pt_val (pe_call GI hr rfl mI kI bI .nil pass0 (pa_cons (pe_fld (pv 0) rfl) (pa_cons (pv 1) pa_nil))))) (@pss_one _ _ _ (ps_raise raises1 rfl PySem.F.excBase_ValueError eXW rfl mXW (pa_cons pe_str pa_nil))) pss_nil) (@pss_one _ _ _ (ps_ret (pe_meth (pv 0) T.cl mC GC hr bC .nil pass0 (pa_cons (pe_fld (pv 0) rfl) (pa_cons (pe_call GW hr rfl mW kW bW .nil pass0 (pa_cons (pe_fld (pv 0) rfl) (pa_cons (pv 1) pa_nil))) pa_nil)))))), ?_⟩
 refine ⟨_, rfl, k, C, dx, _, _, rfl, kp.k, T.cl, T.nS, rfl, _, rfl, b, ss, v, d, rfl, kp.b, hd, _, rfl, ite2 (fun c => ?_) (fun c => ?_)⟩
 ·refine ⟨by decide, q2 ?_⟩
  unfold dueSg
  rw [if_neg (fun z => by rw [z] at c; cases c)]
 have hn : numIn ss d = true := by cases e : numIn ss d with | true => rfl | false => exact absurd (show (!numIn ss d) = true by rw [e]; rfl) c
 obtain ⟨x, rfl, rfl, nx⟩ := num_back hd hn
 have d0 : dueSg ns ss (.int x) = 0 := by unfold dueSg; rw [if_pos hn]
 refine ⟨_, rfl, k, dx, _, rfl, kp.k, rfl, _, rfl, k, C, dx, _, _, rfl, kp.k, T.cl, T.nN, rfl, _, rfl, k, C, dx, _, _, rfl, kp.k, T.cl, T.nS, rfl, _, rfl, b, ss, x, rfl, kp.b, by have := kp.ok.s2; omega, fun l H1 g1 hl el => ?_⟩
 have k1 := kp.same g1
 refine ⟨k, dx, a, b, a, l, ns, ss, ns, _, rfl, k1, k1.a, el, (del_okS kp.ok nx), fun t H2 ex ht et k2 => ?_⟩
 exact q d0 x rfl rfl (del_okS kp.ok nx) t a l H2 ((Ex.same g1).trans ex) (none_of_same g1 ht) et k2 (.inl rfl) (.inr hl)
end
theorem seq_postK {t u : TS} {D : Ends} {σ : L2.St} {H : Hp} (R : L2.St → Hp → Prop) (ht : ∀ N : L2.St → Hp → Prop, (∀ σ' H', R σ' H' → N σ' H') → t { D with nx := N } σ H) (hu : ∀ σ' H', R σ' H' → u D σ' H') : tSeq t u D σ H := ht _ hu
def Ex2 (d k : Addr) : Hp → Hp → Prop := Ex fun b => b = d ∨ b = k
structure KD (H : Hp) (C d k dx a b : Addr) (ns ss : List Int) : Prop where
 kp : Kp H C k dx a b ns ss
 st : StT H d
 ad : a ≠ d
 bd : b ≠ d
theorem KD.dk {H : Hp} {C d k dx a b : Addr} {ns ss : List Int} (h : KD H C d k dx a b ns ss) : k ≠ d := by
 obtain ⟨x, y, z, e⟩ := h.st
 exact ne_of h.kp.k e (by intro q; cases q)
theorem KD.same {H H' : Hp} {C d k dx a b : Addr} {ns ss : List Int} (h : KD H C d k dx a b ns ss) (g : Same H H') : KD H' C d k dx a b ns ss := ⟨h.kp.same g, h.st.ex g, h.ad, h.bd⟩
theorem KD.ex {H H' : Hp} {C d k dx a b : Addr} {ns ss : List Int} (h : KD H C d k dx a b ns ss) (e : Ex (· = d) H H') (S : StT H' d) : KD H' C d k dx a b ns ss :=
 ⟨⟨e _ _ h.dk h.kp.k, e _ _ h.ad h.kp.a, e _ _ h.bd h.kp.b, h.kp.ok⟩, S, h.ad, h.bd⟩
theorem KD.to {H H' : Hp} {C d k dx a b a' b' : Addr} {ns ss ns' ss' : List Int} (h : KD H C d k dx a b ns ss) (e : Ex (· = k) H H') (k' : Kp H' C k dx a' b' ns' ss') (ha : a' = a ∨ H a' = none) (hb : b' = b ∨ H b' = none) : KD H' C d k dx a' b' ns' ss' := by
 obtain ⟨x, y, z, q⟩ := h.st
 refine ⟨k', ⟨x, y, z, e _ _ (Ne.symm h.dk) q⟩, ?_, ?_⟩
 ·rcases ha with r | r
  ·rw [r]; exact h.ad
  ·exact fun w => by rw [w, q] at r; cases r
 ·rcases hb with r | r
  ·rw [r]; exact h.bd
  ·exact fun w => by rw [w, q] at r; cases r
theorem Ex2.of_d {d k : Addr} {H H' : Hp} (e : Ex (· = d) H H') : Ex2 d k H H' := Ex.wide e fun _ h => .inl h
theorem Ex2.of_k {d k : Addr} {H H' : Hp} (e : Ex (· = k) H H') : Ex2 d k H H' := Ex.wide e fun _ h => .inr h
theorem dueC_ok {l : List Int} {x : Int} (n : x ∉ l) (x0 : 0 ≤ x) (h : l.length < 10) : dueC l (.int x) = 0 := by
 have e : newIn l (.int x) = true := by
  show (decide (0 ≤ x) && !l.contains x) = true
  rw [decide_eq_true x0, Bool.true_and, Bool.not_eq_true']
  exact Bool.eq_false_iff.mpr fun z => n (List.contains_iff_mem.mp z)
 unfold dueC
 rw [if_neg (by omega), if_pos e]
theorem dueSg_ok {l m : List Int} {x : Int} (n : x ∈ m) : dueSg l m (.int x) = 0 := by
 have e : numIn m (.int x) = true := List.contains_iff_mem.mpr n
 unfold dueSg
 rw [if_pos e]
def S1 (d : Addr) : Addr → Prop := fun b => b = d
structure Lv (d : Addr) (H0 H : Hp) (bs : List (Addr × HO)) : Prop where
 D : StT H d
 G : Same (msk (S1 d) H0) (msk (S1 d) H)
 L : ∀ x ∈ bs, msk (S1 d) H x.1 = some x.2
 F : ∀ x ∈ bs, msk (S1 d) H0 x.1 = none
 nd : (bs.map Prod.fst).Nodup
theorem StT.out3 {H : Hp} {d x : Addr} (D : StT H d) (h : H x = none) : ¬ S1 d x := D.out h
section
variable {d : Addr} {H0 H : Hp} {bs : List (Addr × HO)}
theorem Lv.start (D : StT H d) : Lv d H H [] := ⟨D, fun _ _ h => h, (fun _ h => nomatch h), (fun _ h => nomatch h), List.nodup_nil⟩
theorem Lv.new (h : Lv d H0 H bs) {q : Addr} (hq : H q = none) (o : HO) : Lv d H0 (upd H q o) ((q, o) :: bs) := by
 have sm : Same H (upd H q o) := Same.new hq o
 refine ⟨h.D.ex sm, fun b u e => msk_same sm _ _ (h.G _ _ e), fun x hx => ?_, fun x hx => ?_, ?_⟩
 ·rcases List.mem_cons.mp hx with e | e
  ·rw [e]
   show msk (S1 d) (upd H q o) q = some o
   rw [msk_in (h.D.out3 hq)]
   exact upd_same
  ·exact msk_same sm _ _ (h.L x e)
 ·rcases List.mem_cons.mp hx with e | e
  ·rw [e]
   show msk (S1 d) H0 q = none
   cases z : msk (S1 d) H0 q with
   | none => rfl
   | some u =>
    have y := msk_le _ _ (h.G _ _ z)
    rw [hq] at y
    cases y
  ·exact h.F x e
 ·rw [List.map_cons, List.nodup_cons]
  refine ⟨fun z => ?_, h.nd⟩
  obtain ⟨x, hx, e⟩ := List.mem_map.mp z
  have y := msk_le _ _ (h.L x hx)
  rw [e] at y
  change H q = _ at y
  rw [hq] at y
  cases y
theorem Lv.mv (h : Lv d H0 H bs) {H' : Hp} (D : StT H' d) (g : Same (msk (S1 d) H) (msk (S1 d) H')) : Lv d H0 H' bs := ⟨D, fun b u e => g _ _ (h.G _ _ e), fun x hx => g _ _ (h.L x hx), h.F, h.nd⟩
theorem off_msk {H' : Hp} (o : OffT d H H') : Same (msk (S1 d) H) (msk (S1 d) H') := fun b u e => by
 obtain ⟨n, e⟩ := msk_some e
 rw [msk_in n]
 exact (o b fun z => n z).trans e
theorem Lv.m (h : Lv d H0 H bs) {q : Addr} {o : HO} (e : (q, o) ∈ bs) : msk (S1 d) H q = some o := h.L _ e
theorem Lv.at (h : Lv d H0 H bs) {q : Addr} {o : HO} (e : (q, o) ∈ bs) : H q = some o := msk_le _ _ (h.L _ e)
theorem Lv.old (h : Lv d H0 H bs) {q : Addr} {o : HO} (e : msk (S1 d) H0 q = some o) : H q = some o := msk_le _ _ (h.G _ _ e)
end
theorem Lv.drop1 {d : Addr} {H0 H : Hp} {bs : List (Addr × HO)} {x y : Addr × HO} (h : Lv d H0 H (x :: y :: bs)) : Lv d H0 H (x :: bs) := by
 have m : ∀ z, z ∈ x :: bs → z ∈ x :: y :: bs := fun z hz => by
  rcases List.mem_cons.mp hz with e | e
  ·rw [e]; exact List.mem_cons_self
  ·exact List.mem_cons_of_mem _ (List.mem_cons_of_mem _ e)
 exact ⟨h.D, h.G, fun z hz => h.L z (m z hz), fun z hz => h.F z (m z hz), h.nd.sublist (List.Sublist.map _ (((List.Sublist.refl bs).cons y).cons_cons x))⟩
theorem Lv.drop2 {d : Addr} {H0 H : Hp} {bs : List (Addr × HO)} {x y z : Addr × HO} (h : Lv d H0 H (x :: y :: z :: bs)) : Lv d H0 H (x :: bs) := (h.drop1).drop1
theorem cut_mem {xs : List V} {lo hi : Option Int} {x : V} (h : x ∈ cutV xs lo hi) : x ∈ xs := List.mem_of_mem_drop (List.mem_of_mem_take h)
structure QE (X : Cx) (e : Expr) (t : TE) : Prop where
 h : PE X e t
structure QA (X : Cx) (es : List Expr) (t : TA) : Prop where
 h : PA X es t
structure QI (X : Cx) (tg iter : Expr) (t : TI) : Prop where
 h : PI X tg iter t
structure QS (X : Cx) (st : Stmt) (t : TS) : Prop where
 h : PS X st t
structure QSs (X : Cx) (st : List Stmt) (t : TS) : Prop where
 h : PSs X st t
section
variable {X : Cx} {e tg : Expr} {es : List Expr} {te : TE} {t : TA} {pos : Pos} {st : Stmt} {rest : List Stmt} {u v : TS}
theorem qa_nil : QA X [] tNil := ⟨pa_nil⟩
theorem qa_cons (ha : QE X e te) (hr : QA X es t) (hs : starEach (e :: es) X.env = (false, eval e X.env) :: starEach es X.env := by rfl) : QA X (e :: es) (tCons te t) := ⟨pa_cons ha.h hr.h hs⟩
theorem qe_lst (h : QA X es t) : QE X (.List es pos) (tLst t) := ⟨pe_lst h.h⟩
theorem qe_tup {x1} (h : QA X es t) : QE X (.Tuple es x1 pos) (tTup t) := ⟨pe_tup h.h⟩
theorem qe_op {a b : Expr} {op : Operator} {ta tb : TE} {r : R2} (hr : OpR X (binaryOp op) r) (ha : QE X a ta) (hb : QE X b tb) : QE X (.BinOp a op b pos) (tOp r ta tb) := ⟨pe_op hr ha.h hb.h⟩
theorem qs_set {i : Nat} {x : Str} {pos' : Pos} (hN : X.N.Nodup) (hi : X.N[i]? = some x) (hx : Loc X.env.scope x) (he : QE X e te) (hs : swapsWith e (some (.Name x pos')) pos.line X.env = pure false := by rfl) (hf : X.fn x = true ∨ X.env.scope.names.lookup x = some .local := by first | exact .inl rfl | exact .inr rfl | assumption) :
  QS X (.Assign [.Name x pos'] e pos) (tAsg te (gName i)) := ⟨ps_set hN hi hx he.h hs hf⟩
theorem qss_cons (h1 : QS X st u) (h2 : QSs X rest v) : QSs X (st :: rest) (tSeq u v) := ⟨pss_cons h1.h h2.h⟩
theorem qss_one (h1 : QS X st u) : QSs X [st] u := ⟨pss_one h1.h⟩
end
def intsOf : PyData → List Int
 | .list ds => ds.filterMap fun d => match d with | .int n => some n | _ => none
 | _ => []
def numsD : PyData → List Int
 | .tuple [x, _] => intsOf x
 | _ => []
theorem rise_back {H : Hp} : ∀ {xs : List V} {ds : List PyData} {b : Int}, DatAll H xs ds → riseGo b ds = true → ∃ ns : List Int, xs = ns.map V.int ∧ ds = ns.map PyData.int ∧ ns.Pairwise (· < ·) ∧ ∀ x ∈ ns, b < x
 | _, _, _, .nil, _ => ⟨[], rfl, rfl, List.Pairwise.nil, fun x hx => nomatch hx⟩
 | _, _, b, .cons (d := d) (ds := ds) h t, e => by
  cases h with
  | int n =>
   change (decide (b < n) && riseGo n ds) = true at e
   rw [Bool.and_eq_true, decide_eq_true_eq] at e
   obtain ⟨ns, rfl, rfl, up, lo⟩ := rise_back t e.2
   refine ⟨n :: ns, rfl, rfl, List.pairwise_cons.mpr ⟨lo, up⟩, fun x hx => ?_⟩
   rcases List.mem_cons.mp hx with z | z
   ·rw [z]; exact e.1
   ·have := lo x z; omega
  | _ => cases e
theorem riseD_back {H : Hp} {v : V} {d : PyData} {few : Int} (hd : Dat H v d) (e : riseD few d = true) : ∃ (a : Addr) (ns : List Int), v = .ref a ∧ H a = some (.lst (ns.map V.int)) ∧ d = .list (ns.map PyData.int) ∧ Rise ns ∧ few ≤ (ns.length : Int) ∧ ns.length ≤ 10 := by
 cases hd with
 | lst ha hx =>
  rename_i a xs ds
  change (decide (few ≤ (ds.length : Int)) && (decide (ds.length ≤ 10) && riseGo (-1) ds)) = true at e
  rw [Bool.and_eq_true, Bool.and_eq_true, decide_eq_true_eq, decide_eq_true_eq] at e
  obtain ⟨ns, rfl, rfl, up, lo⟩ := rise_back hx e.2.2
  rw [List.length_map] at e
  exact ⟨a, ns, rfl, ha, rfl, ⟨up, fun x hx => by have := lo x hx; omega⟩, e.1, e.2.1⟩
 | _ => cases e
theorem intsOf_ints (ns : List Int) : intsOf (.list (ns.map PyData.int)) = ns := by
 induction ns with
 | nil => rfl
 | cons n r ih => exact congrArg (n :: ·) ih
theorem plan_back {H : Hp} {v : V} {d : PyData} (hd : Dat H v d) (e : planD d = true) : ∃ (t a b : Addr) (ns ss : List Int), v = .ref t ∧ IsPl H t a b ns ss ∧ numsD d = ns := by
 cases hd with
 | tup ht hx =>
  rename_i t xs ds
  match ds, hx, e with
  | [x, y], .cons h1 (.cons h2 .nil), e =>
   change (riseD 1 x && riseD 0 y) = true at e
   rw [Bool.and_eq_true] at e
   obtain ⟨a, ns, rfl, ha, rfl, rn, n1, n2⟩ := riseD_back h1 e.1
   obtain ⟨b, ss, rfl, hb, rfl, rs, s1, s2⟩ := riseD_back h2 e.2
   exact ⟨t, a, b, ns, ss, rfl, ⟨ht, ha, hb, ⟨rn, rs, by omega, n2, s2⟩⟩, intsOf_ints ns⟩
  | [], _, e => cases e
  | [_], _, e => cases e
  | _ :: _ :: _ :: _, _, e => cases e
 | _ => cases e
def NP (M : Hp) (v : V) : Prop := ∃ d, Dat M v d ∧ Fine 2000 4 d ∧ planD d = false
def NR (M : Hp) (few : Nat) (x : V) : Prop := ∀ (a : Addr) (ns : List Int), x = .ref a → M a = some (.lst (ns.map V.int)) → Rise ns → few ≤ ns.length → ns.length ≤ 10 → False
theorem np_of {M : Hp} {v : V} (th : Th M v 2000 4) (h : ∀ (t a b : Addr) (ns ss : List Int), v = .ref t → IsPl M t a b ns ss → False) : NP M v := by
 obtain ⟨d, hd, f⟩ := th
 refine ⟨d, hd, f, ?_⟩
 cases c : planD d with
 | false => rfl
 | true =>
  obtain ⟨t, a, b, ns, ss, e, pl, _⟩ := plan_back hd c
  exact (h t a b ns ss e pl).elim
theorem np_pair {M : Hp} {q : Addr} {x y : V} (hq : M q = some (.tup [x, y])) (tx : Th M x 100 2) (ty : Th M y 100 2) (h : NR M 1 x ∨ NR M 0 y) : NP M (.ref q) := by
 refine np_of ((Th.tup (n := 100) (k := 2) hq fun z hz => ?_).mono (by show 2 * 101 ≤ 2000; decide) (by decide)) fun t a b ns ss e pl => ?_
 ·simp only [List.mem_cons, List.not_mem_nil, or_false] at hz
  rcases hz with e | e <;> rw [e]
  ·exact tx
  ·exact ty
 ·cases e
  have e := pl.t
  rw [hq] at e
  cases e
  rcases h with h | h
  ·exact h a ns rfl pl.a pl.ok.n pl.ok.n1 pl.ok.n2
  ·exact h b ss rfl pl.b pl.ok.s (Nat.zero_le _) pl.ok.s2
theorem np_tup {M : Hp} {q : Addr} {xs : List V} (hq : M q = some (.tup xs)) (tx : ∀ x ∈ xs, Th M x 100 2) (l : xs.length ≤ 5) (h : xs.length ≠ 2) : NP M (.ref q) := by
 refine np_of ((Th.tup (n := 100) (k := 2) hq tx).mono (by omega) (by decide)) fun t a b ns ss e pl => ?_
 cases e
 have e := pl.t
 rw [hq] at e
 cases e
 exact h rfl
theorem np_lst {M : Hp} {q : Addr} {xs : List V} (hq : M q = some (.lst xs)) (tx : ∀ x ∈ xs, Th M x 100 2) (l : xs.length ≤ 15) : NP M (.ref q) := by
 refine np_of ((Th.lst (n := 100) (k := 2) hq tx).mono (by omega) (by decide)) fun t a b ns ss e pl => ?_
 cases e
 have e := pl.t
 rw [hq] at e
 cases e
theorem np_dct {M : Hp} {q : Addr} (hq : M q = some (.dK [])) : NP M (.ref q) := by
 refine np_of (Th.dct hq) fun t a b ns ss e pl => ?_
 cases e
 have e := pl.t
 rw [hq] at e
 cases e
theorem np_flat {M : Hp} {v : V} (th : Th M v 2000 4) (h : ∀ t, v ≠ .ref t) : NP M v := np_of th fun t _ _ _ _ e _ => h t e
theorem nr_lst {M : Hp} {few : Nat} {a : Addr} {xs : List V} (ha : M a = some (.lst xs)) (h : ∀ ns : List Int, xs = ns.map V.int → Rise ns → few ≤ ns.length → ns.length ≤ 10 → False) : NR M few (.ref a) := fun b ns e hb r f l => by
 cases e
 rw [ha] at hb
 cases hb
 exact h ns rfl r f l
theorem nr_tup {M : Hp} {few : Nat} {a : Addr} {xs : List V} (ha : M a = some (.tup xs)) : NR M few (.ref a) := fun b ns e hb r f l => by
 cases e
 rw [ha] at hb
 cases hb
theorem nr_non {M : Hp} {few : Nat} : NR M few .non := fun b ns e => nomatch e
theorem no_neg {xs : List V} {x : V} (hx : x ∈ xs) (h : ∀ n : Int, x = .int n → n < 0) (ns : List Int) (e : xs = ns.map V.int) (r : Rise ns) : False := by
 rw [e] at hx
 obtain ⟨n, hn, e⟩ := List.mem_map.mp hx
 have := r.bd n hn
 have := h n e.symm
 omega
theorem no_last2 {cs : List V} {u w : Int} (ns : List Int) (e : cs ++ [.int u, .int w] = ns.map V.int) (r : Rise ns) : u < w := by
 obtain ⟨l1, l2, rfl, _, h2⟩ := List.map_eq_append_iff.mp e.symm
 have up := (List.pairwise_append.mp r.up).2.1
 match l2, h2 with
 | [a, b], h2 =>
  simp only [List.map_cons, List.map_nil, List.cons.injEq, V.int.injEq, and_true] at h2
  have := (List.pairwise_cons.mp up).1 b List.mem_cons_self
  omega
theorem no_last {cs : List V} {w x : Int} (hx : .int x ∈ cs) (ns : List Int) (e : cs ++ [.int w] = ns.map V.int) (r : Rise ns) : x < w := by
 obtain ⟨l1, l2, rfl, h1, h2⟩ := List.map_eq_append_iff.mp e.symm
 match l2, h2 with
 | [b], h2 =>
  simp only [List.map_cons, List.map_nil, List.cons.injEq, V.int.injEq, and_true] at h2
  rw [← h1] at hx
  obtain ⟨z, hz, ez⟩ := List.mem_map.mp hx
  cases ez
  have := (List.pairwise_append.mp r.up).2.2 x hz b List.mem_cons_self
  omega
theorem th_some {M : Hp} {a : Addr} {xs : List V} (h : M a = some (.lst xs)) (l : xs.length ≤ 25) (b : ∀ x ∈ xs, Th M x 3 1) : Th M (.ref a) 100 2 := (Th.lst (n := 3) (k := 1) h b).mono (by omega) (by decide)
theorem th_some' {M : Hp} {a : Addr} {xs : List V} (h : M a = some (.tup xs)) (l : xs.length ≤ 25) (b : ∀ x ∈ xs, Th M x 3 1) : Th M (.ref a) 100 2 := (Th.tup (n := 3) (k := 1) h b).mono (by omega) (by decide)
theorem map_inj {xs ys : List Int} (h : xs.map V.int = ys.map V.int) : xs = ys := List.map_inj_right (fun _ _ e => V.int.inj e) |>.mp h
theorem st_eq {t : TS} {D : Ends} {σ σ' : L2.St} {H : Hp} (e : σ = σ') (h : t D σ' H) : t D σ H := by rw [e]; exact h
abbrev sKnd : Stmt := top 50
theorem boot_ValueError : bootBuiltins "ValueError" = some (.type "ValueError") := by decide +kernel
structure ExT (mg : Str → Option Value) (x0 x1 x2 x3 x4 x5 x6 x7 x8 x9 x10 x11 XS : Addr) : Prop where
 m0 : mg "NoPlan" = some (.ref x0)
 m1 : mg "NoNumber" = some (.ref x1)
 m2 : mg "NoKind" = some (.ref x2)
 m3 : mg "NoPlace" = some (.ref x3)
 m4 : mg "NoRow" = some (.ref x4)
 m5 : mg "NoCut" = some (.ref x5)
 m6 : mg "NoPart" = some (.ref x6)
 m7 : mg "NoSum" = some (.ref x7)
 m8 : mg "TooMany" = some (.ref x8)
 m9 : mg "NoText" = some (.ref x9)
 m10 : mg "NoName" = some (.ref x10)
 m11 : mg "NoSaying" = some (.ref x11)
 mS : mg "SumError" = some (.ref XS)
 mV : mg "ValueError" = none
structure ExD (K : PySem.W.Frag) (xs : List Addr) (XS D : Addr) (n : Int) : Prop where
 k : xs.map (fun x => PySem.W.kitOne K (.ref D) (.ref x)) = (List.range 12).map fun i : Nat => some (decide ((i : Int) = n))
 v : PySem.W.kitOne K (.ref D) (.type "ValueError") = some true
 c : ExcCls K D
 e : PySem.W.exmOne K (.ref D) (.ref XS) = some true
 i : PySem.W.excIn K D bmV "ValueError.__new__" = true
 lt : n < 12
def kWords : List Str := ["plan", "number", "kind", "place", "row", "cut", "part", "sum", "many", "text", "name", "saying"]
theorem rcv_one {K : PySem.W.Frag} {H : Hp} {a b : Addr} {z : Str} (h1 : H a = some (.lst [.str z])) (h2 : H b = some (.lst [.str z])) : RcV K H (.ref a) (.ref b) true := by
 have q : RcV K H (.ref a) (.ref b) ((List.range [V.str z].length).all fun _ => true) := by
  refine RcV.lst (SqL.of h1) (SqL.of h2) rfl fun j x y hx hy => ?_
  rw [hx] at hy
  cases hy
  have e : x = .str z := by
   match j, hx with
   | 0, hx => cases hx; rfl
   | j + 1, hx => cases hx
  subst e
  have q := EqV.str (K := K) (H := H) (n := 4) z z
  rw [beq_self_eq_true] at q
  exact q
 rw [List.all_eq_true.mpr fun _ _ => rfl] at q
 exact q
theorem one_of : ∀ m : _root_.Fin 12, (List.range 12).filter (fun i => decide (i = m.val)) = [m.val] := by decide +kernel
def spKnd (K : PySem.W.Frag) (xs : List Addr) (XS : Addr) : Sp := fun vs H Q _ => ∃ (ea D : Addr) (m : Nat) (z : Str), vs = [.ref ea, .str z] ∧ H ea = some (.ext (ExcAt ea (.ref D))) ∧ ExD K xs XS D m ∧ kWords[m]? = some z ∧ ∀ H', Same H H' → Q (.bl true) H'
section
variable {f x0 x1 x2 x3 x4 x5 x6 x7 x8 x9 x10 x11 XS : Addr} {fd : FuncData}
theorem scKnd : FnScope ["e", "due", "kinds", "words", "found"] ["e", "due"] (defScope sKnd) := ⟨rfl, rfl, rfl, by decide +kernel, rfl, by decide +kernel, by decide +kernel⟩
theorem ok_knd (F : Fun K "_law_kind" "_law_kind" sKnd f fd) (B : Bt4 mg) (T : ExT mg x0 x1 x2 x3 x4 x5 x6 x7 x8 x9 x10 x11 XS) : FnOk P w K mg base CX0 1 f fd ["e", "due"] (spKnd K [x0, x1, x2, x3, x4, x5, x6, x7, x8, x9, x10, x11] XS) := by
 refine F.ok scKnd (fun vs H Q E h => ?_) (fun cdv A outer s H vs Q E hr h => ?_)
 ·obtain ⟨ea, D, m, z, rfl, _⟩ := h
  rfl
 obtain ⟨ea, D, m, z, rfl, he, ex, hz, q⟩ := h
 refine ⟨_, (QSs.h (qss_cons (qs_set (i := 2) scKnd.nd rfl (Or.inl rfl) (qe_lst (qa_cons (QE.mk (pe_callB call_isiE rfl B.isinstance boot_isinstance (QA.h (qa_cons (QE.mk (pv 0)) (qa_cons (QE.mk (pe_glob (v := .ref x0) rfl T.m0 rfl)) qa_nil))))) (qa_cons (QE.mk (pe_callB call_isiE rfl B.isinstance boot_isinstance (QA.h (qa_cons (QE.mk (pv 0)) (qa_cons (QE.mk (pe_glob (v := .ref x1) rfl T.m1 rfl)) qa_nil))))) (qa_cons (QE.mk (pe_callB call_isiE rfl B.isinstance boot_isinstance (QA.h (qa_cons (QE.mk (pv 0)) (qa_cons (QE.mk (pe_glob (v := .ref x2) rfl T.m2 rfl)) qa_nil))))) (qa_cons (QE.mk (pe_callB call_isiE rfl B.isinstance boot_isinstance (QA.h (qa_cons (QE.mk (pv 0)) (qa_cons (QE.mk (pe_glob (v := .ref x3) rfl T.m3 rfl)) qa_nil))))) qa_nil)))))) (qss_cons (qs_set (i := 2) scKnd.nd rfl (Or.inl rfl) (qe_op op_cat (QE.mk (pv 2)) (qe_lst (qa_cons (QE.mk (pe_callB call_isiE rfl B.isinstance boot_isinstance (QA.h (qa_cons (QE.mk (pv 0)) (qa_cons (QE.mk (pe_glob (v := .ref x4) rfl T.m4 rfl)) qa_nil))))) (qa_cons (QE.mk (pe_callB call_isiE rfl B.isinstance boot_isinstance (QA.h (qa_cons (QE.mk (pv 0)) (qa_cons (QE.mk (pe_glob (v := .ref x5) rfl T.m5 rfl)) qa_nil))))) (qa_cons (QE.mk (pe_callB call_isiE rfl B.isinstance boot_isinstance (QA.h (qa_cons (QE.mk (pv 0)) (qa_cons (QE.mk (pe_glob (v := .ref x6) rfl T.m6 rfl)) qa_nil))))) (qa_cons (QE.mk (pe_callB call_isiE rfl B.isinstance boot_isinstance (QA.h (qa_cons (QE.mk (pv 0)) (qa_cons (QE.mk (pe_glob (v := .ref x7) rfl T.m7 rfl)) qa_nil))))) qa_nil))))))) (qss_cons (qs_set (i := 2) scKnd.nd rfl (Or.inl rfl) (qe_op op_cat (QE.mk (pv 2)) (qe_lst (qa_cons (QE.mk (pe_callB call_isiE rfl B.isinstance boot_isinstance (QA.h (qa_cons (QE.mk (pv 0)) (qa_cons (QE.mk (pe_glob (v := .ref x8) rfl T.m8 rfl)) qa_nil))))) (qa_cons (QE.mk (pe_callB call_isiE rfl B.isinstance boot_isinstance (QA.h (qa_cons (QE.mk (pv 0)) (qa_cons (QE.mk (pe_glob (v := .ref x9) rfl T.m9 rfl)) qa_nil))))) (qa_cons (QE.mk (pe_callB call_isiE rfl B.isinstance boot_isinstance (QA.h (qa_cons (QE.mk (pv 0)) (qa_cons (QE.mk (pe_glob (v := .ref x10) rfl T.m10 rfl)) qa_nil))))) (qa_cons (QE.mk (pe_callB call_isiE rfl B.isinstance boot_isinstance (QA.h (qa_cons (QE.mk (pv 0)) (qa_cons (QE.mk (pe_glob (v := .ref x11) rfl T.m11 rfl)) qa_nil))))) qa_nil))))))) (qss_cons (qs_set (i := 3) scKnd.nd rfl (Or.inl rfl) (qe_lst (qa_cons (QE.mk pe_str) (qa_cons (QE.mk pe_str) (qa_cons (QE.mk pe_str) (qa_cons (QE.mk pe_str) (qa_cons (QE.mk pe_str) (qa_cons (QE.mk pe_str) (qa_cons (QE.mk pe_str) (qa_cons (QE.mk pe_str) (qa_cons (QE.mk pe_str) (qa_cons (QE.mk pe_str) (qa_cons (QE.mk pe_str) (qa_cons (QE.mk pe_str) qa_nil)))))))))))))) (qss_cons (QS.mk (ps_comp ["word", "kind"] rfl (blk_ok (defScope sKnd) ["e", "due", "kinds", "words", "found"] rfl rfl (by decide +kernel)) (pi_zip rfl B.zip (QA.h (qa_cons (QE.mk (pv 3)) (qa_cons (QE.mk (pv 2)) qa_nil)))) (fun pins C fp s3 H3 => ⟨(pg_tupK (n := 2) K rfl (pgs_cons (pg_name (i := 0) (show (blkN ["word", "kind"] ["e", "due", "kinds", "words", "found"]).Nodup by decide +kernel) rfl (Or.inl rfl)) (pgs_cons (pg_name (i := 1) (show (blkN ["word", "kind"] ["e", "due", "kinds", "words", "found"]).Nodup by decide +kernel) rfl (Or.inl rfl)) pgs_nil))), (pif_one (pt_val (pv 1))), (pv 0)⟩) (j := 4) scKnd.nd rfl (Or.inl rfl) rfl)) (qss_one (QS.mk (ps_ret (pe_and (pe_callB call_isiE rfl B.isinstance boot_isinstance (QA.h (qa_cons (QE.mk (pv 0)) (qa_cons (QE.mk (pe_bltn (v := .ty "ValueError") rfl T.mV boot_ValueError rfl)) qa_nil)))) (pe_one (pe_cmpR (op_eqD hr.units) (pv 4) (pe_lst (QA.h (qa_cons (QE.mk (pv 1)) qa_nil))) (nomark _))))))))))))), ?_⟩
 obtain ⟨n, hn⟩ : ∃ n : Int, n = (m : Int) := ⟨_, rfl⟩
 rw [← hn] at ex
 have m12 : m < 12 := by have := ex.lt; omega
 have kk : ∀ (i : Nat) (x : Addr), [x0, x1, x2, x3, x4, x5, x6, x7, x8, x9, x10, x11][i]? = some x → PySem.W.kitOne K (.ref D) (.ref x) = some (decide ((i : Int) = n)) := fun i x hx => by
  have hk := congrArg (fun l : List (Option Bool) => l[i]?) ex.k
  simp only [List.getElem?_map, hx, Option.map_some] at hk
  have hi : i < 12 := (List.getElem?_eq_some_iff.mp hx).1
  rw [List.getElem?_range hi] at hk
  exact Option.some.inj hk
 refine ⟨_, rfl, ea, D, _, _, _, rfl, he, ex.c, fun _ z => z, kk 0 _ rfl, _, rfl, ea, D, _, _, _, rfl, he, ex.c, fun _ z => z, kk 1 _ rfl, _, rfl, ea, D, _, _, _, rfl, he, ex.c, fun _ z => z, kk 2 _ rfl, _, rfl, ea, D, _, _, _, rfl, he, ex.c, fun _ z => z, kk 3 _ rfl, (by show 4 ≤ sizeLine; decide), ?_⟩
 intro q0 hq0
 have kq0 : Same H (upd H q0 (.lst [V.bl (decide (((0 : Nat) : Int) = n)), V.bl (decide (((1 : Nat) : Int) = n)), V.bl (decide (((2 : Nat) : Int) = n)), V.bl (decide (((3 : Nat) : Int) = n))])) := Same.new hq0 _
 have eq0 : upd H q0 (.lst [V.bl (decide (((0 : Nat) : Int) = n)), V.bl (decide (((1 : Nat) : Int) = n)), V.bl (decide (((2 : Nat) : Int) = n)), V.bl (decide (((3 : Nat) : Int) = n))]) q0 = some (.lst [V.bl (decide (((0 : Nat) : Int) = n)), V.bl (decide (((1 : Nat) : Int) = n)), V.bl (decide (((2 : Nat) : Int) = n)), V.bl (decide (((3 : Nat) : Int) = n))]) := upd_same
 generalize upd H q0 (.lst [V.bl (decide (((0 : Nat) : Int) = n)), V.bl (decide (((1 : Nat) : Int) = n)), V.bl (decide (((2 : Nat) : Int) = n)), V.bl (decide (((3 : Nat) : Int) = n))]) = H0 at kq0 eq0 ⊢
 have g0 := kq0
 refine ⟨_, rfl, _, rfl, ea, D, _, _, _, rfl, (g0 _ _ he), ex.c, fun _ z => z, kk 4 _ rfl, _, rfl, ea, D, _, _, _, rfl, (g0 _ _ he), ex.c, fun _ z => z, kk 5 _ rfl, _, rfl, ea, D, _, _, _, rfl, (g0 _ _ he), ex.c, fun _ z => z, kk 6 _ rfl, _, rfl, ea, D, _, _, _, rfl, (g0 _ _ he), ex.c, fun _ z => z, kk 7 _ rfl, (by show 4 ≤ sizeLine; decide), ?_⟩
 intro q1 hq1
 have kq1 : Same H0 (upd H0 q1 (.lst [V.bl (decide (((4 : Nat) : Int) = n)), V.bl (decide (((5 : Nat) : Int) = n)), V.bl (decide (((6 : Nat) : Int) = n)), V.bl (decide (((7 : Nat) : Int) = n))])) := Same.new hq1 _
 have eq1 : upd H0 q1 (.lst [V.bl (decide (((4 : Nat) : Int) = n)), V.bl (decide (((5 : Nat) : Int) = n)), V.bl (decide (((6 : Nat) : Int) = n)), V.bl (decide (((7 : Nat) : Int) = n))]) q1 = some (.lst [V.bl (decide (((4 : Nat) : Int) = n)), V.bl (decide (((5 : Nat) : Int) = n)), V.bl (decide (((6 : Nat) : Int) = n)), V.bl (decide (((7 : Nat) : Int) = n))]) := upd_same
 generalize upd H0 q1 (.lst [V.bl (decide (((4 : Nat) : Int) = n)), V.bl (decide (((5 : Nat) : Int) = n)), V.bl (decide (((6 : Nat) : Int) = n)), V.bl (decide (((7 : Nat) : Int) = n))]) = H1 at kq1 eq1 ⊢
 have g1 := g0.trans kq1
 refine ⟨_, _, _, _, rfl, rfl, kq1 _ _ eq0, eq1, (by show 8 ≤ sizeLine; decide), ?_⟩
 intro q2 hq2
 have kq2 : Same H1 (upd H1 q2 (.lst ([V.bl (decide (((0 : Nat) : Int) = n)), V.bl (decide (((1 : Nat) : Int) = n)), V.bl (decide (((2 : Nat) : Int) = n)), V.bl (decide (((3 : Nat) : Int) = n))] ++ [V.bl (decide (((4 : Nat) : Int) = n)), V.bl (decide (((5 : Nat) : Int) = n)), V.bl (decide (((6 : Nat) : Int) = n)), V.bl (decide (((7 : Nat) : Int) = n))]))) := Same.new hq2 _
 have eq2 : upd H1 q2 (.lst ([V.bl (decide (((0 : Nat) : Int) = n)), V.bl (decide (((1 : Nat) : Int) = n)), V.bl (decide (((2 : Nat) : Int) = n)), V.bl (decide (((3 : Nat) : Int) = n))] ++ [V.bl (decide (((4 : Nat) : Int) = n)), V.bl (decide (((5 : Nat) : Int) = n)), V.bl (decide (((6 : Nat) : Int) = n)), V.bl (decide (((7 : Nat) : Int) = n))])) q2 = some (.lst ([V.bl (decide (((0 : Nat) : Int) = n)), V.bl (decide (((1 : Nat) : Int) = n)), V.bl (decide (((2 : Nat) : Int) = n)), V.bl (decide (((3 : Nat) : Int) = n))] ++ [V.bl (decide (((4 : Nat) : Int) = n)), V.bl (decide (((5 : Nat) : Int) = n)), V.bl (decide (((6 : Nat) : Int) = n)), V.bl (decide (((7 : Nat) : Int) = n))])) := upd_same
 generalize upd H1 q2 (.lst ([V.bl (decide (((0 : Nat) : Int) = n)), V.bl (decide (((1 : Nat) : Int) = n)), V.bl (decide (((2 : Nat) : Int) = n)), V.bl (decide (((3 : Nat) : Int) = n))] ++ [V.bl (decide (((4 : Nat) : Int) = n)), V.bl (decide (((5 : Nat) : Int) = n)), V.bl (decide (((6 : Nat) : Int) = n)), V.bl (decide (((7 : Nat) : Int) = n))])) = H2 at kq2 eq2 ⊢
 have g2 := g1.trans kq2
 refine ⟨_, rfl, _, rfl, ea, D, _, _, _, rfl, (g2 _ _ he), ex.c, fun _ z => z, kk 8 _ rfl, _, rfl, ea, D, _, _, _, rfl, (g2 _ _ he), ex.c, fun _ z => z, kk 9 _ rfl, _, rfl, ea, D, _, _, _, rfl, (g2 _ _ he), ex.c, fun _ z => z, kk 10 _ rfl, _, rfl, ea, D, _, _, _, rfl, (g2 _ _ he), ex.c, fun _ z => z, kk 11 _ rfl, (by show 4 ≤ sizeLine; decide), ?_⟩
 intro q3 hq3
 have kq3 : Same H2 (upd H2 q3 (.lst [V.bl (decide (((8 : Nat) : Int) = n)), V.bl (decide (((9 : Nat) : Int) = n)), V.bl (decide (((10 : Nat) : Int) = n)), V.bl (decide (((11 : Nat) : Int) = n))])) := Same.new hq3 _
 have eq3 : upd H2 q3 (.lst [V.bl (decide (((8 : Nat) : Int) = n)), V.bl (decide (((9 : Nat) : Int) = n)), V.bl (decide (((10 : Nat) : Int) = n)), V.bl (decide (((11 : Nat) : Int) = n))]) q3 = some (.lst [V.bl (decide (((8 : Nat) : Int) = n)), V.bl (decide (((9 : Nat) : Int) = n)), V.bl (decide (((10 : Nat) : Int) = n)), V.bl (decide (((11 : Nat) : Int) = n))]) := upd_same
 generalize upd H2 q3 (.lst [V.bl (decide (((8 : Nat) : Int) = n)), V.bl (decide (((9 : Nat) : Int) = n)), V.bl (decide (((10 : Nat) : Int) = n)), V.bl (decide (((11 : Nat) : Int) = n))]) = H3 at kq3 eq3 ⊢
 have g3 := g2.trans kq3
 refine ⟨_, _, _, _, rfl, rfl, kq3 _ _ eq2, eq3, (by show 12 ≤ sizeLine; decide), ?_⟩
 intro q4 hq4
 have kq4 : Same H3 (upd H3 q4 (.lst ([V.bl (decide (((0 : Nat) : Int) = n)), V.bl (decide (((1 : Nat) : Int) = n)), V.bl (decide (((2 : Nat) : Int) = n)), V.bl (decide (((3 : Nat) : Int) = n))] ++ [V.bl (decide (((4 : Nat) : Int) = n)), V.bl (decide (((5 : Nat) : Int) = n)), V.bl (decide (((6 : Nat) : Int) = n)), V.bl (decide (((7 : Nat) : Int) = n))] ++ [V.bl (decide (((8 : Nat) : Int) = n)), V.bl (decide (((9 : Nat) : Int) = n)), V.bl (decide (((10 : Nat) : Int) = n)), V.bl (decide (((11 : Nat) : Int) = n))]))) := Same.new hq4 _
 have eq4 : upd H3 q4 (.lst ([V.bl (decide (((0 : Nat) : Int) = n)), V.bl (decide (((1 : Nat) : Int) = n)), V.bl (decide (((2 : Nat) : Int) = n)), V.bl (decide (((3 : Nat) : Int) = n))] ++ [V.bl (decide (((4 : Nat) : Int) = n)), V.bl (decide (((5 : Nat) : Int) = n)), V.bl (decide (((6 : Nat) : Int) = n)), V.bl (decide (((7 : Nat) : Int) = n))] ++ [V.bl (decide (((8 : Nat) : Int) = n)), V.bl (decide (((9 : Nat) : Int) = n)), V.bl (decide (((10 : Nat) : Int) = n)), V.bl (decide (((11 : Nat) : Int) = n))])) q4 = some (.lst ([V.bl (decide (((0 : Nat) : Int) = n)), V.bl (decide (((1 : Nat) : Int) = n)), V.bl (decide (((2 : Nat) : Int) = n)), V.bl (decide (((3 : Nat) : Int) = n))] ++ [V.bl (decide (((4 : Nat) : Int) = n)), V.bl (decide (((5 : Nat) : Int) = n)), V.bl (decide (((6 : Nat) : Int) = n)), V.bl (decide (((7 : Nat) : Int) = n))] ++ [V.bl (decide (((8 : Nat) : Int) = n)), V.bl (decide (((9 : Nat) : Int) = n)), V.bl (decide (((10 : Nat) : Int) = n)), V.bl (decide (((11 : Nat) : Int) = n))])) := upd_same
 generalize upd H3 q4 (.lst ([V.bl (decide (((0 : Nat) : Int) = n)), V.bl (decide (((1 : Nat) : Int) = n)), V.bl (decide (((2 : Nat) : Int) = n)), V.bl (decide (((3 : Nat) : Int) = n))] ++ [V.bl (decide (((4 : Nat) : Int) = n)), V.bl (decide (((5 : Nat) : Int) = n)), V.bl (decide (((6 : Nat) : Int) = n)), V.bl (decide (((7 : Nat) : Int) = n))] ++ [V.bl (decide (((8 : Nat) : Int) = n)), V.bl (decide (((9 : Nat) : Int) = n)), V.bl (decide (((10 : Nat) : Int) = n)), V.bl (decide (((11 : Nat) : Int) = n))])) = H4 at kq4 eq4 ⊢
 have g4 := g3.trans kq4
 refine ⟨(by show 12 ≤ sizeLine; decide), ?_⟩
 intro q5 hq5
 have kq5 : Same H4 (upd H4 q5 (.lst [.str "plan", .str "number", .str "kind", .str "place", .str "row", .str "cut", .str "part", .str "sum", .str "many", .str "text", .str "name", .str "saying"])) := Same.new hq5 _
 have eq5 : upd H4 q5 (.lst [.str "plan", .str "number", .str "kind", .str "place", .str "row", .str "cut", .str "part", .str "sum", .str "many", .str "text", .str "name", .str "saying"]) q5 = some (.lst [.str "plan", .str "number", .str "kind", .str "place", .str "row", .str "cut", .str "part", .str "sum", .str "many", .str "text", .str "name", .str "saying"]) := upd_same
 generalize upd H4 q5 (.lst [.str "plan", .str "number", .str "kind", .str "place", .str "row", .str "cut", .str "part", .str "sum", .str "many", .str "text", .str "name", .str "saying"]) = H5 at kq5 eq5 ⊢
 have g5 := g4.trans kq5
 have eK : H5 q4 = some (.lst ((List.range 12).map fun i : Nat => V.bl (decide ((i : Int) = n)))) := kq5 _ _ eq4
 have eW : H5 q5 = some (.lst (kWords.map V.str)) := eq5
 refine ⟨_, rfl, _, rfl, q5, q4, _, _, rfl, eW, eK, fun D' hD => ?_⟩
 refine turns_zip (n := 12) (σ := [some (.ref ea), some (.str z), some (.ref q4), some (.ref q5), none]) (xs := kWords.map V.str) (ys := (List.range 12).map fun i : Nat => V.bl (decide ((i : Int) = n))) (fun i => decide ((i : Int) = n)) (fun i => (kWords.map V.str).getD i .non) eW eK rfl hD (by decide) (fun i H' hi g P hP => ?_) (fun i H' hi _ g P hP => ?_) fun H6 g6 e6 => ?_
 ·have d2 : ((List.range 12).map fun i : Nat => V.bl (decide ((i : Int) = n))).getD i .non = .bl (decide ((i : Int) = n)) := by
   rw [List.getD_eq_getElem?_getD, List.getElem?_map, List.getElem?_range hi]; rfl
  rw [d2]
  exact ⟨_, rfl, _, rfl, hP _ Same.rfl'⟩
 ·exact ⟨_, rfl, hP _ Same.rfl'⟩
 have e7 : H6 D' = some (.lst [.str z]) := by
  rw [e6]
  have ef : (List.range 12).filter (fun i : Nat => decide ((i : Int) = n)) = [m] := by
   have q := one_of ⟨m, m12⟩
   rw [← q]
   refine List.filter_congr fun i _ => ?_
   rw [hn]
   show decide ((i : Int) = (m : Int)) = decide (i = m)
   exact decide_eq_decide.mpr ⟨fun h => by omega, fun h => by omega⟩
  rw [ef, List.map_cons, List.map_nil, List.getD_eq_getElem?_getD, List.getElem?_map, hz]
  rfl
 refine ⟨_, rfl, ea, D, _, _, _, rfl, g6 _ _ (g5 _ _ he), ex.c, fun _ z => z, ex.v, _, rfl, iteT ?_⟩
 refine ⟨_, rfl, _, rfl, (by show 1 ≤ sizeLine; decide), ?_⟩
 intro l2 hl2
 have gl : Same H6 (upd H6 l2 (.lst [.str z])) := Same.new hl2 _
 exact ⟨true, rcv_one (gl _ _ e7) upd_same, q _ (g5.trans (g6.trans gl))⟩
end
abbrev sNop : Stmt := top 49
def spNopT : Sp := fun vs H Q _ => ∃ (d t a b : Addr) (ns ss : List Int), vs = [.ref d, .ref t] ∧ StT H d ∧ IsPl (msk (S1 d) H) t a b ns ss ∧ (∀ x ∈ ns, x < 5 * 10 ^ 25) ∧ (∀ x ∈ ss, x < 10 ^ 26) ∧
 ∀ (v : V) (H' : Hp), StT H' d → Same (msk (S1 d) H) (msk (S1 d) H') → NP (msk (S1 d) H') v → Q v H'
theorem cut_take (zs : List Int) (k : Nat) : cutV (zs.map V.int) none (some (k : Int)) = (zs.take k).map V.int := by
 unfold cutV
 rw [HT.sIx_none, HT.sIx_nat, List.drop_zero, Nat.sub_zero, List.length_map, List.map_take]
 by_cases h : k ≤ zs.length
 ·rw [Nat.min_eq_left h]
 ·rw [Nat.min_eq_right (by omega), List.take_of_length_le (by rw [List.length_map]; omega), List.take_of_length_le (by rw [List.length_map]; omega)]
theorem nop_cases {M : Hp} {q1 q2 q3 q4 q5 q11 q12 q17 q18 q19 q20 q24 q25 q27 q28 q32 q33 q36 q37 q38 q39 q42 q43 q44 q45 q48 q49 q50 q51 q52 q53 q56 q57 q58 q60 q61 q63 q64 q69 q70 q73 q74 : Addr} {N9 S9 zq24 : List Int} {v1 mvv : V} {x0 la one gr : Int} {c2 c3 c4 c5 c6 c7 : List V} (rN : Rise N9) (lN1 : 1 ≤ N9.length) (lN9 : N9.length ≤ 9) (bN : ∀ x ∈ N9, 0 ≤ x ∧ x < 5 * 10 ^ 25) (lS : S9.length ≤ 9) (bS : ∀ x ∈ S9, 0 ≤ x ∧ x < 10 ^ 26) (mx0 : x0 ∈ N9) (mla : la ∈ N9) (mone : one ∈ N9) (gb : 0 ≤ gr ∧ gr < 10 ^ 26) (pq24 : zq24.Perm (N9 ++ [one]))
  (lc2 : c2.length ≤ N9.length) (mc2 : ∀ x ∈ c2, x ∈ N9.map V.int) (lc3 : c3.length ≤ N9.length) (mc3 : ∀ x ∈ c3, x ∈ N9.map V.int) (lc4 : c4.length ≤ S9.length) (mc4 : ∀ x ∈ c4, x ∈ S9.map V.int) (lc5 : c5.length ≤ S9.length) (mc5 : ∀ x ∈ c5, x ∈ S9.map V.int) (lc6 : c6.length ≤ S9.length) (mc6 : ∀ x ∈ c6, x ∈ S9.map V.int) (lc7 : c7.length ≤ S9.length) (mc7 : ∀ x ∈ c7, x ∈ S9.map V.int)
  (m_q1 : M q1 = some (.lst (N9.map V.int))) (m_q2 : M q2 = some (.lst (S9.map V.int))) (m_q3 : M q3 = some (.lst [.int 1])) (m_q4 : M q4 = some (.tup [.int 1])) (m_q5 : M q5 = some (.dK [])) (m_q11 : M q11 = some (.lst ((c2 ++ [v1]) ++ c3))) (m_q12 : M q12 = some (.tup [.ref q11, .ref q2])) (m_q17 : M q17 = some (.lst ((c4 ++ [v1]) ++ c5))) (m_q18 : M q18 = some (.tup [.ref q1, .ref q17])) (m_q19 : M q19 = some (.lst [])) (m_q20 : M q20 = some (.tup [.ref q19, .ref q2])) (m_q24 : M q24 = some (.lst (zq24.map V.int))) (m_q25 : M q25 = some (.tup [.ref q24, .ref q2])) (m_q27 : M q27 = some (.lst ((N9.map V.int) ++ [.int 0]))) (m_q28 : M q28 = some (.tup [.ref q27, .ref q2])) (m_q32 : M q32 = some (.lst (((S9.map V.int) ++ c6) ++ [.int 0, .int 0]))) (m_q33 : M q33 = some (.tup [.ref q1, .ref q32])) (m_q36 : M q36 = some (.lst ((List.range ((11 : Int) - 0).toNat).map fun k : Nat => V.int (0 + (k : Int))))) (m_q37 : M q37 = some (.tup [.ref q36, .ref q2])) (m_q38 : M q38 = some (.lst ((List.range ((11 : Int) - 0).toNat).map fun k : Nat => V.int (0 + (k : Int))))) (m_q39 : M q39 = some (.tup [.ref q1, .ref q38])) (m_q42 : M q42 = some (.tup ((N9.map V.int)))) (m_q43 : M q43 = some (.tup [.ref q42, .ref q2])) (m_q44 : M q44 = some (.tup ((S9.map V.int)))) (m_q45 : M q45 = some (.tup [.ref q1, .ref q44])) (m_q48 : M q48 = some (.tup [.ref q1])) (m_q49 : M q49 = some (.lst [])) (m_q50 : M q50 = some (.tup [.ref q1, .ref q2, .ref q49])) (m_q51 : M q51 = some (.lst [.ref q1, .ref q2])) (m_q52 : M q52 = some (.tup [.ref q1, .non])) (m_q53 : M q53 = some (.tup [.non, .ref q2])) (m_q56 : M q56 = some (.lst [])) (m_q57 : M q57 = some (.tup [])) (m_q58 : M q58 = some (.dK [])) (m_q60 : M q60 = some (.lst ((S9.map V.int) ++ [.int 5, .int 3]))) (m_q61 : M q61 = some (.tup [.ref q60, .ref q1])) (m_q63 : M q63 = some (.lst ((N9.map V.int) ++ [.int la]))) (m_q64 : M q64 = some (.tup [.ref q63, .ref q2])) (m_q69 : M q69 = some (.lst [.int 5, .int 3])) (m_q70 : M q70 = some (.tup [.ref q1, .ref q69])) (m_q73 : M q73 = some (.lst (c7 ++ [.int (gr + 2), .int (gr + 1)]))) (m_q74 : M q74 = some (.tup [.ref q1, .ref q73]))
  (mv1 : v1 ∈ [(.int (-1) : V), (.bl true : V), (.bl false : V), (.non : V), (.str "1" : V), (.ref q3 : V), (.ref q4 : V), (.int (0 - ((10 : Int) ^ (20 : Int).toNat)) : V), (.ref q5 : V), (.int (x0 - (9 * ((10 : Int) ^ (25 : Int).toNat))) : V)]) (mvL : mvv ∈ [(.ref q12 : V), (.ref q18 : V), (.ref q20 : V), (.ref q25 : V), (.ref q28 : V), (.ref q33 : V), (.ref q37 : V), (.ref q39 : V), (.ref q43 : V), (.ref q45 : V), (.ref q48 : V), (.ref q50 : V), (.ref q51 : V), (.ref q52 : V), (.ref q53 : V), (.non : V), (.int 0 : V), (.str "" : V), (.ref q56 : V), (.ref q57 : V), (.ref q58 : V), (.bl true : V), (.ref q61 : V), (.ref q64 : V), (.ref q70 : V), (.ref q74 : V)]) : NP M mvv := by
 have x0b := bN x0 mx0
 have iN : ∀ x ∈ N9.map V.int, Th M x 3 1 := fun x hx => by
  obtain ⟨z, hz, e⟩ := List.mem_map.mp hx
  rw [← e]
  exact Th.int (by have := bN z hz; omega)
 have iS : ∀ x ∈ S9.map V.int, Th M x 3 1 := fun x hx => by
  obtain ⟨z, hz, e⟩ := List.mem_map.mp hx
  rw [← e]
  exact Th.int (by have := bS z hz; omega)
 have nml : (N9.map V.int).length = N9.length := List.length_map _
 have sml : (S9.map V.int).length = S9.length := List.length_map _
 have iv : Th M v1 3 1 ∧ ∀ n : Int, v1 = .int n → n < 0 := by
  simp only [List.mem_cons, List.not_mem_nil, or_false] at mv1
  rcases mv1 with e | e | e | e | e | e | e | e | e | e <;> rw [e]
  ·exact ⟨Th.int (by decide), fun n h => by cases h; decide⟩
  ·exact ⟨Th.bl _, fun n h => nomatch h⟩
  ·exact ⟨Th.bl _, fun n h => nomatch h⟩
  ·exact ⟨Th.non, fun n h => nomatch h⟩
  ·exact ⟨Th.str (by decide) (by decide), fun n h => nomatch h⟩
  ·exact ⟨(Th.lst (xs := [.int 1]) (n := 0) (k := 0) m_q3 fun x hx => by rw [List.mem_singleton.mp hx]; exact Th.int (by decide)).mono (by decide) (by decide), fun n h => nomatch h⟩
  ·exact ⟨(Th.tup (xs := [.int 1]) (n := 0) (k := 0) m_q4 fun x hx => by rw [List.mem_singleton.mp hx]; exact Th.int (by decide)).mono (by decide) (by decide), fun n h => nomatch h⟩
  ·exact ⟨Th.int (by decide), fun n h => by cases h; decide⟩
  ·exact ⟨Th.dct m_q5, fun n h => nomatch h⟩
  ·exact ⟨Th.int (by have e : (10 : Int) ^ (25 : Int).toNat = 10 ^ 25 := rfl; rw [e]; omega), fun n h => by cases h; have e : (10 : Int) ^ (25 : Int).toNat = 10 ^ 25 := rfl; rw [e]; omega⟩
 have in2 : ∀ {xs ys : List V}, (∀ x ∈ xs, Th M x 3 1) → (∀ x ∈ ys, Th M x 3 1) → ∀ x ∈ xs ++ ys, Th M x 3 1 := fun h1 h2 x hx => (List.mem_append.mp hx).elim (h1 x) (h2 x)
 have in1 : ∀ {y : V}, Th M y 3 1 → ∀ x ∈ [y], Th M x 3 1 := fun h x hx => by rw [List.mem_singleton.mp hx]; exact h
 have ini : ∀ {u w : Int}, u.natAbs < 10 ^ 30 → w.natAbs < 10 ^ 30 → ∀ x ∈ [V.int u, .int w], Th M x 3 1 := fun hu hw x hx => by
  simp only [List.mem_cons, List.not_mem_nil, or_false] at hx
  rcases hx with e | e <;> rw [e]
  ·exact Th.int hu
  ·exact Th.int hw
 have icN : ∀ {c : List V}, (∀ x ∈ c, x ∈ N9.map V.int) → ∀ x ∈ c, Th M x 3 1 := fun h x hx => iN x (h x hx)
 have icS : ∀ {c : List V}, (∀ x ∈ c, x ∈ S9.map V.int) → ∀ x ∈ c, Th M x 3 1 := fun h x hx => iS x (h x hx)
 have tN : Th M (.ref q1) 100 2 := th_some m_q1 (by omega) iN
 have tS : Th M (.ref q2) 100 2 := th_some m_q2 (by omega) iS
 have l11 : ((List.range ((11 : Int) - 0).toNat).map fun k : Nat => V.int (0 + (k : Int))).length = 11 := by decide
 have i11 : ∀ x ∈ ((List.range ((11 : Int) - 0).toNat).map fun k : Nat => V.int (0 + (k : Int))), Th M x 3 1 := fun x hx => by
  obtain ⟨k, hk, e⟩ := List.mem_map.mp hx
  have hk' : k < 11 := List.mem_range.mp hk
  rw [← e]
  exact Th.int (by omega)
 have n11 : ∀ {few : Nat} (ns : List Int), ((List.range ((11 : Int) - 0).toNat).map fun k : Nat => V.int (0 + (k : Int))) = ns.map V.int → Rise ns → few ≤ ns.length → ns.length ≤ 10 → False := fun ns e _ _ h => by
  have z := congrArg List.length e
  rw [l11, List.length_map] at z
  omega
 have t0 : ∀ {b : Addr}, M b = some (.lst []) → Th M (.ref b) 100 2 := fun hb => th_some hb (by decide) fun x hx => absurd hx List.not_mem_nil
 have zl : zq24.length = N9.length + 1 := by rw [pq24.length_eq, List.length_append]; rfl
 have zi : ∀ x ∈ zq24.map V.int, Th M x 3 1 := fun x hx => by
  obtain ⟨z, hz, e⟩ := List.mem_map.mp hx
  rw [← e]
  have hz2 := pq24.mem_iff.mp hz
  rcases List.mem_append.mp hz2 with h | h
  ·exact Th.int (by have := bN z h; omega)
  ·rw [List.mem_singleton.mp h]; exact Th.int (by have := bN one mone; omega)
 simp only [List.mem_cons, List.not_mem_nil, or_false] at mvL
 rcases mvL with e | e | e | e | e | e | e | e | e | e | e | e | e | e | e | e | e | e | e | e | e | e | e | e | e | e <;> rw [e]
 ·exact np_pair m_q12 (th_some m_q11 (by simp only [List.length_append, List.length_cons, List.length_nil]; omega) (in2 (in2 (icN mc2) (in1 iv.1)) (icN mc3))) tS (.inl (nr_lst m_q11 fun ns e r _ _ => no_neg (x := v1) (List.mem_append_left _ (List.mem_append_right _ List.mem_cons_self)) iv.2 ns e r))
 ·exact np_pair m_q18 tN (th_some m_q17 (by simp only [List.length_append, List.length_cons, List.length_nil]; omega) (in2 (in2 (icS mc4) (in1 iv.1)) (icS mc5))) (.inr (nr_lst m_q17 fun ns e r _ _ => no_neg (x := v1) (List.mem_append_left _ (List.mem_append_right _ List.mem_cons_self)) iv.2 ns e r))
 ·exact np_pair m_q20 (t0 m_q19) tS (.inl (nr_lst m_q19 fun ns e r f _ => by cases ns with | nil => exact absurd f (by decide) | cons x r => cases e))
 ·refine np_pair m_q25 (th_some m_q24 (by rw [List.length_map, zl]; omega) zi) tS (.inl (nr_lst m_q24 fun ns e r _ _ => ?_))
  have e2 : zq24 = ns := map_inj e
  have nd : (N9 ++ [one]).Nodup := pq24.nodup_iff.mp (by rw [e2]; exact r.up.imp fun h => by omega)
  exact (List.nodup_append.mp nd).2.2 one mone one List.mem_cons_self rfl
 ·refine np_pair m_q28 (th_some m_q27 (by simp only [List.length_append, List.length_cons, List.length_nil]; omega) (in2 iN (in1 (Th.int (by decide))))) tS (.inl (nr_lst m_q27 fun ns e r _ _ => ?_))
  have := no_last (List.mem_map.mpr ⟨x0, mx0, rfl⟩) ns e r
  omega
 ·refine np_pair m_q33 tN (th_some m_q32 (by simp only [List.length_append, List.length_cons, List.length_nil]; omega) (in2 (in2 iS (icS mc6)) (ini (by decide) (by decide)))) (.inr (nr_lst m_q32 fun ns e r _ _ => ?_))
  exact absurd (no_last2 ns e r) (by decide)
 ·exact np_pair m_q37 (th_some m_q36 (by rw [l11]; decide) i11) tS (.inl (nr_lst m_q36 n11))
 ·exact np_pair m_q39 tN (th_some m_q38 (by rw [l11]; decide) i11) (.inr (nr_lst m_q38 n11))
 ·exact np_pair m_q43 (th_some' m_q42 (by omega) iN) tS (.inl (nr_tup m_q42))
 ·exact np_pair m_q45 tN (th_some' m_q44 (by omega) iS) (.inr (nr_tup m_q44))
 ·exact np_tup m_q48 (fun x hx => by rw [List.mem_singleton.mp hx]; exact tN) (by show 1 ≤ 5; decide) (by show 1 ≠ 2; decide)
 ·refine np_tup m_q50 (fun x hx => ?_) (by show 3 ≤ 5; decide) (by show 3 ≠ 2; decide)
  simp only [List.mem_cons, List.not_mem_nil, or_false] at hx
  rcases hx with e | e | e <;> rw [e]
  ·exact tN
  ·exact tS
  ·exact t0 m_q49
 ·refine np_lst m_q51 (fun x hx => ?_) (by show 2 ≤ 15; decide)
  simp only [List.mem_cons, List.not_mem_nil, or_false] at hx
  rcases hx with e | e <;> rw [e]
  ·exact tN
  ·exact tS
 ·exact np_pair m_q52 tN Th.non (.inr nr_non)
 ·exact np_pair m_q53 Th.non tS (.inl nr_non)
 ·exact np_flat Th.non (fun t h => nomatch h)
 ·exact np_flat (Th.int (by decide)) (fun t h => nomatch h)
 ·exact np_flat (Th.str (by decide) (by decide)) (fun t h => nomatch h)
 ·exact np_lst m_q56 (fun x hx => absurd hx List.not_mem_nil) (by decide)
 ·exact np_tup m_q57 (fun x hx => absurd hx List.not_mem_nil) (by decide) (by decide)
 ·exact np_dct m_q58
 ·exact np_flat (Th.bl _) (fun t h => nomatch h)
 ·refine np_pair m_q61 (th_some m_q60 (by simp only [List.length_append, List.length_cons, List.length_nil]; omega) (in2 iS (ini (by decide) (by decide)))) tN (.inl (nr_lst m_q60 fun ns e r _ _ => ?_))
  exact absurd (no_last2 ns e r) (by decide)
 ·refine np_pair m_q64 (th_some m_q63 (by simp only [List.length_append, List.length_cons, List.length_nil]; omega) (in2 iN (in1 (Th.int (by have := bN la mla; omega))))) tS (.inl (nr_lst m_q63 fun ns e r _ _ => ?_))
  have := no_last (List.mem_map.mpr ⟨la, mla, rfl⟩) ns e r
  omega
 ·refine np_pair m_q70 tN (th_some m_q69 (by decide) (ini (by decide) (by decide))) (.inr (nr_lst m_q69 fun ns e r _ _ => ?_))
  exact absurd (no_last2 (cs := []) ns e r) (by decide)
 ·refine np_pair m_q74 tN (th_some m_q73 (by simp only [List.length_append, List.length_cons, List.length_nil]; omega) (in2 (icS mc7) (ini (by omega) (by omega)))) (.inr (nr_lst m_q73 fun ns e r _ _ => ?_))
  have := no_last2 ns e r
  omega
section
variable {f tk : Addr} {fd tkd : FuncData}
theorem scNop : FnScope ["store", "plan", "numbers", "sums", "at", "to", "odd", "one", "some", "great", "turned"] ["store", "plan"] (defScope sNop) := ⟨rfl, rfl, rfl, by decide +kernel, rfl, by decide +kernel, by decide +kernel⟩
set_option maxHeartbeats 0 in
theorem ok_nopT (F : Fun K "_law_no_plan" "_law_no_plan" sNop f fd) (B : BtR mg) (GT : FnOk P w K mg base CX0 1 tk tkd ["store", "many"] spTkT) (bT : Binds K tkd ["store", "many"] []) (kT : Kee K tk) (mT : mg "_law_take" = some (.ref tk)) : FnOk P w K mg base CX0 2 f fd ["store", "plan"] spNopT := by
 refine F.ok scNop (fun vs H Q E h => ?_) (fun cdv A outer s H0 vs Q E hr h => ?_)
 ·obtain ⟨d, t, a, b, ns, ss, rfl, _⟩ := h
  rfl
 obtain ⟨d, t, a, b, ns, ss, rfl, D, pl, b25, b26, q⟩ := h
 refine ⟨_, (@pss_cons _ _ _ _ _ (ps_asg (pv 1) (pg_tup rfl (pgs_cons (pg_name (i := 2) scNop.nd rfl (Or.inl rfl)) (pgs_cons (pg_name (i := 3) scNop.nd rfl (Or.inl rfl)) pgs_nil)))) (@pss_cons _ _ _ _ _ (ps_set (i := 2) scNop.nd rfl (Or.inl rfl) (pe_slice sl_list (pv 2) po_none (po_some pe_int))) (@pss_cons _ _ _ _ _ (ps_set (i := 3) scNop.nd rfl (Or.inl rfl) (pe_slice sl_list (pv 3) po_none (po_some pe_int))) (@pss_cons _ _ _ _ _ (ps_set (i := 4) scNop.nd rfl (Or.inl rfl) (pe_call GT hr rfl mT kT bT .nil pass0 (QA.h (qa_cons (QE.mk (pv 0)) (qa_cons (qe_op op_add (QE.mk (pe_callB call_len_seq rfl B.len PySem.boot_len (QA.h (qa_cons (QE.mk (pv 2)) qa_nil)))) (QE.mk pe_int)) qa_nil))))) (@pss_cons _ _ _ _ _ (ps_set (i := 5) scNop.nd rfl (Or.inl rfl) (pe_call GT hr rfl mT kT bT .nil pass0 (QA.h (qa_cons (QE.mk (pv 0)) (qa_cons (qe_op op_add (QE.mk (pe_callB call_len_seq rfl B.len PySem.boot_len (QA.h (qa_cons (QE.mk (pv 3)) qa_nil)))) (QE.mk pe_int)) qa_nil))))) (@pss_cons _ _ _ _ _ (ps_set (i := 6) scNop.nd rfl (Or.inl rfl) (pe_ix ix_list (pe_lst (QA.h (qa_cons (QE.mk (pe_un un_neg pe_int)) (qa_cons (QE.mk pe_bl) (qa_cons (QE.mk pe_bl) (qa_cons (QE.mk pe_non) (qa_cons (QE.mk pe_str) (qa_cons (qe_lst (qa_cons (QE.mk pe_int) qa_nil)) (qa_cons (qe_tup (qa_cons (QE.mk pe_int) qa_nil)) (qa_cons (qe_op op_sub (QE.mk pe_int) (qe_op op_pow (QE.mk pe_int) (QE.mk pe_int))) (qa_cons (QE.mk pe_dnewK) (qa_cons (qe_op op_sub (QE.mk (pe_ix ix_list (pv 2) pe_int (fun _ _ => rfl))) (qe_op op_mul (QE.mk pe_int) (qe_op op_pow (QE.mk pe_int) (QE.mk pe_int)))) qa_nil)))))))))))) (pe_call GT hr rfl mT kT bT .nil pass0 (QA.h (qa_cons (QE.mk (pv 0)) (qa_cons (QE.mk pe_int) qa_nil)))) (fun _ _ => rfl))) (@pss_cons _ _ _ _ _ (ps_set (i := 7) scNop.nd rfl (Or.inl rfl) (pe_ix ix_list (pv 2) (pe_call GT hr rfl mT kT bT .nil pass0 (QA.h (qa_cons (QE.mk (pv 0)) (qa_cons (QE.mk (pe_callB call_len_seq rfl B.len PySem.boot_len (QA.h (qa_cons (QE.mk (pv 2)) qa_nil)))) qa_nil)))) (fun _ _ => rfl))) (@pss_cons _ _ _ _ _ (ps_set (i := 8) scNop.nd rfl (Or.inl rfl) (QE.h (qe_lst (qa_cons (qe_tup (qa_cons (qe_op op_cat (qe_op op_cat (QE.mk (pe_slice sl_list (pv 2) po_none (po_some (pv 4)))) (qe_lst (qa_cons (QE.mk (pv 6)) qa_nil))) (QE.mk (pe_slice sl_list (pv 2) (po_some (pv 4)) po_none))) (qa_cons (QE.mk (pv 3)) qa_nil))) (qa_cons (qe_tup (qa_cons (QE.mk (pv 2)) (qa_cons (qe_op op_cat (qe_op op_cat (QE.mk (pe_slice sl_list (pv 3) po_none (po_some (pv 5)))) (qe_lst (qa_cons (QE.mk (pv 6)) qa_nil))) (QE.mk (pe_slice sl_list (pv 3) (po_some (pv 5)) po_none))) qa_nil))) (qa_cons (qe_tup (qa_cons (qe_lst qa_nil) (qa_cons (QE.mk (pv 3)) qa_nil))) qa_nil)))))) (@pss_cons _ _ _ _ _ (ps_set (i := 8) scNop.nd rfl (Or.inl rfl) (QE.h (qe_op op_cat (QE.mk (pv 8)) (qe_lst (qa_cons (qe_tup (qa_cons (QE.mk (pe_callB call_sorted rfl B.sorted boot_sorted (QA.h (qa_cons (qe_op op_cat (QE.mk (pv 2)) (qe_lst (qa_cons (QE.mk (pv 7)) qa_nil))) qa_nil)))) (qa_cons (QE.mk (pv 3)) qa_nil))) (qa_cons (qe_tup (qa_cons (qe_op op_cat (QE.mk (pv 2)) (qe_lst (qa_cons (QE.mk pe_int) qa_nil))) (qa_cons (QE.mk (pv 3)) qa_nil))) (qa_cons (qe_tup (qa_cons (QE.mk (pv 2)) (qa_cons (qe_op op_cat (qe_op op_cat (QE.mk (pv 3)) (QE.mk (pe_slice sl_list (pv 3) (po_some (pe_un un_neg pe_int)) po_none))) (qe_lst (qa_cons (QE.mk pe_int) (qa_cons (QE.mk pe_int) qa_nil)))) qa_nil))) qa_nil))))))) (@pss_cons _ _ _ _ _ (ps_set (i := 8) scNop.nd rfl (Or.inl rfl) (QE.h (qe_op op_cat (QE.mk (pv 8)) (qe_lst (qa_cons (qe_tup (qa_cons (QE.mk (pe_list_range1 rfl rfl B.range rfl B.list (QA.h (qa_cons (QE.mk pe_int) qa_nil)))) (qa_cons (QE.mk (pv 3)) qa_nil))) (qa_cons (qe_tup (qa_cons (QE.mk (pv 2)) (qa_cons (QE.mk (pe_list_range1 rfl rfl B.range rfl B.list (QA.h (qa_cons (QE.mk pe_int) qa_nil)))) qa_nil))) qa_nil)))))) (@pss_cons _ _ _ _ _ (ps_set (i := 8) scNop.nd rfl (Or.inl rfl) (QE.h (qe_op op_cat (QE.mk (pv 8)) (qe_lst (qa_cons (qe_tup (qa_cons (QE.mk (pe_callTy call_tuple_of rfl B.tuple PyProof.Rows.boot_tuple (QA.h (qa_cons (QE.mk (pv 2)) qa_nil)))) (qa_cons (QE.mk (pv 3)) qa_nil))) (qa_cons (qe_tup (qa_cons (QE.mk (pv 2)) (qa_cons (QE.mk (pe_callTy call_tuple_of rfl B.tuple PyProof.Rows.boot_tuple (QA.h (qa_cons (QE.mk (pv 3)) qa_nil)))) qa_nil))) qa_nil)))))) (@pss_cons _ _ _ _ _ (ps_set (i := 8) scNop.nd rfl (Or.inl rfl) (QE.h (qe_op op_cat (QE.mk (pv 8)) (qe_lst (qa_cons (qe_tup (qa_cons (QE.mk (pv 2)) qa_nil)) (qa_cons (qe_tup (qa_cons (QE.mk (pv 2)) (qa_cons (QE.mk (pv 3)) (qa_cons (qe_lst qa_nil) qa_nil)))) (qa_cons (qe_lst (qa_cons (QE.mk (pv 2)) (qa_cons (QE.mk (pv 3)) qa_nil))) (qa_cons (qe_tup (qa_cons (QE.mk (pv 2)) (qa_cons (QE.mk pe_non) qa_nil))) (qa_cons (qe_tup (qa_cons (QE.mk pe_non) (qa_cons (QE.mk (pv 3)) qa_nil))) qa_nil))))))))) (@pss_cons _ _ _ _ _ (ps_set (i := 8) scNop.nd rfl (Or.inl rfl) (QE.h (qe_op op_cat (QE.mk (pv 8)) (qe_lst (qa_cons (QE.mk pe_non) (qa_cons (QE.mk pe_int) (qa_cons (QE.mk pe_str) (qa_cons (qe_lst qa_nil) (qa_cons (qe_tup qa_nil) (qa_cons (QE.mk pe_dnewK) (qa_cons (QE.mk pe_bl) (qa_cons (qe_tup (qa_cons (qe_op op_cat (QE.mk (pv 3)) (qe_lst (qa_cons (QE.mk pe_int) (qa_cons (QE.mk pe_int) qa_nil)))) (qa_cons (QE.mk (pv 2)) qa_nil))) (qa_cons (qe_tup (qa_cons (qe_op op_cat (QE.mk (pv 2)) (qe_lst (qa_cons (QE.mk (pe_ix ix_list (pv 2) (pe_un un_neg pe_int) (fun _ _ => rfl))) qa_nil))) (qa_cons (QE.mk (pv 3)) qa_nil))) qa_nil))))))))))))) (@pss_cons _ _ _ _ _ (ps_set (i := 9) scNop.nd rfl (Or.inl rfl) (pe_ix ix_list (pe_op op_cat (pe_lst (QA.h (qa_cons (QE.mk pe_int) qa_nil))) (pv 3)) (pe_un un_neg pe_int) (fun _ _ => rfl))) (@pss_cons _ _ _ _ _ (ps_set (i := 10) scNop.nd rfl (Or.inl rfl) (QE.h (qe_lst (qa_cons (qe_tup (qa_cons (QE.mk (pv 2)) (qa_cons (qe_lst (qa_cons (QE.mk pe_int) (qa_cons (QE.mk pe_int) qa_nil))) qa_nil))) (qa_cons (qe_tup (qa_cons (QE.mk (pv 2)) (qa_cons (qe_op op_cat (QE.mk (pe_slice sl_list (pv 3) po_none (po_some pe_int))) (qe_lst (qa_cons (qe_op op_add (QE.mk (pv 9)) (QE.mk pe_int)) (qa_cons (qe_op op_add (QE.mk (pv 9)) (QE.mk pe_int)) qa_nil)))) qa_nil))) qa_nil))))) (@pss_one _ _ _ (ps_ret (pe_ix ix_list (pe_op op_cat (pv 8) (pv 10)) (pe_call GT hr rfl mT kT bT .nil pass0 (QA.h (qa_cons (QE.mk (pv 0)) (qa_cons (QE.mk pe_int) qa_nil)))) (fun _ _ => rfl))))))))))))))))))), ?_⟩
 have L0 : Lv d H0 H0 [] := Lv.start D
 refine ⟨_, rfl, t, _, rfl, SqT.of (L0.old pl.t), rfl, _, _, rfl, _, _, rfl, rfl, ?_⟩
 have rN : Rise (ns.take 9) := ⟨pl.ok.n.up.sublist (List.take_sublist _ _), fun x hx => pl.ok.n.bd x (List.mem_of_mem_take hx)⟩
 have lN : 1 ≤ (ns.take 9).length ∧ (ns.take 9).length ≤ 9 := by rw [List.length_take]; have := pl.ok.n1; omega
 have bN : ∀ x ∈ ns.take 9, 0 ≤ x ∧ x < 5 * 10 ^ 25 := fun x hx => ⟨rN.bd x hx, b25 x (List.mem_of_mem_take hx)⟩
 have lS : (ss.take 9).length ≤ 9 := by rw [List.length_take]; omega
 have bS : ∀ x ∈ ss.take 9, 0 ≤ x ∧ x < 10 ^ 26 := fun x hx => ⟨pl.ok.s.bd x (List.mem_of_mem_take hx), b26 x (List.mem_of_mem_take hx)⟩
 refine ⟨_, rfl, _, rfl, a, _, rfl, SqL.of (L0.old pl.a), ?_⟩
 rw [show cutV (ns.map V.int) none (some 9) = (ns.take 9).map V.int from cut_take ns 9]
 generalize ns.take 9 = N9 at rN lN bN ⊢
 intro q1 hq1
 have L1 := L0.new hq1 (.lst (N9.map V.int))
 generalize upd H0 q1 (.lst (N9.map V.int)) = H1 at L1 ⊢
 refine ⟨_, rfl, _, rfl, b, _, rfl, SqL.of (L1.old pl.b), ?_⟩
 rw [show cutV (ss.map V.int) none (some 9) = (ss.take 9).map V.int from cut_take ss 9]
 generalize ss.take 9 = S9 at lS bS ⊢
 intro q2 hq2
 have L2 := L1.new hq2 (.lst (S9.map V.int))
 generalize upd H1 q2 (.lst (S9.map V.int)) = H2 at L2 ⊢
 dsimp only [gName]
 refine st_eq (σ' := [some (.ref d), some (.ref t), some (.ref q1), some (.ref q2), none, none, none, none, none, none, none]) rfl ?_
 obtain ⟨lN1, lN9⟩ := lN
 obtain ⟨x0, hx0, mx0⟩ := pick_int N9 (r := 0) (by decide) (by omega)
 obtain ⟨la, hla, mla⟩ := last_inT lN1
 obtain ⟨gr, hgr', mgr⟩ := last_inT (R := 0 :: S9) (by rw [List.length_cons]; omega)
 have hgr : atI ([V.int 0] ++ S9.map V.int) (-1) = some (.int gr) := hgr'
 have gb : 0 ≤ gr ∧ gr < 10 ^ 26 := by
  rcases List.mem_cons.mp mgr with e | e
  ·rw [e]; decide
  ·exact bS gr e
 have x0b := bN x0 mx0
 have GA : Same (msk (S1 d) H0) (msk (S1 d) H0) := fun _ _ h => h
 have m_q2 := L2.m (q := q2) (o := .lst (S9.map V.int)) (by repeat (first | exact List.mem_cons_self | apply List.mem_cons_of_mem))
 have m_q1 := L2.m (q := q1) (o := .lst (N9.map V.int)) (by repeat (first | exact List.mem_cons_self | apply List.mem_cons_of_mem))
 replace GA : Same (msk (S1 d) H0) (msk (S1 d) H2) := fun b u e => L2.G _ _ (GA b u e)
 replace L2 := Lv.start L2.D
 refine ⟨_, rfl, _, rfl, q1, _, rfl, .inl (SqL.of (L2.old m_q1)), _, _, rfl, rfl, d, _, rfl, L2.D, (by (try simp only [List.length_append, List.length_cons, List.length_nil, List.length_map, List.length_reverse]); omega), Int.lt_of_lt_of_le (show _ < (40 : Int) by (try simp only [List.length_append, List.length_cons, List.length_nil, List.length_map]); omega) (by decide), ?_⟩
 intro r1 H3 r10 r11 D3 o3
 have L3 := L2.mv D3 (off_msk o3)
 clear L2 D3 o3
 simp only [List.length_append, List.length_cons, List.length_nil, List.length_map] at r11
 replace m_q2 := L3.G _ _ m_q2
 replace m_q1 := L3.G _ _ m_q1
 replace GA : Same (msk (S1 d) H0) (msk (S1 d) H3) := fun b u e => L3.G _ _ (GA b u e)
 replace L3 := Lv.start L3.D
 dsimp only [gName]
 refine st_eq (σ' := [some (.ref d), some (.ref t), some (.ref q1), some (.ref q2), some (.int r1), none, none, none, none, none, none]) rfl ?_
 refine ⟨_, rfl, _, rfl, q2, _, rfl, .inl (SqL.of (L3.old m_q2)), _, _, rfl, rfl, d, _, rfl, L3.D, (by (try simp only [List.length_append, List.length_cons, List.length_nil, List.length_map, List.length_reverse]); omega), Int.lt_of_lt_of_le (show _ < (40 : Int) by (try simp only [List.length_append, List.length_cons, List.length_nil, List.length_map]); omega) (by decide), ?_⟩
 intro r2 H4 r20 r21 D4 o4
 have L4 := L3.mv D4 (off_msk o4)
 clear L3 D4 o4
 simp only [List.length_append, List.length_cons, List.length_nil, List.length_map] at r21
 replace m_q2 := L4.G _ _ m_q2
 replace m_q1 := L4.G _ _ m_q1
 replace GA : Same (msk (S1 d) H0) (msk (S1 d) H4) := fun b u e => L4.G _ _ (GA b u e)
 replace L4 := Lv.start L4.D
 dsimp only [gName]
 refine st_eq (σ' := [some (.ref d), some (.ref t), some (.ref q1), some (.ref q2), some (.int r1), some (.int r2), none, none, none, none, none]) rfl ?_
 refine ⟨_, rfl, (by show 1 ≤ sizeLine; decide), ?_⟩
 intro q3 hq3
 have L5 := L4.new hq3 (.lst [.int 1])
 generalize upd H4 q3 (.lst [.int 1]) = H5 at L5 ⊢
 clear L4 hq3
 refine ⟨(by show 1 ≤ sizeLine; decide), ?_⟩
 intro q4 hq4
 have L6 := L5.new hq4 (.tup [.int 1])
 generalize upd H5 q4 (.tup [.int 1]) = H6 at L6 ⊢
 clear L5 hq4
 refine ⟨_, _, rfl, rfl, ⟨by decide, by decide, by decide⟩, _, _, rfl, rfl, ?_⟩
 intro q5 hq5
 have L7 := L6.new hq5 (.dK [])
 generalize upd H6 q5 (.dK []) = H7 at L7 ⊢
 clear L6 hq5
 refine ⟨_, rfl, q1, _, 0, .int x0, rfl, rfl, SqL.of (L7.old m_q1), hx0, _, _, rfl, rfl, ⟨by decide, by decide, by decide⟩, _, _, rfl, rfl, .inl ⟨by decide, by decide⟩, _, _, rfl, rfl, (by show 10 ≤ sizeLine; decide), ?_⟩
 intro q6 hq6
 have L8 := L7.new hq6 (.lst [.int (-1), .bl true, .bl false, .non, .str "1", .ref q3, .ref q4, .int (0 - ((10 : Int) ^ (20 : Int).toNat)), .ref q5, .int (x0 - (9 * ((10 : Int) ^ (25 : Int).toNat)))])
 generalize upd H7 q6 (.lst [.int (-1), .bl true, .bl false, .non, .str "1", .ref q3, .ref q4, .int (0 - ((10 : Int) ^ (20 : Int).toNat)), .ref q5, .int (x0 - (9 * ((10 : Int) ^ (25 : Int).toNat)))]) = H8 at L8 ⊢
 clear L7 hq6
 refine ⟨_, rfl, d, _, rfl, L8.D, by decide, by decide, ?_⟩
 intro r3 H9 r30 r31 D9 o9
 have L9 := L8.mv D9 (off_msk o9)
 clear L8 D9 o9
 obtain ⟨v1, hv1, mv1⟩ := pick_any (xs := [(.int (-1) : V), (.bl true : V), (.bl false : V), (.non : V), (.str "1" : V), (.ref q3 : V), (.ref q4 : V), (.int (0 - ((10 : Int) ^ (20 : Int).toNat)) : V), (.ref q5 : V), (.int (x0 - (9 * ((10 : Int) ^ (25 : Int).toNat))) : V)]) r30 r31
 refine ⟨q6, _, r3, v1, rfl, rfl, SqL.of (L9.at (by repeat (first | exact List.mem_cons_self | apply List.mem_cons_of_mem))), hv1, ?_⟩
 replace m_q2 := L9.G _ _ m_q2
 replace m_q1 := L9.G _ _ m_q1
 have m_q6 := L9.m (q := q6) (o := .lst [.int (-1), .bl true, .bl false, .non, .str "1", .ref q3, .ref q4, .int (0 - ((10 : Int) ^ (20 : Int).toNat)), .ref q5, .int (x0 - (9 * ((10 : Int) ^ (25 : Int).toNat)))]) (by repeat (first | exact List.mem_cons_self | apply List.mem_cons_of_mem))
 have m_q5 := L9.m (q := q5) (o := .dK []) (by repeat (first | exact List.mem_cons_self | apply List.mem_cons_of_mem))
 have m_q4 := L9.m (q := q4) (o := .tup [.int 1]) (by repeat (first | exact List.mem_cons_self | apply List.mem_cons_of_mem))
 have m_q3 := L9.m (q := q3) (o := .lst [.int 1]) (by repeat (first | exact List.mem_cons_self | apply List.mem_cons_of_mem))
 replace GA : Same (msk (S1 d) H0) (msk (S1 d) H9) := fun b u e => L9.G _ _ (GA b u e)
 replace L9 := Lv.start L9.D
 dsimp only [gName]
 refine st_eq (σ' := [some (.ref d), some (.ref t), some (.ref q1), some (.ref q2), some (.int r1), some (.int r2), some (v1), none, none, none, none]) rfl ?_
 refine ⟨_, rfl, _, rfl, _, rfl, q1, _, rfl, .inl (SqL.of (L9.old m_q1)), d, _, rfl, L9.D, (by (try simp only [List.length_append, List.length_cons, List.length_nil, List.length_map, List.length_reverse]); omega), Int.lt_of_lt_of_le (show _ < (40 : Int) by (try simp only [List.length_append, List.length_cons, List.length_nil, List.length_map]); omega) (by decide), ?_⟩
 intro r4 H10 r40 r41 D10 o10
 have L10 := L9.mv D10 (off_msk o10)
 clear L9 D10 o10
 simp only [List.length_append, List.length_cons, List.length_nil, List.length_map] at r41
 obtain ⟨one, hone, mone⟩ := pick_int N9 r40 (by omega)
 refine ⟨q1, _, r4, .int one, rfl, rfl, SqL.of (L10.old m_q1), hone, ?_⟩
 replace m_q2 := L10.G _ _ m_q2
 replace m_q1 := L10.G _ _ m_q1
 replace m_q6 := L10.G _ _ m_q6
 replace m_q5 := L10.G _ _ m_q5
 replace m_q4 := L10.G _ _ m_q4
 replace m_q3 := L10.G _ _ m_q3
 replace GA : Same (msk (S1 d) H0) (msk (S1 d) H10) := fun b u e => L10.G _ _ (GA b u e)
 replace L10 := Lv.start L10.D
 dsimp only [gName]
 refine st_eq (σ' := [some (.ref d), some (.ref t), some (.ref q1), some (.ref q2), some (.int r1), some (.int r2), some (v1), some (.int one), none, none, none]) rfl ?_
 refine ⟨_, rfl, _, rfl, _, rfl, q1, _, rfl, SqL.of (L10.old m_q1), ?_⟩
 have lc2 : (cutV (N9.map V.int) none (some r1)).length ≤ ((N9.map V.int)).length := cutV_length _ _ _
 have mc2 : ∀ x ∈ cutV (N9.map V.int) none (some r1), x ∈ (N9.map V.int) := fun x hx => cut_mem hx
 generalize hc2 : cutV (N9.map V.int) none (some r1) = c2 at lc2 mc2 ⊢
 (try simp only [List.length_map, List.length_append, List.length_cons, List.length_nil] at lc2)
 intro q7 hq7
 have L11 := L10.new hq7 (.lst c2)
 generalize upd H10 q7 (.lst c2) = H11 at L11 ⊢
 clear L10 hq7
 refine ⟨_, rfl, (by show 1 ≤ sizeLine; decide), ?_⟩
 intro q8 hq8
 have L12 := L11.new hq8 (.lst [v1])
 generalize upd H11 q8 (.lst [v1]) = H12 at L12 ⊢
 clear L11 hq8
 refine ⟨q7, q8, _, _, rfl, rfl, L12.at (by repeat (first | exact List.mem_cons_self | apply List.mem_cons_of_mem)), L12.at (by repeat (first | exact List.mem_cons_self | apply List.mem_cons_of_mem)), small (by (try simp only [List.length_append, List.length_cons, List.length_nil, List.length_map, List.length_reverse]); omega), ?_⟩
 intro q9 hq9
 have L13 := L12.new hq9 (.lst (c2 ++ [v1]))
 generalize upd H12 q9 (.lst (c2 ++ [v1])) = H13 at L13 ⊢
 clear L12 hq9
 replace L13 := L13.drop2
 refine ⟨_, rfl, _, rfl, _, rfl, q1, _, rfl, SqL.of (L13.old m_q1), ?_⟩
 have lc3 : (cutV (N9.map V.int) (some r1) none).length ≤ ((N9.map V.int)).length := cutV_length _ _ _
 have mc3 : ∀ x ∈ cutV (N9.map V.int) (some r1) none, x ∈ (N9.map V.int) := fun x hx => cut_mem hx
 generalize hc3 : cutV (N9.map V.int) (some r1) none = c3 at lc3 mc3 ⊢
 (try simp only [List.length_map, List.length_append, List.length_cons, List.length_nil] at lc3)
 intro q10 hq10
 have L14 := L13.new hq10 (.lst c3)
 generalize upd H13 q10 (.lst c3) = H14 at L14 ⊢
 clear L13 hq10
 refine ⟨q9, q10, _, _, rfl, rfl, L14.at (by repeat (first | exact List.mem_cons_self | apply List.mem_cons_of_mem)), L14.at (by repeat (first | exact List.mem_cons_self | apply List.mem_cons_of_mem)), small (by (try simp only [List.length_append, List.length_cons, List.length_nil, List.length_map, List.length_reverse]); omega), ?_⟩
 intro q11 hq11
 have L15 := L14.new hq11 (.lst ((c2 ++ [v1]) ++ c3))
 generalize upd H14 q11 (.lst ((c2 ++ [v1]) ++ c3)) = H15 at L15 ⊢
 clear L14 hq11
 replace L15 := L15.drop2
 refine ⟨_, rfl, two_le, ?_⟩
 intro q12 hq12
 have L16 := L15.new hq12 (.tup [.ref q11, .ref q2])
 generalize upd H15 q12 (.tup [.ref q11, .ref q2]) = H16 at L16 ⊢
 clear L15 hq12
 refine ⟨_, rfl, _, rfl, _, rfl, _, rfl, q2, _, rfl, SqL.of (L16.old m_q2), ?_⟩
 have lc4 : (cutV (S9.map V.int) none (some r2)).length ≤ ((S9.map V.int)).length := cutV_length _ _ _
 have mc4 : ∀ x ∈ cutV (S9.map V.int) none (some r2), x ∈ (S9.map V.int) := fun x hx => cut_mem hx
 generalize hc4 : cutV (S9.map V.int) none (some r2) = c4 at lc4 mc4 ⊢
 (try simp only [List.length_map, List.length_append, List.length_cons, List.length_nil] at lc4)
 intro q13 hq13
 have L17 := L16.new hq13 (.lst c4)
 generalize upd H16 q13 (.lst c4) = H17 at L17 ⊢
 clear L16 hq13
 refine ⟨_, rfl, (by show 1 ≤ sizeLine; decide), ?_⟩
 intro q14 hq14
 have L18 := L17.new hq14 (.lst [v1])
 generalize upd H17 q14 (.lst [v1]) = H18 at L18 ⊢
 clear L17 hq14
 refine ⟨q13, q14, _, _, rfl, rfl, L18.at (by repeat (first | exact List.mem_cons_self | apply List.mem_cons_of_mem)), L18.at (by repeat (first | exact List.mem_cons_self | apply List.mem_cons_of_mem)), small (by (try simp only [List.length_append, List.length_cons, List.length_nil, List.length_map, List.length_reverse]); omega), ?_⟩
 intro q15 hq15
 have L19 := L18.new hq15 (.lst (c4 ++ [v1]))
 generalize upd H18 q15 (.lst (c4 ++ [v1])) = H19 at L19 ⊢
 clear L18 hq15
 replace L19 := L19.drop2
 refine ⟨_, rfl, _, rfl, _, rfl, q2, _, rfl, SqL.of (L19.old m_q2), ?_⟩
 have lc5 : (cutV (S9.map V.int) (some r2) none).length ≤ ((S9.map V.int)).length := cutV_length _ _ _
 have mc5 : ∀ x ∈ cutV (S9.map V.int) (some r2) none, x ∈ (S9.map V.int) := fun x hx => cut_mem hx
 generalize hc5 : cutV (S9.map V.int) (some r2) none = c5 at lc5 mc5 ⊢
 (try simp only [List.length_map, List.length_append, List.length_cons, List.length_nil] at lc5)
 intro q16 hq16
 have L20 := L19.new hq16 (.lst c5)
 generalize upd H19 q16 (.lst c5) = H20 at L20 ⊢
 clear L19 hq16
 refine ⟨q15, q16, _, _, rfl, rfl, L20.at (by repeat (first | exact List.mem_cons_self | apply List.mem_cons_of_mem)), L20.at (by repeat (first | exact List.mem_cons_self | apply List.mem_cons_of_mem)), small (by (try simp only [List.length_append, List.length_cons, List.length_nil, List.length_map, List.length_reverse]); omega), ?_⟩
 intro q17 hq17
 have L21 := L20.new hq17 (.lst ((c4 ++ [v1]) ++ c5))
 generalize upd H20 q17 (.lst ((c4 ++ [v1]) ++ c5)) = H21 at L21 ⊢
 clear L20 hq17
 replace L21 := L21.drop2
 refine ⟨two_le, ?_⟩
 intro q18 hq18
 have L22 := L21.new hq18 (.tup [.ref q1, .ref q17])
 generalize upd H21 q18 (.tup [.ref q1, .ref q17]) = H22 at L22 ⊢
 clear L21 hq18
 refine ⟨(by show 0 ≤ sizeLine; decide), ?_⟩
 intro q19 hq19
 have L23 := L22.new hq19 (.lst [])
 generalize upd H22 q19 (.lst []) = H23 at L23 ⊢
 clear L22 hq19
 refine ⟨_, rfl, two_le, ?_⟩
 intro q20 hq20
 have L24 := L23.new hq20 (.tup [.ref q19, .ref q2])
 generalize upd H23 q20 (.tup [.ref q19, .ref q2]) = H24 at L24 ⊢
 clear L23 hq20
 refine ⟨(by show 3 ≤ sizeLine; decide), ?_⟩
 intro q21 hq21
 have L25 := L24.new hq21 (.lst [.ref q12, .ref q18, .ref q20])
 generalize upd H24 q21 (.lst [.ref q12, .ref q18, .ref q20]) = H25 at L25 ⊢
 clear L24 hq21
 replace m_q2 := L25.G _ _ m_q2
 replace m_q1 := L25.G _ _ m_q1
 replace m_q6 := L25.G _ _ m_q6
 replace m_q5 := L25.G _ _ m_q5
 replace m_q4 := L25.G _ _ m_q4
 replace m_q3 := L25.G _ _ m_q3
 have m_q21 := L25.m (q := q21) (o := .lst [.ref q12, .ref q18, .ref q20]) (by repeat (first | exact List.mem_cons_self | apply List.mem_cons_of_mem))
 have m_q20 := L25.m (q := q20) (o := .tup [.ref q19, .ref q2]) (by repeat (first | exact List.mem_cons_self | apply List.mem_cons_of_mem))
 have m_q19 := L25.m (q := q19) (o := .lst []) (by repeat (first | exact List.mem_cons_self | apply List.mem_cons_of_mem))
 have m_q18 := L25.m (q := q18) (o := .tup [.ref q1, .ref q17]) (by repeat (first | exact List.mem_cons_self | apply List.mem_cons_of_mem))
 have m_q17 := L25.m (q := q17) (o := .lst ((c4 ++ [v1]) ++ c5)) (by repeat (first | exact List.mem_cons_self | apply List.mem_cons_of_mem))
 have m_q12 := L25.m (q := q12) (o := .tup [.ref q11, .ref q2]) (by repeat (first | exact List.mem_cons_self | apply List.mem_cons_of_mem))
 have m_q11 := L25.m (q := q11) (o := .lst ((c2 ++ [v1]) ++ c3)) (by repeat (first | exact List.mem_cons_self | apply List.mem_cons_of_mem))
 replace GA : Same (msk (S1 d) H0) (msk (S1 d) H25) := fun b u e => L25.G _ _ (GA b u e)
 replace L25 := Lv.start L25.D
 dsimp only [gName]
 refine st_eq (σ' := [some (.ref d), some (.ref t), some (.ref q1), some (.ref q2), some (.int r1), some (.int r2), some (v1), some (.int one), some (.ref q21), none, none]) rfl ?_
 refine ⟨_, rfl, _, rfl, _, rfl, (by show 1 ≤ sizeLine; decide), ?_⟩
 intro q22 hq22
 have L26 := L25.new hq22 (.lst [.int one])
 generalize upd H25 q22 (.lst [.int one]) = H26 at L26 ⊢
 clear L25 hq22
 refine ⟨q1, q22, _, _, rfl, rfl, L26.old m_q1, L26.at (by repeat (first | exact List.mem_cons_self | apply List.mem_cons_of_mem)), small (by (try simp only [List.length_append, List.length_cons, List.length_nil, List.length_map, List.length_reverse]); omega), ?_⟩
 intro q23 hq23
 have L27 := L26.new hq23 (.lst ((N9.map V.int) ++ [.int one]))
 generalize upd H26 q23 (.lst ((N9.map V.int) ++ [.int one])) = H27 at L27 ⊢
 clear L26 hq23
 replace L27 := L27.drop1
 refine ⟨q23, (N9 ++ [one]), rfl, (by (try simp only [List.map_append, List.map_cons, List.map_nil]); exact SqL.of (L27.at (by repeat (first | exact List.mem_cons_self | apply List.mem_cons_of_mem)))), (by (try simp only [List.length_append, List.length_cons, List.length_nil]); omega), ?_⟩
 intro q24 zq24 hq24 pq24 oq24
 have L28 := L27.new hq24 (.lst (zq24.map V.int))
 generalize upd H27 q24 (.lst (zq24.map V.int)) = H28 at L28 ⊢
 clear L27 hq24
 replace L28 := L28.drop1
 refine ⟨_, rfl, two_le, ?_⟩
 intro q25 hq25
 have L29 := L28.new hq25 (.tup [.ref q24, .ref q2])
 generalize upd H28 q25 (.tup [.ref q24, .ref q2]) = H29 at L29 ⊢
 clear L28 hq25
 refine ⟨_, rfl, (by show 1 ≤ sizeLine; decide), ?_⟩
 intro q26 hq26
 have L30 := L29.new hq26 (.lst [.int 0])
 generalize upd H29 q26 (.lst [.int 0]) = H30 at L30 ⊢
 clear L29 hq26
 refine ⟨q1, q26, _, _, rfl, rfl, L30.old m_q1, L30.at (by repeat (first | exact List.mem_cons_self | apply List.mem_cons_of_mem)), small (by (try simp only [List.length_append, List.length_cons, List.length_nil, List.length_map, List.length_reverse]); omega), ?_⟩
 intro q27 hq27
 have L31 := L30.new hq27 (.lst ((N9.map V.int) ++ [.int 0]))
 generalize upd H30 q27 (.lst ((N9.map V.int) ++ [.int 0])) = H31 at L31 ⊢
 clear L30 hq27
 replace L31 := L31.drop1
 refine ⟨_, rfl, two_le, ?_⟩
 intro q28 hq28
 have L32 := L31.new hq28 (.tup [.ref q27, .ref q2])
 generalize upd H31 q28 (.tup [.ref q27, .ref q2]) = H32 at L32 ⊢
 clear L31 hq28
 refine ⟨_, rfl, _, rfl, _, rfl, _, rfl, _, rfl, q2, _, rfl, SqL.of (L32.old m_q2), ?_⟩
 have lc6 : (cutV (S9.map V.int) (some (-1)) none).length ≤ ((S9.map V.int)).length := cutV_length _ _ _
 have mc6 : ∀ x ∈ cutV (S9.map V.int) (some (-1)) none, x ∈ (S9.map V.int) := fun x hx => cut_mem hx
 generalize hc6 : cutV (S9.map V.int) (some (-1)) none = c6 at lc6 mc6 ⊢
 (try simp only [List.length_map, List.length_append, List.length_cons, List.length_nil] at lc6)
 intro q29 hq29
 have L33 := L32.new hq29 (.lst c6)
 generalize upd H32 q29 (.lst c6) = H33 at L33 ⊢
 clear L32 hq29
 refine ⟨q2, q29, _, _, rfl, rfl, L33.old m_q2, L33.at (by repeat (first | exact List.mem_cons_self | apply List.mem_cons_of_mem)), small (by (try simp only [List.length_append, List.length_cons, List.length_nil, List.length_map, List.length_reverse]); omega), ?_⟩
 intro q30 hq30
 have L34 := L33.new hq30 (.lst ((S9.map V.int) ++ c6))
 generalize upd H33 q30 (.lst ((S9.map V.int) ++ c6)) = H34 at L34 ⊢
 clear L33 hq30
 replace L34 := L34.drop1
 refine ⟨two_le, ?_⟩
 intro q31 hq31
 have L35 := L34.new hq31 (.lst [.int 0, .int 0])
 generalize upd H34 q31 (.lst [.int 0, .int 0]) = H35 at L35 ⊢
 clear L34 hq31
 refine ⟨q30, q31, _, _, rfl, rfl, L35.at (by repeat (first | exact List.mem_cons_self | apply List.mem_cons_of_mem)), L35.at (by repeat (first | exact List.mem_cons_self | apply List.mem_cons_of_mem)), small (by (try simp only [List.length_append, List.length_cons, List.length_nil, List.length_map, List.length_reverse]); omega), ?_⟩
 intro q32 hq32
 have L36 := L35.new hq32 (.lst (((S9.map V.int) ++ c6) ++ [.int 0, .int 0]))
 generalize upd H35 q32 (.lst (((S9.map V.int) ++ c6) ++ [.int 0, .int 0])) = H36 at L36 ⊢
 clear L35 hq32
 replace L36 := L36.drop2
 refine ⟨two_le, ?_⟩
 intro q33 hq33
 have L37 := L36.new hq33 (.tup [.ref q1, .ref q32])
 generalize upd H36 q33 (.tup [.ref q1, .ref q32]) = H37 at L37 ⊢
 clear L36 hq33
 refine ⟨(by show 3 ≤ sizeLine; decide), ?_⟩
 intro q34 hq34
 have L38 := L37.new hq34 (.lst [.ref q25, .ref q28, .ref q33])
 generalize upd H37 q34 (.lst [.ref q25, .ref q28, .ref q33]) = H38 at L38 ⊢
 clear L37 hq34
 refine ⟨q21, q34, _, _, rfl, rfl, L38.old m_q21, L38.at (by repeat (first | exact List.mem_cons_self | apply List.mem_cons_of_mem)), small (by (try simp only [List.length_append, List.length_cons, List.length_nil, List.length_map, List.length_reverse]); omega), ?_⟩
 intro q35 hq35
 have L39 := L38.new hq35 (.lst ([.ref q12, .ref q18, .ref q20] ++ [.ref q25, .ref q28, .ref q33]))
 generalize upd H38 q35 (.lst ([.ref q12, .ref q18, .ref q20] ++ [.ref q25, .ref q28, .ref q33])) = H39 at L39 ⊢
 clear L38 hq35
 replace L39 := L39.drop1
 replace m_q2 := L39.G _ _ m_q2
 replace m_q1 := L39.G _ _ m_q1
 replace m_q6 := L39.G _ _ m_q6
 replace m_q5 := L39.G _ _ m_q5
 replace m_q4 := L39.G _ _ m_q4
 replace m_q3 := L39.G _ _ m_q3
 replace m_q21 := L39.G _ _ m_q21
 replace m_q20 := L39.G _ _ m_q20
 replace m_q19 := L39.G _ _ m_q19
 replace m_q18 := L39.G _ _ m_q18
 replace m_q17 := L39.G _ _ m_q17
 replace m_q12 := L39.G _ _ m_q12
 replace m_q11 := L39.G _ _ m_q11
 have m_q35 := L39.m (q := q35) (o := .lst ([.ref q12, .ref q18, .ref q20] ++ [.ref q25, .ref q28, .ref q33])) (by repeat (first | exact List.mem_cons_self | apply List.mem_cons_of_mem))
 have m_q33 := L39.m (q := q33) (o := .tup [.ref q1, .ref q32]) (by repeat (first | exact List.mem_cons_self | apply List.mem_cons_of_mem))
 have m_q32 := L39.m (q := q32) (o := .lst (((S9.map V.int) ++ c6) ++ [.int 0, .int 0])) (by repeat (first | exact List.mem_cons_self | apply List.mem_cons_of_mem))
 have m_q28 := L39.m (q := q28) (o := .tup [.ref q27, .ref q2]) (by repeat (first | exact List.mem_cons_self | apply List.mem_cons_of_mem))
 have m_q27 := L39.m (q := q27) (o := .lst ((N9.map V.int) ++ [.int 0])) (by repeat (first | exact List.mem_cons_self | apply List.mem_cons_of_mem))
 have m_q25 := L39.m (q := q25) (o := .tup [.ref q24, .ref q2]) (by repeat (first | exact List.mem_cons_self | apply List.mem_cons_of_mem))
 have m_q24 := L39.m (q := q24) (o := .lst (zq24.map V.int)) (by repeat (first | exact List.mem_cons_self | apply List.mem_cons_of_mem))
 replace GA : Same (msk (S1 d) H0) (msk (S1 d) H39) := fun b u e => L39.G _ _ (GA b u e)
 replace L39 := Lv.start L39.D
 dsimp only [gName]
 refine st_eq (σ' := [some (.ref d), some (.ref t), some (.ref q1), some (.ref q2), some (.int r1), some (.int r2), some (v1), some (.int one), some (.ref q35), none, none]) rfl ?_
 refine ⟨_, rfl, _, _, rfl, ⟨by decide, by decide, by decide, by decide⟩, ?_⟩
 intro q36 hq36
 have L40 := L39.new hq36 (.lst ((List.range ((11 : Int) - 0).toNat).map fun k : Nat => V.int (0 + (k : Int))))
 generalize upd H39 q36 (.lst ((List.range ((11 : Int) - 0).toNat).map fun k : Nat => V.int (0 + (k : Int)))) = H40 at L40 ⊢
 clear L39 hq36
 refine ⟨_, rfl, two_le, ?_⟩
 intro q37 hq37
 have L41 := L40.new hq37 (.tup [.ref q36, .ref q2])
 generalize upd H40 q37 (.tup [.ref q36, .ref q2]) = H41 at L41 ⊢
 clear L40 hq37
 refine ⟨_, rfl, _, _, rfl, ⟨by decide, by decide, by decide, by decide⟩, ?_⟩
 intro q38 hq38
 have L42 := L41.new hq38 (.lst ((List.range ((11 : Int) - 0).toNat).map fun k : Nat => V.int (0 + (k : Int))))
 generalize upd H41 q38 (.lst ((List.range ((11 : Int) - 0).toNat).map fun k : Nat => V.int (0 + (k : Int)))) = H42 at L42 ⊢
 clear L41 hq38
 refine ⟨two_le, ?_⟩
 intro q39 hq39
 have L43 := L42.new hq39 (.tup [.ref q1, .ref q38])
 generalize upd H42 q39 (.tup [.ref q1, .ref q38]) = H43 at L43 ⊢
 clear L42 hq39
 refine ⟨two_le, ?_⟩
 intro q40 hq40
 have L44 := L43.new hq40 (.lst [.ref q37, .ref q39])
 generalize upd H43 q40 (.lst [.ref q37, .ref q39]) = H44 at L44 ⊢
 clear L43 hq40
 refine ⟨q35, q40, _, _, rfl, rfl, L44.old m_q35, L44.at (by repeat (first | exact List.mem_cons_self | apply List.mem_cons_of_mem)), small (by (try simp only [List.length_append, List.length_cons, List.length_nil, List.length_map, List.length_reverse]); omega), ?_⟩
 intro q41 hq41
 have L45 := L44.new hq41 (.lst (([.ref q12, .ref q18, .ref q20] ++ [.ref q25, .ref q28, .ref q33]) ++ [.ref q37, .ref q39]))
 generalize upd H44 q41 (.lst (([.ref q12, .ref q18, .ref q20] ++ [.ref q25, .ref q28, .ref q33]) ++ [.ref q37, .ref q39])) = H45 at L45 ⊢
 clear L44 hq41
 replace L45 := L45.drop1
 replace m_q2 := L45.G _ _ m_q2
 replace m_q1 := L45.G _ _ m_q1
 replace m_q6 := L45.G _ _ m_q6
 replace m_q5 := L45.G _ _ m_q5
 replace m_q4 := L45.G _ _ m_q4
 replace m_q3 := L45.G _ _ m_q3
 replace m_q21 := L45.G _ _ m_q21
 replace m_q20 := L45.G _ _ m_q20
 replace m_q19 := L45.G _ _ m_q19
 replace m_q18 := L45.G _ _ m_q18
 replace m_q17 := L45.G _ _ m_q17
 replace m_q12 := L45.G _ _ m_q12
 replace m_q11 := L45.G _ _ m_q11
 replace m_q35 := L45.G _ _ m_q35
 replace m_q33 := L45.G _ _ m_q33
 replace m_q32 := L45.G _ _ m_q32
 replace m_q28 := L45.G _ _ m_q28
 replace m_q27 := L45.G _ _ m_q27
 replace m_q25 := L45.G _ _ m_q25
 replace m_q24 := L45.G _ _ m_q24
 have m_q41 := L45.m (q := q41) (o := .lst (([.ref q12, .ref q18, .ref q20] ++ [.ref q25, .ref q28, .ref q33]) ++ [.ref q37, .ref q39])) (by repeat (first | exact List.mem_cons_self | apply List.mem_cons_of_mem))
 have m_q39 := L45.m (q := q39) (o := .tup [.ref q1, .ref q38]) (by repeat (first | exact List.mem_cons_self | apply List.mem_cons_of_mem))
 have m_q38 := L45.m (q := q38) (o := .lst ((List.range ((11 : Int) - 0).toNat).map fun k : Nat => V.int (0 + (k : Int)))) (by repeat (first | exact List.mem_cons_self | apply List.mem_cons_of_mem))
 have m_q37 := L45.m (q := q37) (o := .tup [.ref q36, .ref q2]) (by repeat (first | exact List.mem_cons_self | apply List.mem_cons_of_mem))
 have m_q36 := L45.m (q := q36) (o := .lst ((List.range ((11 : Int) - 0).toNat).map fun k : Nat => V.int (0 + (k : Int)))) (by repeat (first | exact List.mem_cons_self | apply List.mem_cons_of_mem))
 replace GA : Same (msk (S1 d) H0) (msk (S1 d) H45) := fun b u e => L45.G _ _ (GA b u e)
 replace L45 := Lv.start L45.D
 dsimp only [gName]
 refine st_eq (σ' := [some (.ref d), some (.ref t), some (.ref q1), some (.ref q2), some (.int r1), some (.int r2), some (v1), some (.int one), some (.ref q41), none, none]) rfl ?_
 refine ⟨_, rfl, _, rfl, q1, _, rfl, .inl ⟨SqL.of (L45.old m_q1), ?_⟩⟩
 intro q42 hq42
 have L46 := L45.new hq42 (.tup ((N9.map V.int)))
 generalize upd H45 q42 (.tup ((N9.map V.int))) = H46 at L46 ⊢
 clear L45 hq42
 refine ⟨_, rfl, two_le, ?_⟩
 intro q43 hq43
 have L47 := L46.new hq43 (.tup [.ref q42, .ref q2])
 generalize upd H46 q43 (.tup [.ref q42, .ref q2]) = H47 at L47 ⊢
 clear L46 hq43
 refine ⟨_, rfl, _, rfl, q2, _, rfl, .inl ⟨SqL.of (L47.old m_q2), ?_⟩⟩
 intro q44 hq44
 have L48 := L47.new hq44 (.tup ((S9.map V.int)))
 generalize upd H47 q44 (.tup ((S9.map V.int))) = H48 at L48 ⊢
 clear L47 hq44
 refine ⟨two_le, ?_⟩
 intro q45 hq45
 have L49 := L48.new hq45 (.tup [.ref q1, .ref q44])
 generalize upd H48 q45 (.tup [.ref q1, .ref q44]) = H49 at L49 ⊢
 clear L48 hq45
 refine ⟨two_le, ?_⟩
 intro q46 hq46
 have L50 := L49.new hq46 (.lst [.ref q43, .ref q45])
 generalize upd H49 q46 (.lst [.ref q43, .ref q45]) = H50 at L50 ⊢
 clear L49 hq46
 refine ⟨q41, q46, _, _, rfl, rfl, L50.old m_q41, L50.at (by repeat (first | exact List.mem_cons_self | apply List.mem_cons_of_mem)), small (by (try simp only [List.length_append, List.length_cons, List.length_nil, List.length_map, List.length_reverse]); omega), ?_⟩
 intro q47 hq47
 have L51 := L50.new hq47 (.lst ((([.ref q12, .ref q18, .ref q20] ++ [.ref q25, .ref q28, .ref q33]) ++ [.ref q37, .ref q39]) ++ [.ref q43, .ref q45]))
 generalize upd H50 q47 (.lst ((([.ref q12, .ref q18, .ref q20] ++ [.ref q25, .ref q28, .ref q33]) ++ [.ref q37, .ref q39]) ++ [.ref q43, .ref q45])) = H51 at L51 ⊢
 clear L50 hq47
 replace L51 := L51.drop1
 replace m_q2 := L51.G _ _ m_q2
 replace m_q1 := L51.G _ _ m_q1
 replace m_q6 := L51.G _ _ m_q6
 replace m_q5 := L51.G _ _ m_q5
 replace m_q4 := L51.G _ _ m_q4
 replace m_q3 := L51.G _ _ m_q3
 replace m_q21 := L51.G _ _ m_q21
 replace m_q20 := L51.G _ _ m_q20
 replace m_q19 := L51.G _ _ m_q19
 replace m_q18 := L51.G _ _ m_q18
 replace m_q17 := L51.G _ _ m_q17
 replace m_q12 := L51.G _ _ m_q12
 replace m_q11 := L51.G _ _ m_q11
 replace m_q35 := L51.G _ _ m_q35
 replace m_q33 := L51.G _ _ m_q33
 replace m_q32 := L51.G _ _ m_q32
 replace m_q28 := L51.G _ _ m_q28
 replace m_q27 := L51.G _ _ m_q27
 replace m_q25 := L51.G _ _ m_q25
 replace m_q24 := L51.G _ _ m_q24
 replace m_q41 := L51.G _ _ m_q41
 replace m_q39 := L51.G _ _ m_q39
 replace m_q38 := L51.G _ _ m_q38
 replace m_q37 := L51.G _ _ m_q37
 replace m_q36 := L51.G _ _ m_q36
 have m_q47 := L51.m (q := q47) (o := .lst ((([.ref q12, .ref q18, .ref q20] ++ [.ref q25, .ref q28, .ref q33]) ++ [.ref q37, .ref q39]) ++ [.ref q43, .ref q45])) (by repeat (first | exact List.mem_cons_self | apply List.mem_cons_of_mem))
 have m_q45 := L51.m (q := q45) (o := .tup [.ref q1, .ref q44]) (by repeat (first | exact List.mem_cons_self | apply List.mem_cons_of_mem))
 have m_q44 := L51.m (q := q44) (o := .tup ((S9.map V.int))) (by repeat (first | exact List.mem_cons_self | apply List.mem_cons_of_mem))
 have m_q43 := L51.m (q := q43) (o := .tup [.ref q42, .ref q2]) (by repeat (first | exact List.mem_cons_self | apply List.mem_cons_of_mem))
 have m_q42 := L51.m (q := q42) (o := .tup ((N9.map V.int))) (by repeat (first | exact List.mem_cons_self | apply List.mem_cons_of_mem))
 replace GA : Same (msk (S1 d) H0) (msk (S1 d) H51) := fun b u e => L51.G _ _ (GA b u e)
 replace L51 := Lv.start L51.D
 dsimp only [gName]
 refine st_eq (σ' := [some (.ref d), some (.ref t), some (.ref q1), some (.ref q2), some (.int r1), some (.int r2), some (v1), some (.int one), some (.ref q47), none, none]) rfl ?_
 refine ⟨_, rfl, _, rfl, (by show 1 ≤ sizeLine; decide), ?_⟩
 intro q48 hq48
 have L52 := L51.new hq48 (.tup [.ref q1])
 generalize upd H51 q48 (.tup [.ref q1]) = H52 at L52 ⊢
 clear L51 hq48
 refine ⟨_, rfl, _, rfl, (by show 0 ≤ sizeLine; decide), ?_⟩
 intro q49 hq49
 have L53 := L52.new hq49 (.lst [])
 generalize upd H52 q49 (.lst []) = H53 at L53 ⊢
 clear L52 hq49
 refine ⟨(by show 3 ≤ sizeLine; decide), ?_⟩
 intro q50 hq50
 have L54 := L53.new hq50 (.tup [.ref q1, .ref q2, .ref q49])
 generalize upd H53 q50 (.tup [.ref q1, .ref q2, .ref q49]) = H54 at L54 ⊢
 clear L53 hq50
 refine ⟨_, rfl, _, rfl, two_le, ?_⟩
 intro q51 hq51
 have L55 := L54.new hq51 (.lst [.ref q1, .ref q2])
 generalize upd H54 q51 (.lst [.ref q1, .ref q2]) = H55 at L55 ⊢
 clear L54 hq51
 refine ⟨_, rfl, two_le, ?_⟩
 intro q52 hq52
 have L56 := L55.new hq52 (.tup [.ref q1, .non])
 generalize upd H55 q52 (.tup [.ref q1, .non]) = H56 at L56 ⊢
 clear L55 hq52
 refine ⟨_, rfl, two_le, ?_⟩
 intro q53 hq53
 have L57 := L56.new hq53 (.tup [.non, .ref q2])
 generalize upd H56 q53 (.tup [.non, .ref q2]) = H57 at L57 ⊢
 clear L56 hq53
 refine ⟨(by show 5 ≤ sizeLine; decide), ?_⟩
 intro q54 hq54
 have L58 := L57.new hq54 (.lst [.ref q48, .ref q50, .ref q51, .ref q52, .ref q53])
 generalize upd H57 q54 (.lst [.ref q48, .ref q50, .ref q51, .ref q52, .ref q53]) = H58 at L58 ⊢
 clear L57 hq54
 refine ⟨q47, q54, _, _, rfl, rfl, L58.old m_q47, L58.at (by repeat (first | exact List.mem_cons_self | apply List.mem_cons_of_mem)), small (by (try simp only [List.length_append, List.length_cons, List.length_nil, List.length_map, List.length_reverse]); omega), ?_⟩
 intro q55 hq55
 have L59 := L58.new hq55 (.lst (((([.ref q12, .ref q18, .ref q20] ++ [.ref q25, .ref q28, .ref q33]) ++ [.ref q37, .ref q39]) ++ [.ref q43, .ref q45]) ++ [.ref q48, .ref q50, .ref q51, .ref q52, .ref q53]))
 generalize upd H58 q55 (.lst (((([.ref q12, .ref q18, .ref q20] ++ [.ref q25, .ref q28, .ref q33]) ++ [.ref q37, .ref q39]) ++ [.ref q43, .ref q45]) ++ [.ref q48, .ref q50, .ref q51, .ref q52, .ref q53])) = H59 at L59 ⊢
 clear L58 hq55
 replace L59 := L59.drop1
 replace m_q2 := L59.G _ _ m_q2
 replace m_q1 := L59.G _ _ m_q1
 replace m_q6 := L59.G _ _ m_q6
 replace m_q5 := L59.G _ _ m_q5
 replace m_q4 := L59.G _ _ m_q4
 replace m_q3 := L59.G _ _ m_q3
 replace m_q21 := L59.G _ _ m_q21
 replace m_q20 := L59.G _ _ m_q20
 replace m_q19 := L59.G _ _ m_q19
 replace m_q18 := L59.G _ _ m_q18
 replace m_q17 := L59.G _ _ m_q17
 replace m_q12 := L59.G _ _ m_q12
 replace m_q11 := L59.G _ _ m_q11
 replace m_q35 := L59.G _ _ m_q35
 replace m_q33 := L59.G _ _ m_q33
 replace m_q32 := L59.G _ _ m_q32
 replace m_q28 := L59.G _ _ m_q28
 replace m_q27 := L59.G _ _ m_q27
 replace m_q25 := L59.G _ _ m_q25
 replace m_q24 := L59.G _ _ m_q24
 replace m_q41 := L59.G _ _ m_q41
 replace m_q39 := L59.G _ _ m_q39
 replace m_q38 := L59.G _ _ m_q38
 replace m_q37 := L59.G _ _ m_q37
 replace m_q36 := L59.G _ _ m_q36
 replace m_q47 := L59.G _ _ m_q47
 replace m_q45 := L59.G _ _ m_q45
 replace m_q44 := L59.G _ _ m_q44
 replace m_q43 := L59.G _ _ m_q43
 replace m_q42 := L59.G _ _ m_q42
 have m_q55 := L59.m (q := q55) (o := .lst (((([.ref q12, .ref q18, .ref q20] ++ [.ref q25, .ref q28, .ref q33]) ++ [.ref q37, .ref q39]) ++ [.ref q43, .ref q45]) ++ [.ref q48, .ref q50, .ref q51, .ref q52, .ref q53])) (by repeat (first | exact List.mem_cons_self | apply List.mem_cons_of_mem))
 have m_q53 := L59.m (q := q53) (o := .tup [.non, .ref q2]) (by repeat (first | exact List.mem_cons_self | apply List.mem_cons_of_mem))
 have m_q52 := L59.m (q := q52) (o := .tup [.ref q1, .non]) (by repeat (first | exact List.mem_cons_self | apply List.mem_cons_of_mem))
 have m_q51 := L59.m (q := q51) (o := .lst [.ref q1, .ref q2]) (by repeat (first | exact List.mem_cons_self | apply List.mem_cons_of_mem))
 have m_q50 := L59.m (q := q50) (o := .tup [.ref q1, .ref q2, .ref q49]) (by repeat (first | exact List.mem_cons_self | apply List.mem_cons_of_mem))
 have m_q49 := L59.m (q := q49) (o := .lst []) (by repeat (first | exact List.mem_cons_self | apply List.mem_cons_of_mem))
 have m_q48 := L59.m (q := q48) (o := .tup [.ref q1]) (by repeat (first | exact List.mem_cons_self | apply List.mem_cons_of_mem))
 replace GA : Same (msk (S1 d) H0) (msk (S1 d) H59) := fun b u e => L59.G _ _ (GA b u e)
 replace L59 := Lv.start L59.D
 dsimp only [gName]
 refine st_eq (σ' := [some (.ref d), some (.ref t), some (.ref q1), some (.ref q2), some (.int r1), some (.int r2), some (v1), some (.int one), some (.ref q55), none, none]) rfl ?_
 refine ⟨_, rfl, (by show 0 ≤ sizeLine; decide), ?_⟩
 intro q56 hq56
 have L60 := L59.new hq56 (.lst [])
 generalize upd H59 q56 (.lst []) = H60 at L60 ⊢
 clear L59 hq56
 refine ⟨(by show 0 ≤ sizeLine; decide), ?_⟩
 intro q57 hq57
 have L61 := L60.new hq57 (.tup [])
 generalize upd H60 q57 (.tup []) = H61 at L61 ⊢
 clear L60 hq57
 intro q58 hq58
 have L62 := L61.new hq58 (.dK [])
 generalize upd H61 q58 (.dK []) = H62 at L62 ⊢
 clear L61 hq58
 refine ⟨_, rfl, two_le, ?_⟩
 intro q59 hq59
 have L63 := L62.new hq59 (.lst [.int 5, .int 3])
 generalize upd H62 q59 (.lst [.int 5, .int 3]) = H63 at L63 ⊢
 clear L62 hq59
 refine ⟨q2, q59, _, _, rfl, rfl, L63.old m_q2, L63.at (by repeat (first | exact List.mem_cons_self | apply List.mem_cons_of_mem)), small (by (try simp only [List.length_append, List.length_cons, List.length_nil, List.length_map, List.length_reverse]); omega), ?_⟩
 intro q60 hq60
 have L64 := L63.new hq60 (.lst ((S9.map V.int) ++ [.int 5, .int 3]))
 generalize upd H63 q60 (.lst ((S9.map V.int) ++ [.int 5, .int 3])) = H64 at L64 ⊢
 clear L63 hq60
 replace L64 := L64.drop1
 refine ⟨_, rfl, two_le, ?_⟩
 intro q61 hq61
 have L65 := L64.new hq61 (.tup [.ref q60, .ref q1])
 generalize upd H64 q61 (.tup [.ref q60, .ref q1]) = H65 at L65 ⊢
 clear L64 hq61
 refine ⟨_, rfl, _, rfl, _, rfl, q1, _, (-1), .int la, rfl, rfl, SqL.of (L65.old m_q1), hla, (by show 1 ≤ sizeLine; decide), ?_⟩
 intro q62 hq62
 have L66 := L65.new hq62 (.lst [.int la])
 generalize upd H65 q62 (.lst [.int la]) = H66 at L66 ⊢
 clear L65 hq62
 refine ⟨q1, q62, _, _, rfl, rfl, L66.old m_q1, L66.at (by repeat (first | exact List.mem_cons_self | apply List.mem_cons_of_mem)), small (by (try simp only [List.length_append, List.length_cons, List.length_nil, List.length_map, List.length_reverse]); omega), ?_⟩
 intro q63 hq63
 have L67 := L66.new hq63 (.lst ((N9.map V.int) ++ [.int la]))
 generalize upd H66 q63 (.lst ((N9.map V.int) ++ [.int la])) = H67 at L67 ⊢
 clear L66 hq63
 replace L67 := L67.drop1
 refine ⟨_, rfl, two_le, ?_⟩
 intro q64 hq64
 have L68 := L67.new hq64 (.tup [.ref q63, .ref q2])
 generalize upd H67 q64 (.tup [.ref q63, .ref q2]) = H68 at L68 ⊢
 clear L67 hq64
 refine ⟨(by show 9 ≤ sizeLine; decide), ?_⟩
 intro q65 hq65
 have L69 := L68.new hq65 (.lst [.non, .int 0, .str "", .ref q56, .ref q57, .ref q58, .bl true, .ref q61, .ref q64])
 generalize upd H68 q65 (.lst [.non, .int 0, .str "", .ref q56, .ref q57, .ref q58, .bl true, .ref q61, .ref q64]) = H69 at L69 ⊢
 clear L68 hq65
 refine ⟨q55, q65, _, _, rfl, rfl, L69.old m_q55, L69.at (by repeat (first | exact List.mem_cons_self | apply List.mem_cons_of_mem)), small (by (try simp only [List.length_append, List.length_cons, List.length_nil, List.length_map, List.length_reverse]); omega), ?_⟩
 intro q66 hq66
 have L70 := L69.new hq66 (.lst ((((([.ref q12, .ref q18, .ref q20] ++ [.ref q25, .ref q28, .ref q33]) ++ [.ref q37, .ref q39]) ++ [.ref q43, .ref q45]) ++ [.ref q48, .ref q50, .ref q51, .ref q52, .ref q53]) ++ [.non, .int 0, .str "", .ref q56, .ref q57, .ref q58, .bl true, .ref q61, .ref q64]))
 generalize upd H69 q66 (.lst ((((([.ref q12, .ref q18, .ref q20] ++ [.ref q25, .ref q28, .ref q33]) ++ [.ref q37, .ref q39]) ++ [.ref q43, .ref q45]) ++ [.ref q48, .ref q50, .ref q51, .ref q52, .ref q53]) ++ [.non, .int 0, .str "", .ref q56, .ref q57, .ref q58, .bl true, .ref q61, .ref q64])) = H70 at L70 ⊢
 clear L69 hq66
 replace L70 := L70.drop1
 replace m_q2 := L70.G _ _ m_q2
 replace m_q1 := L70.G _ _ m_q1
 replace m_q6 := L70.G _ _ m_q6
 replace m_q5 := L70.G _ _ m_q5
 replace m_q4 := L70.G _ _ m_q4
 replace m_q3 := L70.G _ _ m_q3
 replace m_q21 := L70.G _ _ m_q21
 replace m_q20 := L70.G _ _ m_q20
 replace m_q19 := L70.G _ _ m_q19
 replace m_q18 := L70.G _ _ m_q18
 replace m_q17 := L70.G _ _ m_q17
 replace m_q12 := L70.G _ _ m_q12
 replace m_q11 := L70.G _ _ m_q11
 replace m_q35 := L70.G _ _ m_q35
 replace m_q33 := L70.G _ _ m_q33
 replace m_q32 := L70.G _ _ m_q32
 replace m_q28 := L70.G _ _ m_q28
 replace m_q27 := L70.G _ _ m_q27
 replace m_q25 := L70.G _ _ m_q25
 replace m_q24 := L70.G _ _ m_q24
 replace m_q41 := L70.G _ _ m_q41
 replace m_q39 := L70.G _ _ m_q39
 replace m_q38 := L70.G _ _ m_q38
 replace m_q37 := L70.G _ _ m_q37
 replace m_q36 := L70.G _ _ m_q36
 replace m_q47 := L70.G _ _ m_q47
 replace m_q45 := L70.G _ _ m_q45
 replace m_q44 := L70.G _ _ m_q44
 replace m_q43 := L70.G _ _ m_q43
 replace m_q42 := L70.G _ _ m_q42
 replace m_q55 := L70.G _ _ m_q55
 replace m_q53 := L70.G _ _ m_q53
 replace m_q52 := L70.G _ _ m_q52
 replace m_q51 := L70.G _ _ m_q51
 replace m_q50 := L70.G _ _ m_q50
 replace m_q49 := L70.G _ _ m_q49
 replace m_q48 := L70.G _ _ m_q48
 have m_q66 := L70.m (q := q66) (o := .lst ((((([.ref q12, .ref q18, .ref q20] ++ [.ref q25, .ref q28, .ref q33]) ++ [.ref q37, .ref q39]) ++ [.ref q43, .ref q45]) ++ [.ref q48, .ref q50, .ref q51, .ref q52, .ref q53]) ++ [.non, .int 0, .str "", .ref q56, .ref q57, .ref q58, .bl true, .ref q61, .ref q64])) (by repeat (first | exact List.mem_cons_self | apply List.mem_cons_of_mem))
 have m_q64 := L70.m (q := q64) (o := .tup [.ref q63, .ref q2]) (by repeat (first | exact List.mem_cons_self | apply List.mem_cons_of_mem))
 have m_q63 := L70.m (q := q63) (o := .lst ((N9.map V.int) ++ [.int la])) (by repeat (first | exact List.mem_cons_self | apply List.mem_cons_of_mem))
 have m_q61 := L70.m (q := q61) (o := .tup [.ref q60, .ref q1]) (by repeat (first | exact List.mem_cons_self | apply List.mem_cons_of_mem))
 have m_q60 := L70.m (q := q60) (o := .lst ((S9.map V.int) ++ [.int 5, .int 3])) (by repeat (first | exact List.mem_cons_self | apply List.mem_cons_of_mem))
 have m_q58 := L70.m (q := q58) (o := .dK []) (by repeat (first | exact List.mem_cons_self | apply List.mem_cons_of_mem))
 have m_q57 := L70.m (q := q57) (o := .tup []) (by repeat (first | exact List.mem_cons_self | apply List.mem_cons_of_mem))
 have m_q56 := L70.m (q := q56) (o := .lst []) (by repeat (first | exact List.mem_cons_self | apply List.mem_cons_of_mem))
 replace GA : Same (msk (S1 d) H0) (msk (S1 d) H70) := fun b u e => L70.G _ _ (GA b u e)
 replace L70 := Lv.start L70.D
 dsimp only [gName]
 refine st_eq (σ' := [some (.ref d), some (.ref t), some (.ref q1), some (.ref q2), some (.int r1), some (.int r2), some (v1), some (.int one), some (.ref q66), none, none]) rfl ?_
 refine ⟨(by show 1 ≤ sizeLine; decide), ?_⟩
 intro q67 hq67
 have L71 := L70.new hq67 (.lst [.int 0])
 generalize upd H70 q67 (.lst [.int 0]) = H71 at L71 ⊢
 clear L70 hq67
 refine ⟨_, rfl, q67, q2, _, _, rfl, rfl, L71.at (by repeat (first | exact List.mem_cons_self | apply List.mem_cons_of_mem)), L71.old m_q2, small (by (try simp only [List.length_append, List.length_cons, List.length_nil, List.length_map, List.length_reverse]); omega), ?_⟩
 intro q68 hq68
 have L72 := L71.new hq68 (.lst ([.int 0] ++ (S9.map V.int)))
 generalize upd H71 q68 (.lst ([.int 0] ++ (S9.map V.int))) = H72 at L72 ⊢
 clear L71 hq68
 refine ⟨_, rfl, q68, _, (-1), .int gr, rfl, rfl, SqL.of (L72.at (by repeat (first | exact List.mem_cons_self | apply List.mem_cons_of_mem))), hgr, ?_⟩
 replace m_q2 := L72.G _ _ m_q2
 replace m_q1 := L72.G _ _ m_q1
 replace m_q6 := L72.G _ _ m_q6
 replace m_q5 := L72.G _ _ m_q5
 replace m_q4 := L72.G _ _ m_q4
 replace m_q3 := L72.G _ _ m_q3
 replace m_q21 := L72.G _ _ m_q21
 replace m_q20 := L72.G _ _ m_q20
 replace m_q19 := L72.G _ _ m_q19
 replace m_q18 := L72.G _ _ m_q18
 replace m_q17 := L72.G _ _ m_q17
 replace m_q12 := L72.G _ _ m_q12
 replace m_q11 := L72.G _ _ m_q11
 replace m_q35 := L72.G _ _ m_q35
 replace m_q33 := L72.G _ _ m_q33
 replace m_q32 := L72.G _ _ m_q32
 replace m_q28 := L72.G _ _ m_q28
 replace m_q27 := L72.G _ _ m_q27
 replace m_q25 := L72.G _ _ m_q25
 replace m_q24 := L72.G _ _ m_q24
 replace m_q41 := L72.G _ _ m_q41
 replace m_q39 := L72.G _ _ m_q39
 replace m_q38 := L72.G _ _ m_q38
 replace m_q37 := L72.G _ _ m_q37
 replace m_q36 := L72.G _ _ m_q36
 replace m_q47 := L72.G _ _ m_q47
 replace m_q45 := L72.G _ _ m_q45
 replace m_q44 := L72.G _ _ m_q44
 replace m_q43 := L72.G _ _ m_q43
 replace m_q42 := L72.G _ _ m_q42
 replace m_q55 := L72.G _ _ m_q55
 replace m_q53 := L72.G _ _ m_q53
 replace m_q52 := L72.G _ _ m_q52
 replace m_q51 := L72.G _ _ m_q51
 replace m_q50 := L72.G _ _ m_q50
 replace m_q49 := L72.G _ _ m_q49
 replace m_q48 := L72.G _ _ m_q48
 replace m_q66 := L72.G _ _ m_q66
 replace m_q64 := L72.G _ _ m_q64
 replace m_q63 := L72.G _ _ m_q63
 replace m_q61 := L72.G _ _ m_q61
 replace m_q60 := L72.G _ _ m_q60
 replace m_q58 := L72.G _ _ m_q58
 replace m_q57 := L72.G _ _ m_q57
 replace m_q56 := L72.G _ _ m_q56
 have m_q68 := L72.m (q := q68) (o := .lst ([.int 0] ++ (S9.map V.int))) (by repeat (first | exact List.mem_cons_self | apply List.mem_cons_of_mem))
 have m_q67 := L72.m (q := q67) (o := .lst [.int 0]) (by repeat (first | exact List.mem_cons_self | apply List.mem_cons_of_mem))
 replace GA : Same (msk (S1 d) H0) (msk (S1 d) H72) := fun b u e => L72.G _ _ (GA b u e)
 replace L72 := Lv.start L72.D
 dsimp only [gName]
 refine st_eq (σ' := [some (.ref d), some (.ref t), some (.ref q1), some (.ref q2), some (.int r1), some (.int r2), some (v1), some (.int one), some (.ref q66), some (.int gr), none]) rfl ?_
 refine ⟨_, rfl, two_le, ?_⟩
 intro q69 hq69
 have L73 := L72.new hq69 (.lst [.int 5, .int 3])
 generalize upd H72 q69 (.lst [.int 5, .int 3]) = H73 at L73 ⊢
 clear L72 hq69
 refine ⟨two_le, ?_⟩
 intro q70 hq70
 have L74 := L73.new hq70 (.tup [.ref q1, .ref q69])
 generalize upd H73 q70 (.tup [.ref q1, .ref q69]) = H74 at L74 ⊢
 clear L73 hq70
 refine ⟨_, rfl, _, rfl, _, rfl, q2, _, rfl, SqL.of (L74.old m_q2), ?_⟩
 have lc7 : (cutV (S9.map V.int) none (some 8)).length ≤ ((S9.map V.int)).length := cutV_length _ _ _
 have mc7 : ∀ x ∈ cutV (S9.map V.int) none (some 8), x ∈ (S9.map V.int) := fun x hx => cut_mem hx
 generalize hc7 : cutV (S9.map V.int) none (some 8) = c7 at lc7 mc7 ⊢
 (try simp only [List.length_map, List.length_append, List.length_cons, List.length_nil] at lc7)
 intro q71 hq71
 have L75 := L74.new hq71 (.lst c7)
 generalize upd H74 q71 (.lst c7) = H75 at L75 ⊢
 clear L74 hq71
 refine ⟨_, rfl, _, _, rfl, rfl, _, rfl, _, _, rfl, rfl, two_le, ?_⟩
 intro q72 hq72
 have L76 := L75.new hq72 (.lst [.int (gr + 2), .int (gr + 1)])
 generalize upd H75 q72 (.lst [.int (gr + 2), .int (gr + 1)]) = H76 at L76 ⊢
 clear L75 hq72
 refine ⟨q71, q72, _, _, rfl, rfl, L76.at (by repeat (first | exact List.mem_cons_self | apply List.mem_cons_of_mem)), L76.at (by repeat (first | exact List.mem_cons_self | apply List.mem_cons_of_mem)), small (by (try simp only [List.length_append, List.length_cons, List.length_nil, List.length_map, List.length_reverse]); omega), ?_⟩
 intro q73 hq73
 have L77 := L76.new hq73 (.lst (c7 ++ [.int (gr + 2), .int (gr + 1)]))
 generalize upd H76 q73 (.lst (c7 ++ [.int (gr + 2), .int (gr + 1)])) = H77 at L77 ⊢
 clear L76 hq73
 replace L77 := L77.drop2
 refine ⟨two_le, ?_⟩
 intro q74 hq74
 have L78 := L77.new hq74 (.tup [.ref q1, .ref q73])
 generalize upd H77 q74 (.tup [.ref q1, .ref q73]) = H78 at L78 ⊢
 clear L77 hq74
 refine ⟨two_le, ?_⟩
 intro q75 hq75
 have L79 := L78.new hq75 (.lst [.ref q70, .ref q74])
 generalize upd H78 q75 (.lst [.ref q70, .ref q74]) = H79 at L79 ⊢
 clear L78 hq75
 replace m_q2 := L79.G _ _ m_q2
 replace m_q1 := L79.G _ _ m_q1
 replace m_q6 := L79.G _ _ m_q6
 replace m_q5 := L79.G _ _ m_q5
 replace m_q4 := L79.G _ _ m_q4
 replace m_q3 := L79.G _ _ m_q3
 replace m_q21 := L79.G _ _ m_q21
 replace m_q20 := L79.G _ _ m_q20
 replace m_q19 := L79.G _ _ m_q19
 replace m_q18 := L79.G _ _ m_q18
 replace m_q17 := L79.G _ _ m_q17
 replace m_q12 := L79.G _ _ m_q12
 replace m_q11 := L79.G _ _ m_q11
 replace m_q35 := L79.G _ _ m_q35
 replace m_q33 := L79.G _ _ m_q33
 replace m_q32 := L79.G _ _ m_q32
 replace m_q28 := L79.G _ _ m_q28
 replace m_q27 := L79.G _ _ m_q27
 replace m_q25 := L79.G _ _ m_q25
 replace m_q24 := L79.G _ _ m_q24
 replace m_q41 := L79.G _ _ m_q41
 replace m_q39 := L79.G _ _ m_q39
 replace m_q38 := L79.G _ _ m_q38
 replace m_q37 := L79.G _ _ m_q37
 replace m_q36 := L79.G _ _ m_q36
 replace m_q47 := L79.G _ _ m_q47
 replace m_q45 := L79.G _ _ m_q45
 replace m_q44 := L79.G _ _ m_q44
 replace m_q43 := L79.G _ _ m_q43
 replace m_q42 := L79.G _ _ m_q42
 replace m_q55 := L79.G _ _ m_q55
 replace m_q53 := L79.G _ _ m_q53
 replace m_q52 := L79.G _ _ m_q52
 replace m_q51 := L79.G _ _ m_q51
 replace m_q50 := L79.G _ _ m_q50
 replace m_q49 := L79.G _ _ m_q49
 replace m_q48 := L79.G _ _ m_q48
 replace m_q66 := L79.G _ _ m_q66
 replace m_q64 := L79.G _ _ m_q64
 replace m_q63 := L79.G _ _ m_q63
 replace m_q61 := L79.G _ _ m_q61
 replace m_q60 := L79.G _ _ m_q60
 replace m_q58 := L79.G _ _ m_q58
 replace m_q57 := L79.G _ _ m_q57
 replace m_q56 := L79.G _ _ m_q56
 replace m_q68 := L79.G _ _ m_q68
 replace m_q67 := L79.G _ _ m_q67
 have m_q75 := L79.m (q := q75) (o := .lst [.ref q70, .ref q74]) (by repeat (first | exact List.mem_cons_self | apply List.mem_cons_of_mem))
 have m_q74 := L79.m (q := q74) (o := .tup [.ref q1, .ref q73]) (by repeat (first | exact List.mem_cons_self | apply List.mem_cons_of_mem))
 have m_q73 := L79.m (q := q73) (o := .lst (c7 ++ [.int (gr + 2), .int (gr + 1)])) (by repeat (first | exact List.mem_cons_self | apply List.mem_cons_of_mem))
 have m_q70 := L79.m (q := q70) (o := .tup [.ref q1, .ref q69]) (by repeat (first | exact List.mem_cons_self | apply List.mem_cons_of_mem))
 have m_q69 := L79.m (q := q69) (o := .lst [.int 5, .int 3]) (by repeat (first | exact List.mem_cons_self | apply List.mem_cons_of_mem))
 replace GA : Same (msk (S1 d) H0) (msk (S1 d) H79) := fun b u e => L79.G _ _ (GA b u e)
 replace L79 := Lv.start L79.D
 dsimp only [gName]
 refine st_eq (σ' := [some (.ref d), some (.ref t), some (.ref q1), some (.ref q2), some (.int r1), some (.int r2), some (v1), some (.int one), some (.ref q66), some (.int gr), some (.ref q75)]) rfl ?_
 refine ⟨_, rfl, _, rfl, q66, q75, _, _, rfl, rfl, L79.old m_q66, L79.old m_q75, small (by (try simp only [List.length_append, List.length_cons, List.length_nil, List.length_map, List.length_reverse]); omega), ?_⟩
 intro q76 hq76
 have L80 := L79.new hq76 (.lst (((((([.ref q12, .ref q18, .ref q20] ++ [.ref q25, .ref q28, .ref q33]) ++ [.ref q37, .ref q39]) ++ [.ref q43, .ref q45]) ++ [.ref q48, .ref q50, .ref q51, .ref q52, .ref q53]) ++ [.non, .int 0, .str "", .ref q56, .ref q57, .ref q58, .bl true, .ref q61, .ref q64]) ++ [.ref q70, .ref q74]))
 generalize upd H79 q76 (.lst (((((([.ref q12, .ref q18, .ref q20] ++ [.ref q25, .ref q28, .ref q33]) ++ [.ref q37, .ref q39]) ++ [.ref q43, .ref q45]) ++ [.ref q48, .ref q50, .ref q51, .ref q52, .ref q53]) ++ [.non, .int 0, .str "", .ref q56, .ref q57, .ref q58, .bl true, .ref q61, .ref q64]) ++ [.ref q70, .ref q74])) = H80 at L80 ⊢
 clear L79 hq76
 refine ⟨_, rfl, d, _, rfl, L80.D, by decide, by decide, ?_⟩
 intro r5 H81 r50 r51 D81 o81
 have L81 := L80.mv D81 (off_msk o81)
 clear L80 D81 o81
 obtain ⟨v8, hv8, mv8⟩ := pick_any (xs := [(.ref q12 : V), (.ref q18 : V), (.ref q20 : V), (.ref q25 : V), (.ref q28 : V), (.ref q33 : V), (.ref q37 : V), (.ref q39 : V), (.ref q43 : V), (.ref q45 : V), (.ref q48 : V), (.ref q50 : V), (.ref q51 : V), (.ref q52 : V), (.ref q53 : V), (.non : V), (.int 0 : V), (.str "" : V), (.ref q56 : V), (.ref q57 : V), (.ref q58 : V), (.bl true : V), (.ref q61 : V), (.ref q64 : V), (.ref q70 : V), (.ref q74 : V)]) r50 r51
 replace m_q2 := L81.G _ _ m_q2
 replace m_q1 := L81.G _ _ m_q1
 replace m_q6 := L81.G _ _ m_q6
 replace m_q5 := L81.G _ _ m_q5
 replace m_q4 := L81.G _ _ m_q4
 replace m_q3 := L81.G _ _ m_q3
 replace m_q21 := L81.G _ _ m_q21
 replace m_q20 := L81.G _ _ m_q20
 replace m_q19 := L81.G _ _ m_q19
 replace m_q18 := L81.G _ _ m_q18
 replace m_q17 := L81.G _ _ m_q17
 replace m_q12 := L81.G _ _ m_q12
 replace m_q11 := L81.G _ _ m_q11
 replace m_q35 := L81.G _ _ m_q35
 replace m_q33 := L81.G _ _ m_q33
 replace m_q32 := L81.G _ _ m_q32
 replace m_q28 := L81.G _ _ m_q28
 replace m_q27 := L81.G _ _ m_q27
 replace m_q25 := L81.G _ _ m_q25
 replace m_q24 := L81.G _ _ m_q24
 replace m_q41 := L81.G _ _ m_q41
 replace m_q39 := L81.G _ _ m_q39
 replace m_q38 := L81.G _ _ m_q38
 replace m_q37 := L81.G _ _ m_q37
 replace m_q36 := L81.G _ _ m_q36
 replace m_q47 := L81.G _ _ m_q47
 replace m_q45 := L81.G _ _ m_q45
 replace m_q44 := L81.G _ _ m_q44
 replace m_q43 := L81.G _ _ m_q43
 replace m_q42 := L81.G _ _ m_q42
 replace m_q55 := L81.G _ _ m_q55
 replace m_q53 := L81.G _ _ m_q53
 replace m_q52 := L81.G _ _ m_q52
 replace m_q51 := L81.G _ _ m_q51
 replace m_q50 := L81.G _ _ m_q50
 replace m_q49 := L81.G _ _ m_q49
 replace m_q48 := L81.G _ _ m_q48
 replace m_q66 := L81.G _ _ m_q66
 replace m_q64 := L81.G _ _ m_q64
 replace m_q63 := L81.G _ _ m_q63
 replace m_q61 := L81.G _ _ m_q61
 replace m_q60 := L81.G _ _ m_q60
 replace m_q58 := L81.G _ _ m_q58
 replace m_q57 := L81.G _ _ m_q57
 replace m_q56 := L81.G _ _ m_q56
 replace m_q68 := L81.G _ _ m_q68
 replace m_q67 := L81.G _ _ m_q67
 replace m_q75 := L81.G _ _ m_q75
 replace m_q74 := L81.G _ _ m_q74
 replace m_q73 := L81.G _ _ m_q73
 replace m_q70 := L81.G _ _ m_q70
 replace m_q69 := L81.G _ _ m_q69
 have m_q76 := L81.m (q := q76) (o := .lst (((((([.ref q12, .ref q18, .ref q20] ++ [.ref q25, .ref q28, .ref q33]) ++ [.ref q37, .ref q39]) ++ [.ref q43, .ref q45]) ++ [.ref q48, .ref q50, .ref q51, .ref q52, .ref q53]) ++ [.non, .int 0, .str "", .ref q56, .ref q57, .ref q58, .bl true, .ref q61, .ref q64]) ++ [.ref q70, .ref q74])) (by repeat (first | exact List.mem_cons_self | apply List.mem_cons_of_mem))
 replace GA : Same (msk (S1 d) H0) (msk (S1 d) H81) := fun b u e => L81.G _ _ (GA b u e)
 replace L81 := Lv.start L81.D
 refine ⟨q76, _, r5, v8, rfl, rfl, SqL.of (L81.old m_q76), hv8, q v8 H81 L81.D GA ?_⟩
 exact nop_cases rN lN1 lN9 bN lS bS mx0 mla mone gb pq24 (by omega) mc2 (by omega) mc3 (by omega) mc4 (by omega) mc5 (by omega) mc6 (by omega) mc7 m_q1 m_q2 m_q3 m_q4 m_q5 m_q11 m_q12 m_q17 m_q18 m_q19 m_q20 m_q24 m_q25 m_q27 m_q28 m_q32 m_q33 m_q36 m_q37 m_q38 m_q39 m_q42 m_q43 m_q44 m_q45 m_q48 m_q49 m_q50 m_q51 m_q52 m_q53 m_q56 m_q57 m_q58 m_q60 m_q61 m_q63 m_q64 m_q69 m_q70 m_q73 m_q74 mv1 mv8
end
abbrev sNok : Stmt := top 56
abbrev sOd : Stmt := top 53
abbrev sThe : Stmt := top 54
def spCkX (XP : Addr) : Sp := fun vs H Q E => ∃ v d, vs = [v] ∧ Dat H v d ∧ (planD d = true → Q .non H) ∧ (planD d = false → E (.ref XP) none H)
def spKInX (C XP : Addr) : Sp := fun vs H _ E => ∃ (k dx : Addr) (v : V) (d : PyData), vs = [.ref k, v] ∧ H k = some (.ins C dx []) ∧ Dat H v d ∧ planD d = false ∧ E (.ref XP) none H
def spNok : Sp := fun vs H Q _ => ∃ (v : V) (d : PyData), vs = [v] ∧ Dat H v d ∧ planD d = false ∧ ∀ H', Same H H' → Q (.bl true) H'
def noN (d : PyData) : Prop := ∀ i : Int, d = .int i → i < 0
def spOd : Sp := fun vs H Q _ => ∃ d : Addr, vs = [.ref d] ∧ StT H d ∧ ∀ (v : V) (H' : Hp), StT H' d → Same (msk (S1 d) H) (msk (S1 d) H') → (∃ dd, Dat (msk (S1 d) H') v dd ∧ noN dd) → Q v H'
def spThe : Sp := fun vs H Q _ => ∃ (d a : Addr) (ns : List Int), vs = [.ref d, .ref a] ∧ StT H d ∧ a ≠ d ∧ H a = some (.lst (ns.map V.int)) ∧ ns.length ≤ 10 ∧ ns.Nodup ∧
 ∀ (l : Addr) (x y z : Int) (H' : Hp), StT H' d → Ex (· = d) H H' → l ≠ d → H' l = some (.lst [.int x, .int y, .int z]) → (x ∈ ns ∨ x = 0) → y ∉ ns → 0 ≤ y → y < 12 → 9 * 10 ^ 25 ≤ z → Q (.ref l) H'
section
variable {f g1 C tk ki XP XS : Addr} {xs : List Addr} {fd gd1 tkd kid : FuncData}
theorem ok_ckX {ip : Addr} {ipd : FuncData} (F : Fun K "check_plan" "check_plan" sCkP f fd) (eXP : PySem.W.excIn K XP bmV "ValueError.__new__" = true) (mXP : mg "NoPlan" = some (.ref XP))
  (GP : FnOk P w K mg base CX0 3 ip ipd ["thing"] spIsPD) (bP : Binds K ipd ["thing"] []) (kP : Kee K ip) (mP : mg "is_plan" = some (.ref ip)) : FnOk P w K mg base (CX1 P w) 4 f fd ["plan"] (spCkX XP) := by
 refine F.ok1 scCkP (fun vs H Q E h => ?_) (fun cdv A outer s H vs Q E hr h => ?_)
 ·obtain ⟨v, d, rfl, _⟩ := h
  rfl
 obtain ⟨v, d, rfl, hd, q, qe⟩ := h
 refine ⟨_, (@pss_one _ _ _ (ps_if (pt_not (pt_val (pe_call GP hr rfl mP kP bP .nil pass0 (pa_cons (pv 0) pa_nil)))) (@pss_one _ _ _ (ps_raise raises1 rfl PySem.F.excBase_ValueError eXP rfl mXP (pa_cons pe_str pa_nil))) pss_nil)), ?_⟩
 refine ⟨_, rfl, v, d, rfl, hd, _, rfl, ?_⟩
 cases c : planD d with
 | true => exact iteF (q c)
 | false => exact iteT ⟨by decide, qe c⟩
theorem ok_kinX (F : Fun K "__init__" "Keeper.__init__" sKIn f fd) (B : Bt3 mg) (GC : FnOk P w K mg base (CX1 P w) 4 g1 gd1 ["plan"] (spCkX XP)) (bC : Binds K gd1 ["plan"] []) (kC : Kee K g1) (mC : mg "check_plan" = some (.ref g1)) : FnOk P w K mg base (CX1 P w) 5 f fd ["self", "plan"] (spKInX C XP) := by
 refine F.ok1 scKIn (fun vs H Q E h => ?_) (fun cdv A outer s H vs Q E hr h => ?_)
 ·obtain ⟨k, dx, v, d, rfl, _⟩ := h
  rfl
 obtain ⟨k, dx, v, d, rfl, hk, hd, c, qe⟩ := h
 refine ⟨_, (@pss_cons _ _ _ _ _ (ps_expr (pe_call GC hr rfl mC kC bC .nil pass1 (pa_cons (pv 1) pa_nil))) (PSs.nox (@pss_cons _ _ _ _ _ (ps_fld (pv 0) (pe_callTy call_list_of rfl B.list PyProof.Rows.boot_list (pa_cons (pe_ix ix_tup (pv 1) pe_int (fun _ _ => rfl)) pa_nil)) rfl) (@pss_one _ _ _ (ps_fld (pv 0) (pe_callTy call_list_of rfl B.list PyProof.Rows.boot_list (pa_cons (pe_ix ix_tup (pv 1) pe_int (fun _ _ => rfl)) pa_nil)) rfl))))), ?_⟩
 exact ⟨_, rfl, v, d, rfl, hd, (fun c1 => by rw [c] at c1; cases c1), fun _ => qe⟩
theorem scNok : FnScope ["bad", "caught", "e"] ["bad"] (defScope sNok) := ⟨rfl, rfl, rfl, by decide +kernel, rfl, by decide +kernel, by decide +kernel⟩
theorem ok_nok (F : Fun K "_law_no_keeper" "_law_no_keeper" sNok f fd) (mXS : mg "SumError" = some (.ref XS)) (exP : ExD K xs XS XP 0) (MK : Mk K C g1)
  (GK : FnOk P w K mg base (CX1 P w) 6 g1 gd1 ["self", "plan"] (spKInX C XP)) (bK : Binds K gd1 ["self", "plan"] []) (mK : mg "Keeper" = some (.ref C))
  (GD : FnOk P w K mg base CX0 7 ki kid ["e", "due"] (spKnd K xs XS)) (bD : Binds K kid ["e", "due"] []) (kD : Kee K ki) (mD : mg "_law_kind" = some (.ref ki)) : FnOk P w K mg base CX0 8 f fd ["bad"] spNok := by
 refine F.ok scNok (fun vs H Q E h => ?_) (fun cdv A outer s H vs Q E hr h => ?_)
 ·obtain ⟨v, d, rfl, _⟩ := h
  rfl
 obtain ⟨v, d, rfl, hd, c, q⟩ := h
 refine ⟨_, (@pss_cons _ _ _ _ _ (ps_set (i := 1) scNok.nd rfl (Or.inl rfl) pe_non) (@pss_cons _ _ _ _ _ (ps_try (S := XS) (i := 1) (j := 2) (pb_make (fun _ _ z => z) MK GK hr rfl mK bK .nil (pa_cons (pv 0) pa_nil)) rfl rfl rfl scNok.nd rfl mXS rfl (Or.inl rfl) rfl rfl (by decide)) (@pss_one _ _ _ (ps_ret (pe_and (pe_cmpR op_notN (pv 1) pe_non (nomark _)) (pe_one (pe_call GD hr rfl mD kD bD .nil pass0 (pa_cons (pv 1) (pa_cons pe_str pa_nil))))))))), ?_⟩
 refine ⟨_, rfl, fun x dx hx hdx ne => ?_⟩
 have g1 : Same H (upd (upd H dx (.own x)) x (.ins C dx [])) := fun b o hb => by
  rw [upd_ne (ne_of_none hb hx), upd_ne (ne_of_none hb hdx)]
  exact hb
 refine ⟨x, dx, v, d, rfl, upd_same, hd.same g1, c, exP.e, fun ea hn => ?_⟩
 have g2 := Same.new hn (.ext (ExcAt ea (.ref XP)))
 refine ⟨_, rfl, rfl, _, rfl, iteT ?_⟩
 exact ⟨_, rfl, ea, _, 0, "plan", rfl, upd_same, exP, rfl, fun H6 g6 => q _ (g1.trans (g2.trans g6))⟩
theorem scOd : FnScope ["store", "some"] ["store"] (defScope sOd) := ⟨rfl, rfl, rfl, by decide +kernel, rfl, by decide +kernel, by decide +kernel⟩
set_option maxHeartbeats 0 in
theorem ok_od (F : Fun K "_law_odd" "_law_odd" sOd f fd) (GT : FnOk P w K mg base CX0 1 tk tkd ["store", "many"] spTkT) (bT : Binds K tkd ["store", "many"] []) (kT : Kee K tk) (mT : mg "_law_take" = some (.ref tk)) : FnOk P w K mg base CX0 2 f fd ["store"] spOd := by
 refine F.ok scOd (fun vs H Q E h => ?_) (fun cdv A outer s H0 vs Q E hr h => ?_)
 ·obtain ⟨d, rfl, _⟩ := h
  rfl
 obtain ⟨d, rfl, D, q⟩ := h
 refine ⟨_, (@pss_cons _ _ _ _ _ (ps_set (i := 1) scOd.nd rfl (Or.inl rfl) (QE.h (qe_lst (qa_cons (QE.mk (pe_un un_neg pe_int)) (qa_cons (QE.mk pe_bl) (qa_cons (QE.mk pe_bl) (qa_cons (QE.mk pe_non) (qa_cons (QE.mk pe_str) (qa_cons (qe_lst (qa_cons (QE.mk pe_int) qa_nil)) (qa_cons (qe_tup (qa_cons (QE.mk pe_int) qa_nil)) (qa_cons (QE.mk pe_dnewK) (qa_cons (qe_op op_sub (QE.mk pe_int) (qe_op op_pow (QE.mk pe_int) (QE.mk pe_int))) (qa_cons (QE.mk pe_str) (qa_cons (qe_op op_sub (QE.mk (pe_un un_neg pe_int)) (QE.mk (pe_call GT hr rfl mT kT bT .nil pass0 (QA.h (qa_cons (QE.mk (pv 0)) (qa_cons (QE.mk pe_int) qa_nil)))))) (qa_cons (qe_lst qa_nil) qa_nil))))))))))))))) (@pss_one _ _ _ (ps_ret (pe_ix ix_list (pv 1) (pe_call GT hr rfl mT kT bT .nil pass0 (QA.h (qa_cons (QE.mk (pv 0)) (qa_cons (QE.mk pe_int) qa_nil)))) (fun _ _ => rfl))))), ?_⟩
 have L0 : Lv d H0 H0 [] := Lv.start D
 refine ⟨_, rfl, (by show 1 ≤ sizeLine; decide), ?_⟩
 intro q1 hq1
 have L1 := L0.new hq1 (.lst [.int 1])
 generalize upd H0 q1 (.lst [.int 1]) = H1 at L1 ⊢
 refine ⟨(by show 1 ≤ sizeLine; decide), ?_⟩
 intro q2 hq2
 have L2 := L1.new hq2 (.tup [.int 1])
 generalize upd H1 q2 (.tup [.int 1]) = H2 at L2 ⊢
 intro q3 hq3
 have L3 := L2.new hq3 (.dK [])
 generalize upd H2 q3 (.dK []) = H3 at L3 ⊢
 refine ⟨_, _, rfl, rfl, ⟨by decide, by decide, by decide⟩, _, _, rfl, rfl, _, rfl, _, rfl, d, _, rfl, L3.D, by decide, by decide, ?_⟩
 intro r1 H4 r10 r11 D4 o4
 have L4 := L3.mv D4 (off_msk o4)
 refine ⟨_, _, rfl, rfl, (by show 0 ≤ sizeLine; decide), ?_⟩
 intro q4 hq4
 have L5 := L4.new hq4 (.lst [])
 generalize upd H4 q4 (.lst []) = H5 at L5 ⊢
 refine ⟨(by show 12 ≤ sizeLine; decide), ?_⟩
 intro s1 hs1
 have L6 := L5.new hs1 (.lst [.int (-1), .bl true, .bl false, .non, .str "1", .ref q1, .ref q2, .ref q3, .int (0 - (10 : Int) ^ (20 : Int).toNat), .str "", .int (-1 - r1), .ref q4])
 generalize upd H5 s1 (.lst [.int (-1), .bl true, .bl false, .non, .str "1", .ref q1, .ref q2, .ref q3, .int (0 - (10 : Int) ^ (20 : Int).toNat), .str "", .int (-1 - r1), .ref q4]) = H6 at L6 ⊢
 refine ⟨_, rfl, _, rfl, d, _, rfl, L6.D, by decide, by decide, ?_⟩
 intro r2 H7 r20 r21 D7 o7
 have L7 := L6.mv D7 (off_msk o7)
 obtain ⟨v, hv, hvm⟩ := pick_any (xs := ([.int (-1), .bl true, .bl false, .non, .str "1", .ref q1, .ref q2, .ref q3, .int (0 - (10 : Int) ^ (20 : Int).toNat), .str "", .int (-1 - r1), .ref q4] : List V)) r20 (by show r2 < ((12 : Nat) : Int); exact r21)
 refine ⟨s1, _, r2, v, rfl, rfl, SqL.of (L7.at (by repeat (first | exact List.mem_cons_self | apply List.mem_cons_of_mem))), hv, q v _ L7.D L7.G ?_⟩
 simp only [List.mem_cons, List.not_mem_nil, or_false] at hvm
 have one : DatAll (msk (S1 d) H7) [V.int 1] [PyData.int 1] := .cons (.int 1) .nil
 rcases hvm with e | e | e | e | e | e | e | e | e | e | e | e <;> rw [e]
 ·exact ⟨_, .int _, fun i h => by cases h; decide⟩
 ·exact ⟨_, .bl _, fun i h => by cases h⟩
 ·exact ⟨_, .bl _, fun i h => by cases h⟩
 ·exact ⟨_, .non, fun i h => by cases h⟩
 ·exact ⟨_, .str _, fun i h => by cases h⟩
 ·exact ⟨_, .lst (L7.m (by repeat (first | exact List.mem_cons_self | apply List.mem_cons_of_mem))) one, fun i h => by cases h⟩
 ·exact ⟨_, .tup (L7.m (by repeat (first | exact List.mem_cons_self | apply List.mem_cons_of_mem))) one, fun i h => by cases h⟩
 ·exact ⟨_, .dct (L7.m (by repeat (first | exact List.mem_cons_self | apply List.mem_cons_of_mem))), fun i h => by cases h⟩
 ·exact ⟨_, .int _, fun i h => by cases h; decide⟩
 ·exact ⟨_, .str _, fun i h => by cases h⟩
 ·exact ⟨_, .int _, fun i h => by cases h; omega⟩
 ·exact ⟨_, .lst (L7.m (o := .lst []) (by repeat (first | exact List.mem_cons_self | apply List.mem_cons_of_mem))) .nil, fun i h => by cases h⟩
theorem scThe : FnScope ["store", "here", "is_in", "out"] ["store", "here"] (defScope sThe) := ⟨rfl, rfl, rfl, by decide +kernel, rfl, by decide +kernel, by decide +kernel⟩
theorem out_some {ns : List Int} (nd : ns.Nodup) (l : ns.length ≤ 10) : 1 ≤ ((List.range 12).filter fun i : Nat => !ns.contains (i : Int)).length := by
 rcases Nat.eq_zero_or_pos ((List.range 12).filter fun i : Nat => !ns.contains (i : Int)).length with z | z
 ·have e := List.length_eq_zero_iff.mp z
  have all : ∀ x ∈ (List.range 12).map fun i : Nat => (i : Int), x ∈ ns := fun x hx => by
   obtain ⟨i, hi, rfl⟩ := List.mem_map.mp hx
   cases hc : ns.contains (i : Int) with
   | true => exact List.contains_iff_mem.mp hc
   | false =>
    have : i ∈ (List.range 12).filter fun i : Nat => !ns.contains (i : Int) := List.mem_filter.mpr ⟨hi, by rw [hc]; rfl⟩
    rw [e] at this
    cases this
  have h := sub_lenI (range_nodup 12) all
  rw [List.length_map, List.length_range] at h
  omega
 ·exact z
set_option maxHeartbeats 0 in
theorem ok_the (F : Fun K "_law_there" "_law_there" sThe f fd) (B : Bt3 mg) (GT : FnOk P w K mg base CX0 1 tk tkd ["store", "many"] spTkT) (bT : Binds K tkd ["store", "many"] []) (kT : Kee K tk) (mT : mg "_law_take" = some (.ref tk)) : FnOk P w K mg base CX0 2 f fd ["store", "here"] spThe := by
 refine F.ok scThe (fun vs H Q E h => ?_) (fun cdv A outer s H vs Q E hr h => ?_)
 ·obtain ⟨d, a, ns, rfl, _⟩ := h
  rfl
 obtain ⟨d, a, ns, rfl, S0, ad, ha, n10, nd, q⟩ := h
 refine ⟨_, (@pss_cons _ _ _ _ _ (ps_set (i := 2) scThe.nd rfl (Or.inl rfl) (pe_ix ix_list (pe_op op_cat (pv 1) (pe_lst (pa_cons pe_int pa_nil))) (pe_call GT hr rfl mT kT bT .nil pass0 (pa_cons (pv 0) (pa_cons (pe_op op_add (pe_callB call_len_seq rfl B.len PySem.boot_len (pa_cons (pv 1) pa_nil)) pe_int) pa_nil))) (fun _ _ => rfl))) (@pss_cons _ _ _ _ _ (ps_comp ["one"] rfl (blk_ok (defScope sThe) ["store", "here", "is_in", "out"] rfl rfl (by decide +kernel)) (pi_range1 rfl B.range (pa_cons pe_int pa_nil)) (fun pins C fp s3 H3 => ⟨(pg_name (i := 0) (show (blkN ["one"] ["store", "here", "is_in", "out"]).Nodup by decide +kernel) rfl (Or.inl rfl)), (pif_one (pt_cmpR (op_notInI K) (pv 0) (pv 2) rfl)), (pv 0)⟩) (j := 3) scThe.nd rfl (Or.inl rfl) rfl) (@pss_one _ _ _ (ps_ret (pe_lst (pa_cons (pv 2) (pa_cons (pe_ix ix_list (pv 3) (pe_call GT hr rfl mT kT bT .nil pass0 (pa_cons (pv 0) (pa_cons (pe_callB call_len_seq rfl B.len PySem.boot_len (pa_cons (pv 3) pa_nil)) pa_nil))) (fun _ _ => rfl)) (pa_cons (pe_op op_add (pe_op op_mul pe_int (pe_op op_pow pe_int pe_int)) (pe_call GT hr rfl mT kT bT .nil pass0 (pa_cons (pv 0) (pa_cons pe_int pa_nil)))) pa_nil)))))))), ?_⟩
 have nml : (ns.map V.int).length = ns.length := List.length_map _
 refine ⟨_, rfl, (by show 1 ≤ sizeLine; decide), fun l1 hl1 => ?_⟩
 have g1 := Same.new hl1 (.lst [.int 0])
 refine ⟨a, l1, _, _, rfl, rfl, g1 _ _ ha, upd_same, small (by rw [nml]; show ns.length + 1 ≤ 1000; omega), fun l2 hl2 => ?_⟩
 have g2 := Same.new hl2 (.lst (ns.map V.int ++ [.int 0]))
 have e2 : upd (upd H l1 (.lst [.int 0])) l2 (.lst (ns.map V.int ++ [.int 0])) l2 = some (.lst ((ns ++ [0]).map V.int)) := by rw [upd_same, List.map_append]; rfl
 have g12 := g1.trans g2
 have S2 := S0.ex g12
 have l2d : l2 ≠ d := (S0.ex g1).out hl2
 generalize upd (upd H l1 (.lst [.int 0])) l2 (.lst (ns.map V.int ++ [.int 0])) = H2 at g2 e2 g12 S2 ⊢
 have ha2 := g12 _ _ ha
 refine ⟨_, rfl, _, rfl, a, _, rfl, .inl (SqL.of ha2), _, _, rfl, rfl, d, _, rfl, S2, by rw [nml]; omega, Int.lt_of_lt_of_le (show _ < (20 : Int) by rw [nml]; omega) (by decide), fun r1 H3 r10 r11 S3 o3 => ?_⟩
 rw [nml] at r11
 obtain ⟨x, hx, mx⟩ := pick_int (ns ++ [0]) r10 (by rw [List.length_append]; exact r11)
 refine ⟨l2, _, _, _, rfl, rfl, SqL.of ((o3 l2 l2d).trans e2), hx, ?_⟩
 have E3 : Ex (· = d) H H3 := (Ex.same g12).trans o3.ex
 have ha3 := (o3 a ad).trans ha2
 refine ⟨12, rfl, by decide, by decide, fun D hD => ?_⟩
 refine turns_range (lo := 0) (n := (12 : Int).toNat) (σ := [some (.ref d), some (.ref a), some (.int x), none]) (fun i => !ns.contains ((i : Nat) : Int)) (fun i => .int ((i : Nat) : Int)) hD (by decide) (fun i H' hi g P hP => ?_) (fun i H' hi _ g P hP => ?_) fun H4 g4 e4 => ?_
 ·rw [← Int.zero_add (i : Int)] at hP
  exact ⟨_, rfl, _, rfl, a, 0 + (i : Int), ns, rfl, rfl, SqL.of (g _ _ ha3), _, rfl, hP _ Same.rfl'⟩
 ·rw [← Int.zero_add (i : Int)] at hP
  exact ⟨_, rfl, hP _ Same.rfl'⟩
 obtain ⟨ws, ew, wl, wl2, wb⟩ : ∃ ws : List Int, H4 D = some (.lst (ws.map V.int)) ∧ 1 ≤ ws.length ∧ ws.length ≤ 12 ∧ ∀ y ∈ ws, y ∉ ns ∧ 0 ≤ y ∧ y < 12 := by
  refine ⟨((List.range 12).filter fun i : Nat => !ns.contains ((i : Nat) : Int)).map fun i : Nat => (i : Int), by rw [e4, List.map_map]; rfl, ?_, ?_, fun y hy => ?_⟩
  ·rw [List.length_map]; exact out_some nd n10
  ·rw [List.length_map]
   have := List.length_filter_le (fun i : Nat => !ns.contains ((i : Nat) : Int)) (List.range 12)
   rw [List.length_range] at this
   exact this
  ·obtain ⟨k, hk, rfl⟩ := List.mem_map.mp hy
   obtain ⟨h1, h2⟩ := List.mem_filter.mp hk
   have := List.mem_range.mp h1
   refine ⟨fun z => ?_, by omega, by omega⟩
   rw [List.contains_iff_mem.mpr z] at h2
   cases h2
 have wml : (ws.map V.int).length = ws.length := List.length_map _
 have S4 := S3.ex g4
 have Dd : D ≠ d := S3.out hD
 have E4 := E3.trans (Ex.same (S := (· = d)) g4)
 refine ⟨_, rfl, _, rfl, _, rfl, _, rfl, D, _, rfl, .inl (SqL.of ew), d, _, rfl, S4, by rw [wml]; omega, Int.lt_of_lt_of_le (show _ < (20 : Int) by rw [wml]; omega) (by decide), fun r2 H5 r20 r21 S5 o5 => ?_⟩
 rw [wml] at r21
 obtain ⟨y, hy, my⟩ := pick_int ws r20 r21
 refine ⟨D, _, _, _, rfl, rfl, SqL.of ((o5 D Dd).trans ew), hy, ?_⟩
 refine ⟨_, _, rfl, rfl, ⟨by decide, by decide, by decide⟩, _, _, rfl, rfl, .inl ⟨by decide, by decide⟩, _, rfl, d, _, rfl, S5, by decide, by decide, fun r3 H6 r30 r31 S6 o6 => ⟨_, _, rfl, rfl, (by show 3 ≤ sizeLine; decide), fun l hl => ?_⟩⟩
 have E6 := (E4.trans o5.ex).trans o6.ex
 have g7 := Same.new hl (.lst [.int x, .int y, .int (9 * 10 ^ (25 : Int).toNat + r3)])
 have e25 : (10 : Int) ^ (25 : Int).toNat = 10 ^ 25 := by decide
 obtain ⟨b1, b2, b3⟩ := wb y my
 exact q l x y _ _ (S6.ex g7) (E6.trans (Ex.same g7)) (S6.out hl) upd_same (by rcases List.mem_append.mp mx with z | z; exact .inl z; exact .inr (List.mem_singleton.mp z)) b1 b2 b3 (by rw [e25]; omega)
end
def dueK (kd : Int) (ns ss : List Int) (d : PyData) : Nat := if kd = 0 then dueCo ns ss d else if kd = 1 then dueGo ns ss d else if kd = 2 then dueSc ns ss d else dueSg ns ss d
def aftK (kd : Int) (ns ss : List Int) (x : Int) : List Int × List Int := if kd = 0 then aftCo ns ss x else if kd = 1 then aftGo ns ss x else if kd = 2 then aftSc ns ss x else aftSg ns ss x
def wordK (kd : Int) : Str := if kd < 2 then "number" else "sum"
abbrev sDone : Stmt := top 51
abbrev sAsk : Stmt := top 52
def isS : PyData → Bool
 | .str _ => true
 | _ => false
theorem kit_s (K : PySem.W.Frag) (d : PyData) : PySem.W.kitOne K (.type (tyD d)) (.type "str") = some (isS d) := by cases d <;> rfl
def spDone (C XT XN XU : Addr) : Sp := fun vs H Q E => ∃ (k dx a b r : Addr) (ns ss : List Int) (kd : Int) (v : V) (d : PyData), vs = [.ref k, .ref r] ∧ Kp H C k dx a b ns ss ∧ H r = some (.tup [.int kd, v]) ∧ 0 ≤ kd ∧ kd < 4 ∧ Dat H v d ∧
 (dueK kd ns ss d = 1 → E (.ref XT) none H) ∧ (dueK kd ns ss d = 2 → E (.ref (if kd < 2 then XN else XU)) none H) ∧
 (dueK kd ns ss d = 0 → ∀ x : Int, v = .int x → d = .int x → PlanOk (aftK kd ns ss x).1 (aftK kd ns ss x).2 → ∀ (t a' b' : Addr) (H' : Hp), Ex (· = k) H H' → H t = none → H' t = some (.tup [.int (cntW ns ss false : Nat), .int (cntW (aftK kd ns ss x).1 (aftK kd ns ss x).2 false : Nat)]) →
  Kp H' C k dx a' b' (aftK kd ns ss x).1 (aftK kd ns ss x).2 → (a' = a ∨ H a' = none) → (b' = b ∨ H b' = none) → Q (.ref t) H')
def spAsk (C : Addr) : Sp := fun vs H Q _ => ∃ (k dx a b r : Addr) (ns ss : List Int) (kd : Int) (v u : V) (d : PyData), vs = [.ref k, .ref r, u] ∧ Kp H C k dx a b ns ss ∧ H r = some (.tup [.int kd, v]) ∧ 0 ≤ kd ∧ kd < 4 ∧ Dat H v d ∧
 (dueK kd ns ss d = 1 → u = .str "many" ∧ ∀ H', Same H H' → Q u H') ∧ (dueK kd ns ss d = 2 → u = .str (wordK kd) ∧ ∀ H', Same H H' → Q u H') ∧
 (dueK kd ns ss d = 0 → ∀ x : Int, v = .int x → d = .int x → PlanOk (aftK kd ns ss x).1 (aftK kd ns ss x).2 → ∀ (t a' b' : Addr) (H' : Hp), Ex (· = k) H H' → H t = none → H' t = some (.tup [.int (cntW ns ss false : Nat), .int (cntW (aftK kd ns ss x).1 (aftK kd ns ss x).2 false : Nat)]) →
  Kp H' C k dx a' b' (aftK kd ns ss x).1 (aftK kd ns ss x).2 → (a' = a ∨ H a' = none) → (b' = b ∨ H b' = none) → Q (.ref t) H')
section
variable {f C co go sc sg XT XN XU XS dn ki : Addr} {xs : List Addr} {fd cod god scd sgd dnd kid : FuncData}
theorem scDone : FnScope ["keeper", "deed", "kind", "one"] ["keeper", "deed"] (defScope sDone) := ⟨rfl, rfl, rfl, by decide +kernel, rfl, by decide +kernel, by decide +kernel⟩
theorem ok_done (F : Fun K "_law_done" "_law_done" sDone f fd) (T : KpT K C)
  (mCo : Meth K C "come" co) (GCo : FnOk P w K mg base (CX1 P w) 27 co cod ["self", "number"] (spDeed C XT XN dueCo aftCo)) (bCo : Binds K cod ["self", "number"] [])
  (mGo : Meth K C "go" go) (GGo : FnOk P w K mg base (CX1 P w) 27 go god ["self", "number"] (spDeed C XT XN dueGo aftGo)) (bGo : Binds K god ["self", "number"] [])
  (mSc : Meth K C "sum_comes" sc) (GSc : FnOk P w K mg base (CX1 P w) 27 sc scd ["self", "number"] (spDeed C XT XU dueSc aftSc)) (bSc : Binds K scd ["self", "number"] [])
  (mSg : Meth K C "sum_goes" sg) (GSg : FnOk P w K mg base (CX1 P w) 27 sg sgd ["self", "number"] (spDeed C XT XU dueSg aftSg)) (bSg : Binds K sgd ["self", "number"] []) : FnOk P w K mg base (CX1 P w) 28 f fd ["keeper", "deed"] (spDone C XT XN XU) := by
 refine F.ok1 scDone (fun vs H Q E h => ?_) (fun cdv A outer s H vs Q E hr h => ?_)
 ·obtain ⟨k, dx, a, b, r, ns, ss, kd, v, d, rfl, _⟩ := h
  rfl
 obtain ⟨k, dx, a, b, r, ns, ss, kd, v, d, rfl, kp, hrt, k0, k4, hd, q1, q2, q⟩ := h
 refine ⟨_, (@pss_cons _ _ _ _ _ (ps_asg (pv 1) (pg_tup rfl (pgs_cons (pg_name (i := 2) scDone.nd rfl (Or.inl rfl)) (pgs_cons (pg_name (i := 3) scDone.nd rfl (Or.inl rfl)) pgs_nil)))) (@pss_cons _ _ _ _ _ (ps_if (pt_cmpR op_eq (pv 2) pe_int (nomark _)) (@pss_one _ _ _ (ps_ret (pe_meth (pv 0) T.cl mCo GCo hr bCo .nil pass1 (pa_cons (pv 3) pa_nil)))) pss_nil) (@pss_cons _ _ _ _ _ (ps_if (pt_cmpR op_eq (pv 2) pe_int (nomark _)) (@pss_one _ _ _ (ps_ret (pe_meth (pv 0) T.cl mGo GGo hr bGo .nil pass1 (pa_cons (pv 3) pa_nil)))) pss_nil) (@pss_cons _ _ _ _ _ (ps_if (pt_cmpR op_eq (pv 2) pe_int (nomark _)) (@pss_one _ _ _ (ps_ret (pe_meth (pv 0) T.cl mSc GSc hr bSc .nil pass1 (pa_cons (pv 3) pa_nil)))) pss_nil) (@pss_one _ _ _ (ps_ret (pe_meth (pv 0) T.cl mSg GSg hr bSg .nil pass1 (pa_cons (pv 3) pa_nil)))))))), ?_⟩
 refine ⟨_, rfl, r, _, rfl, SqT.of hrt, rfl, _, _, rfl, _, _, rfl, rfl, ?_⟩
 rcases (show kd = 0 ∨ kd = 1 ∨ kd = 2 ∨ kd = 3 by omega) with e | e | e | e <;> subst e
 ·refine ⟨_, rfl, rfl, _, rfl, iteT ?_⟩
  exact ⟨_, rfl, k, dx, _, rfl, kp.k, rfl, _, rfl, k, dx, a, b, ns, ss, v, d, rfl, kp, hd, q1, q2, q⟩
 ·refine ⟨_, rfl, rfl, _, rfl, iteF ⟨_, rfl, rfl, _, rfl, iteT ?_⟩⟩
  exact ⟨_, rfl, k, dx, _, rfl, kp.k, rfl, _, rfl, k, dx, a, b, ns, ss, v, d, rfl, kp, hd, q1, q2, q⟩
 ·refine ⟨_, rfl, rfl, _, rfl, iteF ⟨_, rfl, rfl, _, rfl, iteF ⟨_, rfl, rfl, _, rfl, iteT ?_⟩⟩⟩
  exact ⟨_, rfl, k, dx, _, rfl, kp.k, rfl, _, rfl, k, dx, a, b, ns, ss, v, d, rfl, kp, hd, q1, q2, q⟩
 ·refine ⟨_, rfl, rfl, _, rfl, iteF ⟨_, rfl, rfl, _, rfl, iteF ⟨_, rfl, rfl, _, rfl, iteF ?_⟩⟩⟩
  exact ⟨_, rfl, k, dx, _, rfl, kp.k, rfl, _, rfl, k, dx, a, b, ns, ss, v, d, rfl, kp, hd, q1, q2, q⟩
theorem scAsk : FnScope ["keeper", "deed", "due", "caught", "found", "e"] ["keeper", "deed", "due"] (defScope sAsk) := ⟨rfl, rfl, rfl, by decide +kernel, rfl, by decide +kernel, by decide +kernel⟩
theorem ok_ask (F : Fun K "_law_asked" "_law_asked" sAsk f fd) (B : Bt2 mg) (mXS : mg "SumError" = some (.ref XS)) (exT : ExD K xs XS XT 8) (exN : ExD K xs XS XN 1) (exU : ExD K xs XS XU 7)
  (GD : FnOk P w K mg base (CX1 P w) 28 dn dnd ["keeper", "deed"] (spDone C XT XN XU)) (bD : Binds K dnd ["keeper", "deed"] []) (kD : Kee K dn) (mD : mg "_law_done" = some (.ref dn))
  (GK : FnOk P w K mg base CX0 28 ki kid ["e", "due"] (spKnd K xs XS)) (bK : Binds K kid ["e", "due"] []) (kK : Kee K ki) (mK : mg "_law_kind" = some (.ref ki)) : FnOk P w K mg base CX0 29 f fd ["keeper", "deed", "due"] (spAsk C) := by
 refine F.ok scAsk (fun vs H Q E h => ?_) (fun cdv A outer s H vs Q E hr h => ?_)
 ·obtain ⟨k, dx, a, b, r, ns, ss, kd, v, u, d, rfl, _⟩ := h
  rfl
 obtain ⟨k, dx, a, b, r, ns, ss, kd, v, u, d, rfl, kp, hrt, k0, k4, hd, q1, q2, q⟩ := h
 refine ⟨_, (@pss_cons _ _ _ _ _ (ps_set (i := 3) scAsk.nd rfl (Or.inl rfl) pe_non) (@pss_cons _ _ _ _ _ (ps_set (i := 4) scAsk.nd rfl (Or.inl rfl) pe_non) (@pss_cons _ _ _ _ _ (ps_try (S := XS) (i := 3) (j := 5) (pb_set (i := 4) (fun _ _ z => z) scAsk.nd rfl (Or.inl rfl) GD hr rfl mD kD bD .nil (pa_cons (pv 0) (pa_cons (pv 1) pa_nil))) rfl rfl rfl scAsk.nd rfl mXS rfl (Or.inl rfl) rfl rfl (by decide)) (@pss_cons _ _ _ _ _ (ps_if (pt_cmpR op_isN (pv 3) pe_non (nomark _)) (@pss_one _ _ _ (ps_ret (pe_ix ix_list (pe_lst (pa_cons (pv 4) (pa_cons pe_str pa_nil))) (pe_callTy call_int1 rfl B.int PyProof.Rows.boot_int (pa_cons (pe_callB (call_isi "str") rfl B.isinstance boot_isinstance (pa_cons (pv 4) (pa_cons (pe_bltn (v := .ty "str") rfl B.str boot_str rfl) pa_nil))) pa_nil)) (fun _ _ => rfl)))) pss_nil) (@pss_one _ _ _ (ps_ret (pe_ix ix_list (pe_lst (pa_cons pe_str (pa_cons (pv 2) pa_nil))) (pe_callTy call_int1 rfl B.int PyProof.Rows.boot_int (pa_cons (pe_and (pe_callB (call_isi "str") rfl B.isinstance boot_isinstance (pa_cons (pv 2) (pa_cons (pe_bltn (v := .ty "str") rfl B.str boot_str rfl) pa_nil))) (pe_one (pe_call GK hr rfl mK kK bK .nil pass0 (pa_cons (pv 3) (pa_cons (pv 2) pa_nil))))) pa_nil)) (fun _ _ => rfl)))))))), ?_⟩
 refine ⟨_, rfl, _, rfl, k, dx, a, b, r, ns, ss, kd, v, d, rfl, kp, hrt, k0, k4, hd, fun c1 => ⟨exT.e, fun ea hn => ?_⟩, fun c2 => ⟨?_, fun ea hn => ?_⟩, fun c0 x ev ed okx t a' b' H' ex ht et kp' w1 w2 => ?_⟩
 ·obtain ⟨eu, qq⟩ := q1 c1
  subst eu
  refine ⟨_, rfl, rfl, _, rfl, iteF ?_⟩
  refine ⟨_, rfl, two_le, fun l hl => ?_⟩
  have g := Same.new hl (.lst [.str "other", .str "many"])
  refine ⟨_, rfl, _, _, true, rfl, (Dat.str _).ty, kit_s _ (.str "many"), _, rfl, iteT ⟨_, rfl, _, rfl, ea, _, 8, "many", rfl, g _ _ upd_same, exT, rfl, fun H4 g4 => .inr ⟨true, rfl, l, _, 1, .str "many", rfl, rfl, SqL.of (g4 _ _ upd_same), rfl, ?_⟩⟩⟩
  exact qq _ ((Same.new hn _).trans (g.trans g4))
 ·by_cases z : kd < 2
  ·rw [if_pos z]; exact exN.e
  ·rw [if_neg z]; exact exU.e
 ·obtain ⟨eu, qq⟩ := q2 c2
  subst eu
  refine ⟨_, rfl, rfl, _, rfl, iteF ?_⟩
  refine ⟨_, rfl, two_le, fun l hl => ?_⟩
  have g := Same.new hl (.lst [.str "other", .str (wordK kd)])
  by_cases z : kd < 2
  ·have wk : wordK kd = "number" := if_pos z
   rw [if_pos z] at *
   refine ⟨_, rfl, _, _, true, rfl, (Dat.str _).ty, kit_s _ (.str (wordK kd)), _, rfl, iteT ⟨_, rfl, _, rfl, ea, _, 1, wordK kd, rfl, g _ _ upd_same, exN, by rw [wk]; rfl, fun H4 g4 => .inr ⟨true, rfl, l, _, 1, .str (wordK kd), rfl, rfl, SqL.of (g4 _ _ upd_same), rfl, ?_⟩⟩⟩
   exact qq _ ((Same.new hn _).trans (g.trans g4))
  ·have wk : wordK kd = "sum" := if_neg z
   rw [if_neg z] at *
   refine ⟨_, rfl, _, _, true, rfl, (Dat.str _).ty, kit_s _ (.str (wordK kd)), _, rfl, iteT ⟨_, rfl, _, rfl, ea, _, 7, wordK kd, rfl, g _ _ upd_same, exU, by rw [wk]; rfl, fun H4 g4 => .inr ⟨true, rfl, l, _, 1, .str (wordK kd), rfl, rfl, SqL.of (g4 _ _ upd_same), rfl, ?_⟩⟩⟩
   exact qq _ ((Same.new hn _).trans (g.trans g4))
 ·refine ⟨_, rfl, rfl, _, rfl, iteT ?_⟩
  refine ⟨_, rfl, two_le, fun l hl => ?_⟩
  have g := Same.new hl (.lst [.ref t, .str "told"])
  have dt : Dat (upd H' l (.lst [.ref t, .str "told"])) (.ref t) (.tuple [.int _, .int _]) := .tup (g _ _ et) (.cons (.int _) (.cons (.int _) .nil))
  refine ⟨_, rfl, _, _, false, rfl, dt.ty, kit_s _ _, .inr ⟨false, rfl, l, _, 0, .ref t, rfl, rfl, SqL.of upd_same, rfl, ?_⟩⟩
  exact q c0 x ev ed okx t a' b' _ (ex.trans (Ex.same g)) ht (g _ _ et) (kp'.same g) w1 w2
end
abbrev sAll : Stmt := top 55
def RowR (M : Hp) (ns ss : List Int) (r : V) : Prop := ∃ (q : Addr) (kd : Int) (v : V) (dd : PyData), r = .ref q ∧ M q = some (.tup [.int kd, v]) ∧ 0 ≤ kd ∧ kd < 4 ∧ Dat M v dd ∧ dueK kd ns ss dd ≠ 0
theorem RowR.same {M M' : Hp} {ns ss : List Int} {r : V} (h : RowR M ns ss r) (g : Same M M') : RowR M' ns ss r := let ⟨q, kd, v, dd, a, b, c, e, f, x⟩ := h; ⟨q, kd, v, dd, a, g _ _ b, c, e, f.same g, x⟩
theorem num_no {ns : List Int} {d : PyData} (r : Rise ns) (h : noN d) : numIn ns d = false ∧ newIn ns d = false := by
 cases d with
 | int i =>
  have := h i rfl
  constructor
  ·show ns.contains i = false
   exact Bool.eq_false_iff.mpr fun z => by have := r.bd i (List.contains_iff_mem.mp z); omega
  ·show (decide (0 ≤ i) && !ns.contains i) = false
   rw [decide_eq_false (by omega)]
   rfl
 | _ => exact ⟨rfl, rfl⟩
theorem due_odd {ns ss : List Int} {d : PyData} (ok : PlanOk ns ss) (h : noN d) (kd : Int) : dueK kd ns ss d ≠ 0 := by
 obtain ⟨h1, h2⟩ := num_no ok.n h
 obtain ⟨h3, h4⟩ := num_no ok.s h
 unfold dueK dueCo dueGo dueSc dueSg dueC
 rw [h1, h2, h3, h4]
 split
 ·split <;> simp
 ·split
  ·simp
  ·split
   ·split <;> simp
   ·simp
theorem due_in {ns ss : List Int} {x : Int} (h : x ∈ ns) : dueK 0 ns ss (.int x) ≠ 0 := by
 have e : newIn ns (.int x) = false := by
  show (decide (0 ≤ x) && !ns.contains x) = false
  rw [List.contains_iff_mem.mpr h]
  exact Bool.and_false _
 unfold dueK dueCo dueC
 rw [if_pos rfl, e]
 split <;> simp
theorem due_inS {ns ss : List Int} {x : Int} (h : x ∈ ss) : dueK 2 ns ss (.int x) ≠ 0 := by
 have e : newIn ss (.int x) = false := by
  show (decide (0 ≤ x) && !ss.contains x) = false
  rw [List.contains_iff_mem.mpr h]
  exact Bool.and_false _
 unfold dueK dueSc dueC
 rw [if_neg (by decide), if_neg (by decide), if_pos rfl, e]
 split <;> simp
theorem due_out {ns ss : List Int} {x : Int} (h : x ∉ ns) : dueK 1 ns ss (.int x) ≠ 0 := by
 have e : numIn ns (.int x) = false := by
  show ns.contains x = false
  exact Bool.eq_false_iff.mpr fun z => h (List.contains_iff_mem.mp z)
 unfold dueK dueGo
 rw [if_neg (by decide), if_pos rfl, e]
 simp
theorem due_outS {ns ss : List Int} {x : Int} (h : x ∉ ss) : dueK 3 ns ss (.int x) ≠ 0 := by
 have e : numIn ss (.int x) = false := by
  show ss.contains x = false
  exact Bool.eq_false_iff.mpr fun z => h (List.contains_iff_mem.mp z)
 unfold dueK dueSg
 rw [if_neg (by decide), if_neg (by decide), if_neg (by decide), e]
 simp
theorem due_last {ns ss : List Int} {d : PyData} (h : ns.length = 1) : dueK 1 ns ss d ≠ 0 := by
 unfold dueK dueGo
 rw [if_neg (by decide), if_pos rfl, h]
 simp
theorem due_full {ns ss : List Int} {d : PyData} (h : ns.length = 10) : dueK 0 ns ss d ≠ 0 := by
 unfold dueK dueCo dueC
 rw [if_pos rfl, if_pos (by omega)]
 simp
theorem due_fullS {ns ss : List Int} {d : PyData} (h : ss.length = 10) : dueK 2 ns ss d ≠ 0 := by
 unfold dueK dueSc dueC
 rw [if_neg (by decide), if_neg (by decide), if_pos rfl, if_pos (by omega)]
 simp
theorem due_word {ns ss : List Int} {kd : Int} {d : PyData} (ok : PlanOk ns ss) (k0 : 0 ≤ kd) (k4 : kd < 4) (h : dueK kd ns ss d ≠ 0) :
  (dueK kd ns ss d = 1 → (kd = 0 ∧ ns.length = 10) ∨ (kd = 2 ∧ ss.length = 10)) ∧ (dueK kd ns ss d = 2 → ¬ ((kd = 0 ∧ ns.length = 10) ∨ (kd = 2 ∧ ss.length = 10))) := by
 have n2 := ok.n2
 have s2 := ok.s2
 rcases (show kd = 0 ∨ kd = 1 ∨ kd = 2 ∨ kd = 3 by omega) with e | e | e | e <;> subst e
 ·unfold dueK dueCo dueC
  rw [if_pos rfl]
  by_cases z : 10 ≤ ns.length
  ·rw [if_pos z]; exact ⟨fun _ => .inl ⟨rfl, by omega⟩, fun w => by cases w⟩
  ·rw [if_neg z]
   split
   ·exact ⟨(fun w => by cases w), fun w => by cases w⟩
   ·exact ⟨(fun w => by cases w), fun _ h => by omega⟩
 ·unfold dueK dueGo
  rw [if_neg (by decide), if_pos rfl]
  split
  ·exact ⟨(fun w => by cases w), fun w => by cases w⟩
  ·exact ⟨(fun w => by cases w), fun _ h => by omega⟩
 ·unfold dueK dueSc dueC
  rw [if_neg (by decide), if_neg (by decide), if_pos rfl]
  by_cases z : 10 ≤ ss.length
  ·rw [if_pos z]; exact ⟨fun _ => .inr ⟨rfl, by omega⟩, fun w => by cases w⟩
  ·rw [if_neg z]
   split
   ·exact ⟨(fun w => by cases w), fun w => by cases w⟩
   ·exact ⟨(fun w => by cases w), fun _ h => by omega⟩
 ·unfold dueK dueSg
  rw [if_neg (by decide), if_neg (by decide), if_neg (by decide)]
  split
  ·exact ⟨(fun w => by cases w), fun w => by cases w⟩
  ·exact ⟨(fun w => by cases w), fun _ h => by omega⟩
def S2 (d ro : Addr) : Addr → Prop := fun b => b = d ∨ b = ro
structure RS (d ro : Addr) (ns ss : List Int) (HA H : Hp) (n : Nat) : Prop where
 S : StT H d
 E : Ex (S2 d ro) HA H
 R : ∃ rs : List V, H ro = some (.lst rs) ∧ rs.length ≤ n ∧ ∀ r ∈ rs, RowR (msk (S2 d ro) H) ns ss r
theorem RS.mono {d ro : Addr} {ns ss : List Int} {HA H : Hp} {n m : Nat} (h : RS d ro ns ss HA H n) (l : n ≤ m) : RS d ro ns ss HA H m := ⟨h.S, h.E, let ⟨rs, a, b, c⟩ := h.R; ⟨rs, a, Nat.le_trans b l, c⟩⟩
theorem RS.draw {d ro : Addr} {ns ss : List Int} {HA H H' : Hp} {n : Nat} (h : RS d ro ns ss HA H n) (rd : ro ≠ d) (S : StT H' d) (o : OffT d H H') : RS d ro ns ss HA H' n := by
 obtain ⟨rs, a, b, c⟩ := h.R
 refine ⟨S, h.E.trans (o.ex.wide fun _ h => .inl h), rs, (o ro rd).trans a, b, fun r hr => (c r hr).same fun x u e => ?_⟩
 obtain ⟨nx, e⟩ := msk_some e
 rw [msk_in nx]
 exact (o x fun z => nx (.inl z)).trans e
theorem RS.new {d ro : Addr} {ns ss : List Int} {HA H H' : Hp} {n : Nat} (h : RS d ro ns ss HA H n) (g : Same H H') : RS d ro ns ss HA H' n := by
 obtain ⟨rs, a, b, c⟩ := h.R
 exact ⟨h.S.ex g, h.E.trans (Ex.same g), rs, g _ _ a, b, fun r hr => (c r hr).same (msk_same g)⟩
theorem RS.add {d ro q : Addr} {ns ss : List Int} {HA H : Hp} {n : Nat} {kd : Int} {x : Int} (h : RS d ro ns ss HA H n) (hq : H q = none) (k0 : 0 ≤ kd) (k4 : kd < 4) (du : dueK kd ns ss (.int x) ≠ 0) (l : n < 900) :
  ∃ rs, (upd H q (.tup [.int kd, .int x])) ro = some (.lst rs) ∧ rs.length < sizeLine ∧ RS d ro ns ss HA (upd (upd H q (.tup [.int kd, .int x])) ro (.lst (rs ++ [.ref q]))) (n + 1) := by
 obtain ⟨rs, a, b, c⟩ := h.R
 have g := Same.new hq (.tup [.int kd, .int x])
 have qr : q ≠ ro := Ne.symm (ne_of_none a hq)
 have qd : q ≠ d := h.S.out hq
 have rd : ro ≠ d := fun z => by
  obtain ⟨u1, u2, u3, e⟩ := h.S
  rw [z, e] at a
  cases a
  exact absurd (c (.int u1) List.mem_cons_self) (fun ⟨_, _, _, _, w, _⟩ => nomatch w)
 have keep : ∀ b u, msk (S2 d ro) (upd H q (.tup [.int kd, .int x])) b = some u → msk (S2 d ro) (upd (upd H q (.tup [.int kd, .int x])) ro (.lst (rs ++ [.ref q]))) b = some u := fun b u e => by
  obtain ⟨nb, e⟩ := msk_some e
  rw [msk_in nb, upd_ne (fun z => nb (.inr z))]
  exact e
 refine ⟨rs, g _ _ a, small1000 (by omega), (h.S.ex g).off rd, (h.E.trans (Ex.same g)).trans (Ex.put _ (.inr rfl)), rs ++ [.ref q], upd_same, by rw [List.length_append]; exact Nat.succ_le_succ b, fun r hr => ?_⟩
 rcases List.mem_append.mp hr with z | z
 ·exact ((c r z).same (msk_same g)).same keep
 ·rw [List.mem_singleton.mp z]
  exact ⟨q, kd, _, _, rfl, keep _ _ (by rw [msk_in (S := S2 d ro) (fun z => z.elim qd qr)]; exact upd_same), k0, k4, .int x, du⟩
theorem seq_postT {t u : TS} {D : Ends} {σ : L2.St} {H : Hp} (R : L2.St → Hp → Prop) (ht : ∀ N : L2.St → Hp → Prop, (∀ σ' H', R σ' H' → N σ' H') → t { D with nx := N } σ H) (hu : ∀ σ' H', R σ' H' → u D σ' H') : tSeq t u D σ H := ht _ hu
def spAll (C : Addr) : Sp := fun vs H Q _ => ∃ (d k dx ka kb t a b : Addr) (ns ss : List Int), vs = [.ref d, .ref k, .ref t] ∧ StT H d ∧ Kp H C k dx ka kb ns ss ∧ (k ≠ d ∧ ka ≠ d ∧ kb ≠ d) ∧ IsPl H t a b ns ss ∧ (t ≠ d ∧ a ≠ d ∧ b ≠ d) ∧ (∀ x ∈ ns, x < 9 * 10 ^ 25) ∧ (∀ x ∈ ss, x < 9 * 10 ^ 25) ∧
 ∀ H', StT H' d → Ex (· = d) H H' → Q (.bl true) H'
section
variable {f C od th tk as : Addr} {fd odd thd tkd asd : FuncData}
theorem scAll : FnScope ["store", "keeper", "plan", "numbers", "sums", "turn", "odd", "one", "strange", "far", "two", "none_such", "beyond", "rows", "deed", "due"] ["store", "keeper", "plan"] (defScope sAll) := ⟨rfl, rfl, rfl, by decide +kernel, rfl, by decide +kernel, by decide +kernel⟩
set_option maxHeartbeats 0 in
theorem ok_all (F : Fun K "_law_all_refused" "_law_all_refused" sAll f fd) (B : Bt3 mg)
  (GO : FnOk P w K mg base CX0 29 od odd ["store"] spOd) (bO : Binds K odd ["store"] []) (kO : Kee K od) (mO : mg "_law_odd" = some (.ref od))
  (GH : FnOk P w K mg base CX0 29 th thd ["store", "here"] spThe) (bH : Binds K thd ["store", "here"] []) (kH : Kee K th) (mH : mg "_law_there" = some (.ref th))
  (GT : FnOk P w K mg base CX0 29 tk tkd ["store", "many"] spTkT) (bT : Binds K tkd ["store", "many"] []) (kT : Kee K tk) (mT : mg "_law_take" = some (.ref tk))
  (GA : FnOk P w K mg base CX0 29 as asd ["keeper", "deed", "due"] (spAsk C)) (bA : Binds K asd ["keeper", "deed", "due"] []) (kA : Kee K as) (mA : mg "_law_asked" = some (.ref as)) : FnOk P w K mg base CX0 30 f fd ["store", "keeper", "plan"] (spAll C) := by
 refine F.ok scAll (fun vs H Q E h => ?_) (fun cdv A outer s H vs Q E hr h => ?_)
 ·obtain ⟨d, k, dx, ka, kb, t, a, b, ns, ss, rfl, _⟩ := h
  rfl
 obtain ⟨d, k, dx, ka, kb, t, a, b, ns, ss, rfl, S0, kp0, ⟨kd_, kad, kbd⟩, pl0, ⟨td, ad, bd⟩, bn, bs, q⟩ := h
 have ok := pl0.ok
 have n1 := ok.n1
 have n10 := ok.n2
 have s10 := ok.s2
 have ndn : ns.Nodup := ok.n.up.imp fun h => Int.ne_of_lt h
 have nds : ss.Nodup := ok.s.up.imp fun h => Int.ne_of_lt h
 have nml : (ns.map V.int).length = ns.length := List.length_map _
 have sml : (ss.map V.int).length = ss.length := List.length_map _
 refine ⟨_, (@pss_cons _ _ _ _ _ (ps_asg (pv 2) (pg_tup rfl (pgs_cons (pg_name (i := 3) scAll.nd rfl (Or.inl rfl)) (pgs_cons (pg_name (i := 4) scAll.nd rfl (Or.inl rfl)) pgs_nil)))) (@pss_cons _ _ _ _ _ (ps_for PassesOwn.never rfl (pi_range1 rfl B.range (QA.h (qa_cons (QE.mk pe_int) qa_nil))) (pg_name (i := 5) scAll.nd rfl (Or.inl rfl)) (@pss_cons _ _ _ _ _ (ps_set (i := 6) scAll.nd rfl (Or.inl rfl) (pe_call GO hr rfl mO kO bO .nil pass0 (QA.h (qa_cons (QE.mk (pv 0)) qa_nil)))) (@pss_cons _ _ _ _ _ (ps_asg (pe_call GH hr rfl mH kH bH .nil pass0 (QA.h (qa_cons (QE.mk (pv 0)) (qa_cons (QE.mk (pv 3)) qa_nil)))) (pg_tupL rfl (pgs_cons (pg_name (i := 7) scAll.nd rfl (Or.inl rfl)) (pgs_cons (pg_name (i := 8) scAll.nd rfl (Or.inl rfl)) (pgs_cons (pg_name (i := 9) scAll.nd rfl (Or.inl rfl)) pgs_nil))))) (@pss_cons _ _ _ _ _ (ps_asg (pe_call GH hr rfl mH kH bH .nil pass0 (QA.h (qa_cons (QE.mk (pv 0)) (qa_cons (QE.mk (pv 4)) qa_nil)))) (pg_tupL rfl (pgs_cons (pg_name (i := 10) scAll.nd rfl (Or.inl rfl)) (pgs_cons (pg_name (i := 11) scAll.nd rfl (Or.inl rfl)) (pgs_cons (pg_name (i := 12) scAll.nd rfl (Or.inl rfl)) pgs_nil))))) (@pss_cons _ _ _ _ _ (ps_set (i := 13) scAll.nd rfl (Or.inl rfl) (QE.h (qe_lst (qa_cons (qe_tup (qa_cons (QE.mk pe_int) (qa_cons (QE.mk (pv 6)) qa_nil))) (qa_cons (qe_tup (qa_cons (QE.mk pe_int) (qa_cons (QE.mk (pv 9)) qa_nil))) (qa_cons (qe_tup (qa_cons (QE.mk pe_int) (qa_cons (QE.mk (pv 6)) qa_nil))) (qa_cons (qe_tup (qa_cons (QE.mk pe_int) (qa_cons (QE.mk (pv 12)) qa_nil))) (qa_cons (qe_tup (qa_cons (QE.mk pe_int) (qa_cons (QE.mk (pv 6)) qa_nil))) (qa_cons (qe_tup (qa_cons (QE.mk pe_int) (qa_cons (QE.mk (pv 6)) qa_nil))) qa_nil))))))))) (@pss_cons _ _ _ _ _ (ps_if (pt_cmpR (op_inI K) (pv 7) (pv 3) rfl) (@pss_one _ _ _ (ps_expr (pe_bm PySem.F.plainAttrs_list PySem.F.slot_list_append PySem.F.type_list_append mt_append (pv 13) (QA.h (qa_cons (qe_tup (qa_cons (QE.mk pe_int) (qa_cons (QE.mk (pv 7)) qa_nil))) qa_nil))))) pss_nil) (@pss_cons _ _ _ _ _ (ps_if (pt_cmpR (op_notInI K) (pv 8) (pv 3) rfl) (@pss_one _ _ _ (ps_expr (pe_bm PySem.F.plainAttrs_list PySem.F.slot_list_append PySem.F.type_list_append mt_append (pv 13) (QA.h (qa_cons (qe_tup (qa_cons (QE.mk pe_int) (qa_cons (QE.mk (pv 8)) qa_nil))) qa_nil))))) pss_nil) (@pss_cons _ _ _ _ _ (ps_if (pt_cmpR (op_inI K) (pv 10) (pv 4) rfl) (@pss_one _ _ _ (ps_expr (pe_bm PySem.F.plainAttrs_list PySem.F.slot_list_append PySem.F.type_list_append mt_append (pv 13) (QA.h (qa_cons (qe_tup (qa_cons (QE.mk pe_int) (qa_cons (QE.mk (pv 10)) qa_nil))) qa_nil))))) pss_nil) (@pss_cons _ _ _ _ _ (ps_if (pt_cmpR (op_notInI K) (pv 11) (pv 4) rfl) (@pss_one _ _ _ (ps_expr (pe_bm PySem.F.plainAttrs_list PySem.F.slot_list_append PySem.F.type_list_append mt_append (pv 13) (QA.h (qa_cons (qe_tup (qa_cons (QE.mk pe_int) (qa_cons (QE.mk (pv 11)) qa_nil))) qa_nil))))) pss_nil) (@pss_cons _ _ _ _ _ (ps_if (pt_cmpR op_eq (pe_callB call_len_seq rfl B.len PySem.boot_len (QA.h (qa_cons (QE.mk (pv 3)) qa_nil))) pe_int (nomark _)) (@pss_one _ _ _ (ps_expr (pe_bm PySem.F.plainAttrs_list PySem.F.slot_list_append PySem.F.type_list_append mt_append (pv 13) (QA.h (qa_cons (qe_tup (qa_cons (QE.mk pe_int) (qa_cons (QE.mk (pe_ix ix_list (pv 3) pe_int (fun _ _ => rfl))) qa_nil))) qa_nil))))) pss_nil) (@pss_cons _ _ _ _ _ (ps_if (pt_cmpR op_eq (pe_callB call_len_seq rfl B.len PySem.boot_len (QA.h (qa_cons (QE.mk (pv 3)) qa_nil))) pe_int (nomark _)) (@pss_one _ _ _ (ps_expr (pe_bm PySem.F.plainAttrs_list PySem.F.slot_list_append PySem.F.type_list_append mt_append (pv 13) (QA.h (qa_cons (qe_tup (qa_cons (QE.mk pe_int) (qa_cons (QE.mk (pe_ix ix_list (pe_lst (QA.h (qa_cons (QE.mk (pv 8)) (qa_cons (QE.mk (pv 9)) qa_nil)))) (pe_call GT hr rfl mT kT bT .nil pass0 (QA.h (qa_cons (QE.mk (pv 0)) (qa_cons (QE.mk pe_int) qa_nil)))) (fun _ _ => rfl))) qa_nil))) qa_nil))))) pss_nil) (@pss_cons _ _ _ _ _ (ps_if (pt_cmpR op_eq (pe_callB call_len_seq rfl B.len PySem.boot_len (QA.h (qa_cons (QE.mk (pv 4)) qa_nil))) pe_int (nomark _)) (@pss_one _ _ _ (ps_expr (pe_bm PySem.F.plainAttrs_list PySem.F.slot_list_append PySem.F.type_list_append mt_append (pv 13) (QA.h (qa_cons (qe_tup (qa_cons (QE.mk pe_int) (qa_cons (QE.mk (pe_ix ix_list (pe_lst (QA.h (qa_cons (QE.mk (pv 11)) (qa_cons (QE.mk (pv 12)) qa_nil)))) (pe_call GT hr rfl mT kT bT .nil pass0 (QA.h (qa_cons (QE.mk (pv 0)) (qa_cons (QE.mk pe_int) qa_nil)))) (fun _ _ => rfl))) qa_nil))) qa_nil))))) pss_nil) (@pss_one _ _ _ (ps_for PassesOwn.never rfl (pi_list (pv 13)) (pg_name (i := 14) scAll.nd rfl (Or.inl rfl)) (@pss_cons _ _ _ _ _ (ps_set (i := 15) scAll.nd rfl (Or.inl rfl) (pe_ix ix_list (pe_lst (QA.h (qa_cons (QE.mk pe_str) (qa_cons (QE.mk pe_str) (qa_cons (QE.mk pe_str) (qa_cons (QE.mk pe_str) qa_nil)))))) (pe_ix ix_tup (pv 14) pe_int (fun _ _ => rfl)) (fun _ _ => rfl))) (@pss_cons _ _ _ _ _ (ps_if (PW.pt (pw_or (PW.pt (pw_and (pt_cmpR op_eq (pe_ix ix_tup (pv 14) pe_int (fun _ _ => rfl)) pe_int (nomark _)) (pw_and1 (pt_cmpR op_eq (pe_callB call_len_seq rfl B.len PySem.boot_len (QA.h (qa_cons (QE.mk (pv 3)) qa_nil))) pe_int (nomark _))))) (pw_or1 (PW.pt (pw_and (pt_cmpR op_eq (pe_ix ix_tup (pv 14) pe_int (fun _ _ => rfl)) pe_int (nomark _)) (pw_and1 (pt_cmpR op_eq (pe_callB call_len_seq rfl B.len PySem.boot_len (QA.h (qa_cons (QE.mk (pv 4)) qa_nil))) pe_int (nomark _)))))))) (@pss_one _ _ _ (ps_set (i := 15) scAll.nd rfl (Or.inl rfl) pe_str)) pss_nil) (@pss_one _ _ _ (ps_if (pt_cmpR op_ne (pe_call GA hr rfl mA kA bA .nil pass0 (QA.h (qa_cons (QE.mk (pv 1)) (qa_cons (QE.mk (pv 14)) (qa_cons (QE.mk (pv 15)) qa_nil))))) (pv 15) (nomark _)) (@pss_one _ _ _ (ps_ret pe_bl)) pss_nil)))))))))))))))))) (@pss_one _ _ _ (ps_ret pe_bl)))), ?_⟩
 refine ⟨_, rfl, t, _, rfl, SqT.of pl0.t, rfl, _, _, rfl, _, _, rfl, rfl, ?_⟩
 refine ⟨_, rfl, by decide, by decide, ?_⟩
 refine for_range (lo := 0) (n := (6 : Int).toNat) (fun i σ H' => ∃ (y5 y6 y7 y8 y9 y10 y11 y12 y13 y14 y15 : Option V), σ = [some (.ref d), some (.ref k), some (.ref t), some (.ref a), some (.ref b), y5, y6, y7, y8, y9, y10, y11, y12, y13, y14, y15] ∧ StT H' d ∧ Ex (· = d) H H') ⟨_, _, _, _, _, _, _, _, _, _, _, rfl, S0, Ex.refl⟩ ?_ ?_
 ·rintro i σ H1 hi ⟨y5, y6, y7, y8, y9, y10, y11, y12, y13, y14, y15, rfl, S1', E1⟩
  refine ⟨_, rfl, d, rfl, S1', fun ov H2 S2' g2 od => ?_⟩
  obtain ⟨dO, hO', nO⟩ := od
  have X2 : Ex (· = d) H1 H2 := fun c o n h => msk_le _ _ (g2 _ _ (by rw [msk_in (S := S1 d) n]; exact h))
  have E2 := E1.trans X2
  refine ⟨_, rfl, _, rfl, d, a, ns, rfl, S2', ad, E2 _ _ ad pl0.a, n10, ndn, fun l1 x1 y1 z1 H3 S3 X3 l1d e1 hx1 hy1 y10' y112 hz1 => ⟨l1, _, rfl, SqL.of e1, rfl, _, _, rfl, _, _, rfl, _, _, rfl, rfl, ?_⟩⟩
  have E3 := E2.trans X3
  refine ⟨_, rfl, _, rfl, d, b, ss, rfl, S3, bd, E3 _ _ bd pl0.b, s10, nds, fun l2 x2 y2 z2 H4 S4 X4 l2d e2 hx2 hy2 y20' y212 hz2 => ⟨l2, _, rfl, SqL.of e2, rfl, _, _, rfl, _, _, rfl, _, _, rfl, rfl, ?_⟩⟩
  have E4 := E3.trans X4
  have hO : Dat (msk (S1 d) H4) ov dO := hO'.same fun c o h => by
   obtain ⟨n, h⟩ := msk_some h
   rw [msk_in n]
   exact X4 _ _ n (X3 _ _ n h)
  have z1n : z1 ∉ ns := fun h => by have := bn z1 h; omega
  have z2n : z2 ∉ ss := fun h => by have := bs z2 h; omega
  have L0 : Lv d H4 H4 [] := Lv.start S4
  refine ⟨_, rfl, two_le, fun r1 hr1 => ?_⟩
  have L1 := L0.new hr1 (.tup [.int 1, ov])
  generalize upd H4 r1 (.tup [.int 1, ov]) = M1 at L1 ⊢
  refine ⟨_, rfl, two_le, fun r2 hr2 => ?_⟩
  have L2 := L1.new hr2 (.tup [.int 1, .int z1])
  generalize upd M1 r2 (.tup [.int 1, .int z1]) = M2 at L2 ⊢
  refine ⟨_, rfl, two_le, fun r3 hr3 => ?_⟩
  have L3 := L2.new hr3 (.tup [.int 3, ov])
  generalize upd M2 r3 (.tup [.int 3, ov]) = M3 at L3 ⊢
  refine ⟨_, rfl, two_le, fun r4 hr4 => ?_⟩
  have L4 := L3.new hr4 (.tup [.int 3, .int z2])
  generalize upd M3 r4 (.tup [.int 3, .int z2]) = M4 at L4 ⊢
  refine ⟨_, rfl, two_le, fun r5 hr5 => ?_⟩
  have L5 := L4.new hr5 (.tup [.int 0, ov])
  generalize upd M4 r5 (.tup [.int 0, ov]) = M5 at L5 ⊢
  refine ⟨_, rfl, two_le, fun r6 hr6 => ?_⟩
  have L6 := L5.new hr6 (.tup [.int 2, ov])
  generalize upd M5 r6 (.tup [.int 2, ov]) = M6 at L6 ⊢
  refine ⟨(by show 6 ≤ sizeLine; decide), fun ro hro => ?_⟩
  have rod : ro ≠ d := L6.D.out hro
  have g7 := Same.new hro (.lst [.ref r1, .ref r2, .ref r3, .ref r4, .ref r5, .ref r6])
  have e7 : upd M6 ro (.lst [.ref r1, .ref r2, .ref r3, .ref r4, .ref r5, .ref r6]) ro = some (.lst [.ref r1, .ref r2, .ref r3, .ref r4, .ref r5, .ref r6]) := upd_same
  have toM : Same (msk (S1 d) M6) (msk (S2 d ro) (upd M6 ro (.lst [.ref r1, .ref r2, .ref r3, .ref r4, .ref r5, .ref r6]))) := fun c o h => by
   obtain ⟨n, h⟩ := msk_some h
   have nr : c ≠ ro := ne_of_none h hro
   rw [msk_in (S := S2 d ro) (fun z => z.elim n nr), upd_ne nr]
   exact h
  have X46 : Ex (· = d) H4 (upd M6 ro (.lst [.ref r1, .ref r2, .ref r3, .ref r4, .ref r5, .ref r6])) := fun c o n h => g7 _ _ (msk_le _ _ (L6.G _ _ (by rw [msk_in (S := S1 d) n]; exact h)))
  have rs0 : RS d ro ns ss (upd M6 ro (.lst [.ref r1, .ref r2, .ref r3, .ref r4, .ref r5, .ref r6])) (upd M6 ro (.lst [.ref r1, .ref r2, .ref r3, .ref r4, .ref r5, .ref r6])) 6 := by
   refine ⟨L6.D.ex g7, Ex.refl, _, e7, Nat.le_refl _, fun r hr => ?_⟩
   have hOm : Dat (msk (S2 d ro) (upd M6 ro (.lst [.ref r1, .ref r2, .ref r3, .ref r4, .ref r5, .ref r6]))) ov dO := (hO.same L6.G).same toM
   simp only [List.mem_cons, List.not_mem_nil, or_false] at hr
   rcases hr with e | e | e | e | e | e
   ·exact ⟨r1, 1, ov, dO, e, toM _ _ (L6.m (by repeat (first | exact List.mem_cons_self | apply List.mem_cons_of_mem))), by decide, by decide, hOm, due_odd ok nO 1⟩
   ·exact ⟨r2, 1, .int z1, _, e, toM _ _ (L6.m (by repeat (first | exact List.mem_cons_self | apply List.mem_cons_of_mem))), by decide, by decide, .int z1, due_out z1n⟩
   ·exact ⟨r3, 3, ov, dO, e, toM _ _ (L6.m (by repeat (first | exact List.mem_cons_self | apply List.mem_cons_of_mem))), by decide, by decide, hOm, due_odd ok nO 3⟩
   ·exact ⟨r4, 3, .int z2, _, e, toM _ _ (L6.m (by repeat (first | exact List.mem_cons_self | apply List.mem_cons_of_mem))), by decide, by decide, .int z2, due_outS z2n⟩
   ·exact ⟨r5, 0, ov, dO, e, toM _ _ (L6.m (by repeat (first | exact List.mem_cons_self | apply List.mem_cons_of_mem))), by decide, by decide, hOm, due_odd ok nO 0⟩
   ·exact ⟨r6, 2, ov, dO, e, toM _ _ (L6.m (by repeat (first | exact List.mem_cons_self | apply List.mem_cons_of_mem))), by decide, by decide, hOm, due_odd ok nO 2⟩
  generalize upd M6 ro (.lst [.ref r1, .ref r2, .ref r3, .ref r4, .ref r5, .ref r6]) = HA at g7 e7 toM X46 rs0 ⊢
  have EA := E4.trans X46
  have fix : ∀ {H' : Hp} {n : Nat}, RS d ro ns ss HA H' n → IsPl H' t a b ns ss ∧ Kp H' C k dx ka kb ns ss := fun {H' n} r => by
   have mvv : ∀ {c : Addr} {o : HO}, c ≠ d → H c = some o → H' c = some o := fun {c o} n h => by
    have h4 := E4 c o n h
    have h6 := msk_le _ _ (L6.G _ _ (show msk (S1 d) H4 c = some o by rw [msk_in (S := S1 d) n]; exact h4))
    exact r.E c o (fun z => z.elim n (ne_of_none h6 hro)) (X46 c o n h4)
   exact ⟨⟨mvv td pl0.t, mvv ad pl0.a, mvv bd pl0.b, ok⟩, ⟨mvv kd_ kp0.k, mvv kad kp0.a, mvv kbd kp0.b, ok⟩⟩
  have back : ∀ {H' : Hp} {n : Nat}, RS d ro ns ss HA H' n → Ex (· = d) H H' := fun {H' n} r c o nc h => by
   have h4 := E4 c o nc h
   have h6 := msk_le _ _ (L6.G _ _ (show msk (S1 d) H4 c = some o by rw [msk_in (S := S1 d) nc]; exact h4))
   exact r.E c o (fun z => z.elim nc (ne_of_none h6 hro)) (X46 c o nc h4)
  clear L0 L1 L2 L3 L4 L5
  dsimp only [gName]
  refine seq_postT (fun σ' H' => σ' = [some (.ref d), some (.ref k), some (.ref t), some (.ref a), some (.ref b), some (.int (0 + (i : Int))), some ov, some (.int x1), some (.int y1), some (.int z1), some (.int x2), some (.int y2), some (.int z2), some (.ref ro), y14, y15] ∧ RS d ro ns ss HA H' 7) (fun N hN => ?_) ?_
  ·obtain ⟨plB, kpB⟩ := fix rs0
   obtain ⟨rsB, eB, lB, _⟩ := rs0.R
   refine ⟨_, rfl, _, rfl, a, x1, ns, rfl, rfl, SqL.of plB.a, _, rfl, ite2 (fun c => ?_) (fun c => hN _ _ ⟨rfl, rs0.mono (by decide)⟩)⟩
   refine ⟨_, rfl, .inl ⟨rfl, _, SqL.of eB⟩, _, rfl, two_le, fun q_ hq_ => ?_⟩
   obtain ⟨rs_, ea_, la_, ad_⟩ := rs0.add (kd := 0) (x := x1) hq_ (by decide) (by decide) (due_in (List.contains_iff_mem.mp c)) (by decide)
   exact ⟨ro, _, _, rfl, rfl, ea_, la_, hN _ _ ⟨rfl, ad_⟩⟩
  rintro σ HB ⟨rfl, rs1⟩
  refine seq_postT (fun σ' H' => σ' = [some (.ref d), some (.ref k), some (.ref t), some (.ref a), some (.ref b), some (.int (0 + (i : Int))), some ov, some (.int x1), some (.int y1), some (.int z1), some (.int x2), some (.int y2), some (.int z2), some (.ref ro), y14, y15] ∧ RS d ro ns ss HA H' 8) (fun N hN => ?_) ?_
  ·obtain ⟨plB, kpB⟩ := fix rs1
   obtain ⟨rsB, eB, lB, _⟩ := rs1.R
   refine ⟨_, rfl, _, rfl, a, y1, ns, rfl, rfl, SqL.of plB.a, _, rfl, ite2 (fun c => ?_) (fun c => hN _ _ ⟨rfl, rs1.mono (by decide)⟩)⟩
   refine ⟨_, rfl, .inl ⟨rfl, _, SqL.of eB⟩, _, rfl, two_le, fun q_ hq_ => ?_⟩
   obtain ⟨rs_, ea_, la_, ad_⟩ := rs1.add (kd := 1) (x := y1) hq_ (by decide) (by decide) (due_out hy1) (by decide)
   exact ⟨ro, _, _, rfl, rfl, ea_, la_, hN _ _ ⟨rfl, ad_⟩⟩
  rintro σ HB ⟨rfl, rs2⟩
  refine seq_postT (fun σ' H' => σ' = [some (.ref d), some (.ref k), some (.ref t), some (.ref a), some (.ref b), some (.int (0 + (i : Int))), some ov, some (.int x1), some (.int y1), some (.int z1), some (.int x2), some (.int y2), some (.int z2), some (.ref ro), y14, y15] ∧ RS d ro ns ss HA H' 9) (fun N hN => ?_) ?_
  ·obtain ⟨plB, kpB⟩ := fix rs2
   obtain ⟨rsB, eB, lB, _⟩ := rs2.R
   refine ⟨_, rfl, _, rfl, b, x2, ss, rfl, rfl, SqL.of plB.b, _, rfl, ite2 (fun c => ?_) (fun c => hN _ _ ⟨rfl, rs2.mono (by decide)⟩)⟩
   refine ⟨_, rfl, .inl ⟨rfl, _, SqL.of eB⟩, _, rfl, two_le, fun q_ hq_ => ?_⟩
   obtain ⟨rs_, ea_, la_, ad_⟩ := rs2.add (kd := 2) (x := x2) hq_ (by decide) (by decide) (due_inS (List.contains_iff_mem.mp c)) (by decide)
   exact ⟨ro, _, _, rfl, rfl, ea_, la_, hN _ _ ⟨rfl, ad_⟩⟩
  rintro σ HB ⟨rfl, rs3⟩
  refine seq_postT (fun σ' H' => σ' = [some (.ref d), some (.ref k), some (.ref t), some (.ref a), some (.ref b), some (.int (0 + (i : Int))), some ov, some (.int x1), some (.int y1), some (.int z1), some (.int x2), some (.int y2), some (.int z2), some (.ref ro), y14, y15] ∧ RS d ro ns ss HA H' 10) (fun N hN => ?_) ?_
  ·obtain ⟨plB, kpB⟩ := fix rs3
   obtain ⟨rsB, eB, lB, _⟩ := rs3.R
   refine ⟨_, rfl, _, rfl, b, y2, ss, rfl, rfl, SqL.of plB.b, _, rfl, ite2 (fun c => ?_) (fun c => hN _ _ ⟨rfl, rs3.mono (by decide)⟩)⟩
   refine ⟨_, rfl, .inl ⟨rfl, _, SqL.of eB⟩, _, rfl, two_le, fun q_ hq_ => ?_⟩
   obtain ⟨rs_, ea_, la_, ad_⟩ := rs3.add (kd := 3) (x := y2) hq_ (by decide) (by decide) (due_outS hy2) (by decide)
   exact ⟨ro, _, _, rfl, rfl, ea_, la_, hN _ _ ⟨rfl, ad_⟩⟩
  rintro σ HB ⟨rfl, rs4⟩
  refine seq_postT (fun σ' H' => σ' = [some (.ref d), some (.ref k), some (.ref t), some (.ref a), some (.ref b), some (.int (0 + (i : Int))), some ov, some (.int x1), some (.int y1), some (.int z1), some (.int x2), some (.int y2), some (.int z2), some (.ref ro), y14, y15] ∧ RS d ro ns ss HA H' 11) (fun N hN => ?_) ?_
  ·obtain ⟨plB, kpB⟩ := fix rs4
   obtain ⟨rsB, eB, lB, _⟩ := rs4.R
   refine ⟨_, rfl, a, _, rfl, .inl (SqL.of plB.a), rfl, _, rfl, ite2 (fun c => ?_) (fun c => hN _ _ ⟨rfl, rs4.mono (by decide)⟩)⟩
   have c1 : ns.length = 1 := by have := V.int.inj (of_decide_eq_true c); rw [nml] at this; omega
   obtain ⟨x0, hx0, _⟩ := pick_int ns (r := 0) (by decide) (by omega)
   refine ⟨_, rfl, .inl ⟨rfl, _, SqL.of eB⟩, _, rfl, a, _, 0, _, rfl, rfl, SqL.of plB.a, hx0, two_le, fun q_ hq_ => ?_⟩
   obtain ⟨rs_, ea_, la_, ad_⟩ := rs4.add (kd := 1) (x := x0) hq_ (by decide) (by decide) (due_last c1) (by decide)
   exact ⟨ro, _, _, rfl, rfl, ea_, la_, hN _ _ ⟨rfl, ad_⟩⟩
  rintro σ HB ⟨rfl, rs5⟩
  refine seq_postT (fun σ' H' => σ' = [some (.ref d), some (.ref k), some (.ref t), some (.ref a), some (.ref b), some (.int (0 + (i : Int))), some ov, some (.int x1), some (.int y1), some (.int z1), some (.int x2), some (.int y2), some (.int z2), some (.ref ro), y14, y15] ∧ RS d ro ns ss HA H' 12) (fun N hN => ?_) ?_
  ·obtain ⟨plB, kpB⟩ := fix rs5
   obtain ⟨rsB, eB, lB, _⟩ := rs5.R
   refine ⟨_, rfl, a, _, rfl, .inl (SqL.of plB.a), rfl, _, rfl, ite2 (fun c => ?_) (fun c => hN _ _ ⟨rfl, rs5.mono (by decide)⟩)⟩
   have c1 : ns.length = 10 := by have := V.int.inj (of_decide_eq_true c); rw [nml] at this; omega
   refine ⟨_, rfl, .inl ⟨rfl, _, SqL.of eB⟩, _, rfl, _, rfl, two_le, fun l_ hl_ => ?_⟩
   have gl_ := Same.new hl_ (.lst [.int y1, .int z1])
   have ld_ : l_ ≠ d := rs5.S.out hl_
   have rl_ := rs5.new gl_
   refine ⟨_, rfl, d, _, rfl, rl_.S, by decide, by decide, fun rr HC rr0 rr1 SC oC => ?_⟩
   have rc_ := rl_.draw rod SC oC
   obtain ⟨x0, hx0, _⟩ := pick_int [y1, z1] rr0 rr1
   refine ⟨l_, _, _, _, rfl, rfl, SqL.of ((oC l_ ld_).trans upd_same), hx0, two_le, fun q_ hq_ => ?_⟩
   obtain ⟨rs_, ea_, la_, ad_⟩ := rc_.add (kd := 0) (x := x0) hq_ (by decide) (by decide) (due_full c1) (by decide)
   exact ⟨ro, _, _, rfl, rfl, ea_, la_, hN _ _ ⟨rfl, ad_⟩⟩
  rintro σ HB ⟨rfl, rs6⟩
  refine seq_postT (fun σ' H' => σ' = [some (.ref d), some (.ref k), some (.ref t), some (.ref a), some (.ref b), some (.int (0 + (i : Int))), some ov, some (.int x1), some (.int y1), some (.int z1), some (.int x2), some (.int y2), some (.int z2), some (.ref ro), y14, y15] ∧ RS d ro ns ss HA H' 13) (fun N hN => ?_) ?_
  ·obtain ⟨plB, kpB⟩ := fix rs6
   obtain ⟨rsB, eB, lB, _⟩ := rs6.R
   refine ⟨_, rfl, b, _, rfl, .inl (SqL.of plB.b), rfl, _, rfl, ite2 (fun c => ?_) (fun c => hN _ _ ⟨rfl, rs6.mono (by decide)⟩)⟩
   have c1 : ss.length = 10 := by have := V.int.inj (of_decide_eq_true c); rw [sml] at this; omega
   refine ⟨_, rfl, .inl ⟨rfl, _, SqL.of eB⟩, _, rfl, _, rfl, two_le, fun l_ hl_ => ?_⟩
   have gl_ := Same.new hl_ (.lst [.int y2, .int z2])
   have ld_ : l_ ≠ d := rs6.S.out hl_
   have rl_ := rs6.new gl_
   refine ⟨_, rfl, d, _, rfl, rl_.S, by decide, by decide, fun rr HC rr0 rr1 SC oC => ?_⟩
   have rc_ := rl_.draw rod SC oC
   obtain ⟨x0, hx0, _⟩ := pick_int [y2, z2] rr0 rr1
   refine ⟨l_, _, _, _, rfl, rfl, SqL.of ((oC l_ ld_).trans upd_same), hx0, two_le, fun q_ hq_ => ?_⟩
   obtain ⟨rs_, ea_, la_, ad_⟩ := rc_.add (kd := 2) (x := x0) hq_ (by decide) (by decide) (due_fullS c1) (by decide)
   exact ⟨ro, _, _, rfl, rfl, ea_, la_, hN _ _ ⟨rfl, ad_⟩⟩
  rintro σ HB ⟨rfl, rs7⟩
  obtain ⟨plB, kpB⟩ := fix rs7
  obtain ⟨rl, eB, lB, rB⟩ := rs7.R
  refine ⟨_, rfl, ro, rfl, ⟨_, SqL.of eB⟩, ?_⟩
  refine for_list (xs := rl) (fun j σ H' => ∃ (u14 u15 : Option V), σ = [some (.ref d), some (.ref k), some (.ref t), some (.ref a), some (.ref b), some (.int (0 + (i : Int))), some ov, some (.int x1), some (.int y1), some (.int z1), some (.int x2), some (.int y2), some (.int z2), some (.ref ro), u14, u15] ∧ Same HB H') ⟨_, _, rfl, Same.rfl'⟩ (fun j σ H' _ ⟨_, _, _, g⟩ => SqL.of (g _ _ eB)) ?_ ?_
  ·rintro j rv σ HC hrv ⟨u14, u15, rfl, gC⟩
   obtain ⟨qq, kd, v, dd, rfl, hqq, k0, k4, hv, du⟩ := rB rv (List.mem_of_getElem? hrv)
   have hqC := gC _ _ (msk_le _ _ hqq)
   have hvC := (hv.same msk_le).same gC
   have plC := plB.same gC
   have kpC := kpB.same gC
   obtain ⟨w1, w2⟩ := due_word ok k0 k4 du
   refine ⟨(by show 4 ≤ sizeLine; decide), fun l hl => ?_⟩
   have gl := Same.new hl (.lst [.str "number", .str "number", .str "sum", .str "sum"])
   have el : upd HC l (.lst [.str "number", .str "number", .str "sum", .str "sum"]) l = some (.lst [.str "number", .str "number", .str "sum", .str "sum"]) := upd_same
   generalize upd HC l (.lst [.str "number", .str "number", .str "sum", .str "sum"]) = HD at gl el ⊢
   have hat : atI [V.str "number", .str "number", .str "sum", .str "sum"] kd = some (.str (wordK kd)) := by
    rcases (show kd = 0 ∨ kd = 1 ∨ kd = 2 ∨ kd = 3 by omega) with e | e | e | e <;> subst e <;> rfl
   refine ⟨_, rfl, qq, _, 0, _, rfl, rfl, SqT.of (gl _ _ hqC), rfl, l, _, _, _, rfl, rfl, SqL.of el, hat, ?_⟩
   have gCD := gC.trans gl
   have plD := plB.same gCD
   have kpD := kpB.same gCD
   have hqD := gl _ _ hqC
   have hvD := hvC.same gl
   dsimp only [gName]
   refine seq_postT (fun σ' H' => σ' = [some (.ref d), some (.ref k), some (.ref t), some (.ref a), some (.ref b), some (.int (0 + (i : Int))), some ov, some (.int x1), some (.int y1), some (.int z1), some (.int x2), some (.int y2), some (.int z2), some (.ref ro), some (.ref qq), some (.str (if (kd = 0 ∧ ns.length = 10) ∨ (kd = 2 ∧ ss.length = 10) then ("many" : Str) else wordK kd))] ∧ H' = HD) (fun N hN => ?_) ?_
   ·by_cases z0 : kd = 0
    ·subst z0
     refine ⟨_, rfl, qq, _, 0, _, rfl, rfl, SqT.of hqD, rfl, rfl, _, rfl, iteT ?_⟩
     refine ⟨_, rfl, a, _, rfl, .inl (SqL.of plD.a), rfl, _, rfl, ite2 (fun c => ?_) (fun c => ?_)⟩
     ·have c1 : ns.length = 10 := by have := V.int.inj (of_decide_eq_true c); rw [nml] at this; omega
      refine hN _ _ ⟨?_, rfl⟩
      rw [if_pos (.inl ⟨rfl, c1⟩)]
      rfl
     ·have c1 : ns.length ≠ 10 := fun h => c (decide_eq_true (by rw [nml, h]; rfl))
      refine ⟨_, rfl, qq, _, 0, _, rfl, rfl, SqT.of hqD, rfl, rfl, _, rfl, iteF (hN _ _ ⟨?_, rfl⟩)⟩
      (first | (rw [if_neg (by omega)]; done) | (rw [if_neg (by omega)]; rfl))
    ·have e0 : decide (V.int kd = V.int 0) = false := decide_eq_false fun h => z0 (V.int.inj h)
     refine ⟨_, rfl, qq, _, 0, _, rfl, rfl, SqT.of hqD, rfl, rfl, _, rfl, ?_⟩
     rw [e0]
     refine iteF ?_
     by_cases z2 : kd = 2
     ·subst z2
      refine ⟨_, rfl, qq, _, 0, _, rfl, rfl, SqT.of hqD, rfl, rfl, _, rfl, iteT ?_⟩
      refine ⟨_, rfl, b, _, rfl, .inl (SqL.of plD.b), rfl, _, rfl, ite2 (fun c => ?_) (fun c => ?_)⟩
      ·have c1 : ss.length = 10 := by have := V.int.inj (of_decide_eq_true c); rw [sml] at this; omega
       refine hN _ _ ⟨?_, rfl⟩
       rw [if_pos (.inr ⟨rfl, c1⟩)]
       rfl
      ·have c1 : ss.length ≠ 10 := fun h => c (decide_eq_true (by rw [sml, h]; rfl))
       refine hN _ _ ⟨?_, rfl⟩
       (first | (rw [if_neg (by omega)]; done) | (rw [if_neg (by omega)]; rfl))
     ·have e2 : decide (V.int kd = V.int 2) = false := decide_eq_false fun h => z2 (V.int.inj h)
      refine ⟨_, rfl, qq, _, 0, _, rfl, rfl, SqT.of hqD, rfl, rfl, _, rfl, ?_⟩
      rw [e2]
      refine iteF (hN _ _ ⟨?_, rfl⟩)
      (first | (rw [if_neg (by omega)]; done) | (rw [if_neg (by omega)]; rfl))
   rintro σ HE ⟨rfl, rfl⟩
   have dw : (dueK kd ns ss dd = 1 → V.str (if (kd = 0 ∧ ns.length = 10) ∨ (kd = 2 ∧ ss.length = 10) then ("many" : Str) else wordK kd) = .str "many") ∧ (dueK kd ns ss dd = 2 → V.str (if (kd = 0 ∧ ns.length = 10) ∨ (kd = 2 ∧ ss.length = 10) then ("many" : Str) else wordK kd) = .str (wordK kd)) :=
    ⟨fun h => by rw [if_pos (w1 h)], fun h => by rw [if_neg (w2 h)]⟩
   have fin : ∀ H', Same HE H' → Same HB H' := fun H' g => gCD.trans g
   refine ⟨_, rfl, _, rfl, _, rfl, k, dx, ka, kb, qq, ns, ss, kd, v, _, dd, rfl, kpD, hqD, k0, k4, hvD, fun c1 => ⟨dw.1 c1, fun H' g => ?_⟩, fun c2 => ⟨dw.2 c2, fun H' g => ?_⟩, fun c0 => absurd c0 du⟩
   ·exact ⟨_, rfl, rfl, _, rfl, ite2 (fun c => absurd c (by simp)) (fun _ => ⟨_, _, rfl, fin _ g⟩)⟩
   ·exact ⟨_, rfl, rfl, _, rfl, ite2 (fun c => absurd c (by simp)) (fun _ => ⟨_, _, rfl, fin _ g⟩)⟩
  ·rintro σ HC ⟨u14, u15, rfl, gC⟩
   have rz := rs7.new gC
   exact ⟨_, _, _, _, _, _, _, _, _, _, _, rfl, rz.S, back rz⟩
 ·rintro σ H1 ⟨y5, y6, y7, y8, y9, y10, y11, y12, y13, y14, y15, rfl, S1', E1⟩
  exact q _ S1' E1
end
abbrev sCopy : Stmt := top 48
abbrev sLaw : Stmt := top 57
structure BtL (mg : Str → Option Value) : Prop extends Bt3 mg where
 repr : mg "repr" = none
def spCopy : Sp := fun vs H Q _ => ∃ (t a b : Addr) (ns ss : List Int), vs = [.ref t] ∧ IsPl H t a b ns ss ∧ ∀ (t' a' b' : Addr) (H' : Hp), Same H H' → H t' = none → H a' = none → H b' = none → a' ≠ b' → IsPl H' t' a' b' ns ss → Q (.ref t') H'
def spLaw (K : PySem.W.Frag) : Sp := fun vs H Q _ => ∃ (a : Addr) (ns : List Int), vs = [.ref a] ∧ SqL K H a (ns.map V.int) ∧ ns.length ≤ 63 ∧ ∀ H', Q (.bl true) H'
def fstD (ns ss : List Int) : PyData := if hasW ns ss false = true then .list ((rowW ns ss false).map PyData.int) else .none
theorem fst_flat (n : Nat) (ns ss : List Int) : flatD (n + 1) (fstD ns ss) = true := by
 unfold fstD
 split
 ·exact flat_list n _
 ·rfl
def allDt (ns ss : List Int) : List PyData := [planDt ns ss, .int (cntW ns ss false : Nat), fstD ns ss]
theorem all_flat (ns ss : List Int) : (allDt ns ss).all (flatD 4) = true := by
 unfold allDt
 simp only [List.all_cons, List.all_nil, flat_plan 2, fst_flat 3, Bool.and_true, Bool.true_and]
 rfl
def FstV (d : Addr) (H : Hp) (v : V) (ns ss : List Int) : Prop := (hasW ns ss false = false ∧ v = .non) ∨ (hasW ns ss false = true ∧ ∃ l, v = .ref l ∧ l ≠ d ∧ H l = some (.lst ((rowW ns ss false).map V.int)))
theorem FstV.ex {d : Addr} {H H' : Hp} {v : V} {ns ss : List Int} (h : FstV d H v ns ss) (e : Ex (· = d) H H') : FstV d H' v ns ss :=
 h.imp id fun ⟨h1, l, e1, n, h2⟩ => ⟨h1, l, e1, n, e _ _ n h2⟩
theorem FstV.dat {d : Addr} {H : Hp} {v : V} {ns ss : List Int} (h : FstV d H v ns ss) : Dat H v (fstD ns ss) := by
 rcases h with ⟨hw, rfl⟩ | ⟨hw, l, rfl, _, el⟩
 ·unfold fstD; rw [hw]; exact .non
 ·unfold fstD; rw [hw]; exact dat_ints el
theorem first_any {C d : Addr} {vs : List V} {H : Hp} {Q : VK} {E : XK} {k dx a b : Addr} {ns ss : List Int} (e : vs = [.ref k]) (kp : Kp H C k dx a b ns ss) (S : StT H d) (h : ∀ v H', Same H H' → FstV d H' v ns ss → Q v H') : spKFi C vs H Q E :=
 ⟨k, dx, a, b, ns, ss, e, kp, fun hw H' g => h _ _ g (.inl ⟨hw, rfl⟩), fun hw l H' g hl el => h _ _ g (.inr ⟨hw, l, rfl, S.out hl, el⟩)⟩
theorem tnil {σ : L2.St} {H : Hp} {Q : List V → Hp → Prop} (h : Q [] H) : tNil σ H Q := h
theorem dat_all {H : Hp} {t a b : Addr} {v : V} {ns ss : List Int} {d : Addr} (pl : IsPl H t a b ns ss) (f : FstV d H v ns ss) : DatAll H [.ref t, .int (cntW ns ss false : Nat), v] (allDt ns ss) :=
 .cons (dat_plan pl.t pl.a pl.b) (.cons (.int _) (.cons f.dat .nil))
def AllAt (H : Hp) (d l : Addr) (ns ss : List Int) : Prop := ∃ (t x y : Addr) (fv : V), H l = some (.lst [.ref t, .int (cntW ns ss false : Nat), fv]) ∧ IsPl H t x y ns ss ∧ FstV d H fv ns ss ∧ l ≠ d ∧ t ≠ d ∧ x ≠ d ∧ y ≠ d
theorem AllAt.ex2 {H H' : Hp} {C d k dx l : Addr} {fs : List (Str × V)} {ns ss : List Int} (h : AllAt H d l ns ss) (hk : H k = some (.ins C dx fs)) (e : Ex2 d k H H') : AllAt H' d l ns ss := by
 obtain ⟨t, x, y, fv, h1, p, f, n1, n2, n3, n4⟩ := h
 have mv : ∀ {c : Addr} {o : HO}, c ≠ d → (∀ C dx fs, o ≠ .ins C dx fs) → H c = some o → H' c = some o := fun hc ho q => e _ _ (fun z => z.elim hc fun z => by rw [z, hk] at q; exact ho _ _ _ (Option.some.inj q).symm) q
 refine ⟨t, x, y, fv, mv n1 (fun _ _ _ z => nomatch z) h1, ⟨mv n2 (fun _ _ _ z => nomatch z) p.t, mv n3 (fun _ _ _ z => nomatch z) p.a, mv n4 (fun _ _ _ z => nomatch z) p.b, p.ok⟩, ?_, n1, n2, n3, n4⟩
 rcases f with f | ⟨hw, l1, e1, n, q⟩
 ·exact .inl f
 ·exact .inr ⟨hw, l1, e1, n, mv n (fun _ _ _ z => nomatch z) q⟩
theorem AllAt.same {H H' : Hp} {d l : Addr} {ns ss : List Int} (h : AllAt H d l ns ss) (g : Same H H') : AllAt H' d l ns ss := by
 obtain ⟨t, x, y, fv, h1, p, f, n⟩ := h
 exact ⟨t, x, y, fv, g _ _ h1, p.same g, f.ex (Ex.same g), n⟩
theorem AllAt.rc {K : PySem.W.Frag} {H : Hp} {d l l' : Addr} {ns ss : List Int} (h : AllAt H d l ns ss) (h' : AllAt H d l' ns ss) : RcV K H (.ref l) (.ref l') true := by
 obtain ⟨t, x, y, fv, h1, p, f, _⟩ := h
 obtain ⟨t', x', y', fv', h1', p', f', _⟩ := h'
 exact rcv_datL (all_flat ns ss) h1 (dat_all p f) h1' (dat_all p' f')
theorem aI0 {l : List V} {v : V} (h : l[0]? = some v) : atI l 0 = some v := atI_nat (j := 0) h
theorem aI1 {l : List V} {v : V} (h : l[1]? = some v) : atI l 1 = some v := atI_nat (j := 1) h
theorem take_ok {ns ss : List Int} (ok : PlanOk ns ss) {m : Nat} (h : 1 ≤ m) : PlanOk (ns.take m) ss :=
 ⟨⟨ok.n.up.sublist (List.take_sublist _ _), fun x hx => ok.n.bd x (List.mem_of_mem_take hx)⟩, ok.s, by rw [List.length_take]; have := ok.n1; omega, by rw [List.length_take]; have := ok.n2; omega, ok.s2⟩
theorem cut_to (ns : List Int) (m : Nat) : cutV (ns.map V.int) none (some (m : Int)) = (ns.take m).map V.int := by
 unfold cutV
 rw [HT.sIx_none, HT.sIx_nat]
 simp [List.map_take]
theorem ins_del {x : Int} {l : List Int} (h : l.Pairwise (· < ·)) (n : x ∈ l) : insI x (delI x l) = l := by
 have nx : x ∉ delI x l := fun z => by
  have := (List.mem_filter.mp z).2
  simp at this
 refine rise_eq (insI_rise (h.filter _) nx) h fun z => ?_
 unfold delI
 rw [insI_mem, List.mem_filter, decide_eq_true_eq]
 exact ⟨fun q => q.elim (fun e => by rw [e]; exact n) (·.1), fun q => by by_cases e : z = x; exact .inl e; exact .inr ⟨q, e⟩⟩
theorem rcv_plan {K : PySem.W.Frag} {H : Hp} {t a b t' a' b' : Addr} {ns ss : List Int} (p : IsPl H t a b ns ss) (p' : IsPl H t' a' b' ns ss) : RcV K H (.ref t) (.ref t') true :=
 rcv_datT (ds := [.list (ns.map PyData.int), .list (ss.map PyData.int)]) (by simp only [List.all_cons, List.all_nil, flat_list, Bool.and_self]) p.t (.cons (dat_ints p.a) (.cons (dat_ints p.b) .nil)) p'.t (.cons (dat_ints p'.a) (.cons (dat_ints p'.b) .nil))
theorem ex_msk {d : Addr} {H H' : Hp} (g : Same (msk (S1 d) H) (msk (S1 d) H')) : Ex (· = d) H H' := fun b o n h => msk_le _ _ (g b o (by rw [msk_in (S := S1 d) n]; exact h))
theorem same_ex {x : Addr} {H3 H H' : Hp} (g : Same H3 H) (e : Ex (· = x) H H') (n : H3 x = none) : Same H3 H' := fun b o h => e b o (ne_of_none h n) (g _ _ h)
theorem IsPl.um {H : Hp} {d t a b : Addr} {ns ss : List Int} (p : IsPl (msk (S1 d) H) t a b ns ss) : IsPl H t a b ns ss := p.same msk_le
theorem IsPl.dd {H : Hp} {d t a b : Addr} {ns ss : List Int} (p : IsPl (msk (S1 d) H) t a b ns ss) : t ≠ d ∧ a ≠ d ∧ b ≠ d :=
 ⟨(msk_some p.t).1, (msk_some p.a).1, (msk_some p.b).1⟩
section
variable {f g1 g2 g3 g4 g5 g6 g7 g8 C ki pl ct fi sc sg XT XU : Addr} {fd gd1 gd2 gd3 gd4 gd5 gd6 gd7 gd8 kid pld ctd fid scd sgd : FuncData}
theorem scCopy : FnScope ["plan"] ["plan"] (defScope sCopy) := ⟨rfl, rfl, rfl, by decide +kernel, rfl, by decide +kernel, by decide +kernel⟩
theorem ok_copy (F : Fun K "_law_copy" "_law_copy" sCopy f fd) (B : Bt2 mg) : FnOk P w K mg base CX0 1 f fd ["plan"] spCopy := by
 refine F.ok scCopy (fun vs H Q E h => ?_) (fun cdv A outer s H vs Q E hr h => ?_)
 ·obtain ⟨t, a, b, ns, ss, rfl, _⟩ := h
  rfl
 obtain ⟨t, a, b, ns, ss, rfl, pl, q⟩ := h
 refine ⟨_, (@pss_one _ _ _ (ps_ret (pe_tup (pa_cons (pe_callTy call_list_of rfl B.list PyProof.Rows.boot_list (pa_cons (pe_ix ix_tup (pv 0) pe_int (fun _ _ => rfl)) pa_nil)) (pa_cons (pe_callTy call_list_of rfl B.list PyProof.Rows.boot_list (pa_cons (pe_ix ix_tup (pv 0) pe_int (fun _ _ => rfl)) pa_nil)) pa_nil))))), ?_⟩
 refine ⟨_, rfl, t, _, 0, _, rfl, rfl, SqT.of pl.t, rfl, a, _, rfl, .inl (SqL.of pl.a), fun a' ha => ?_⟩
 have s1 := Same.new ha (.lst (ns.map V.int))
 have p1 := pl.same s1
 refine ⟨_, rfl, t, _, 1, _, rfl, rfl, SqT.of p1.t, rfl, b, _, rfl, .inl (SqL.of p1.b), fun b' hb => ⟨two_le, fun t' ht => ?_⟩⟩
 have s2 := Same.new hb (.lst (ss.map V.int))
 have s3 := Same.new ht (.tup [.ref a', .ref b'])
 exact q t' a' b' _ (s1.trans (s2.trans s3)) (none_of_same (s1.trans s2) ht) ha (none_of_same s1 hb) (ne_of_none upd_same hb) ⟨upd_same, s3 _ _ (s2 _ _ upd_same), s3 _ _ upd_same, pl.ok⟩
theorem scLaw : FnScope ["script", "at", "store", "numbers", "sums", "way", "plans", "plan", "bad", "kept", "keeper", "early"] ["script"] (defScope sLaw) := ⟨rfl, rfl, rfl, by decide +kernel, rfl, by decide +kernel, by decide +kernel⟩
set_option maxHeartbeats 0 in
theorem ok_law (F : Fun K "law" "law" sLaw f fd) (B : BtL mg) (T : KpT K C)
  (MK : Mk K C ki) (mK : mg "Keeper" = some (.ref C)) (GK : FnOk P w K mg base CX0 30 ki kid ["self", "plan"] (spKIn C)) (bK : Binds K kid ["self", "plan"] [])
  (mPl : Meth K C "plan" pl) (GPl : FnOk P w K mg base CX0 31 pl pld ["self"] (spKPl C)) (bPl : Binds K pld ["self"] [])
  (mCt : Meth K C "count" ct) (GCt : FnOk P w K mg base CX0 31 ct ctd ["self"] (spKCt C)) (bCt : Binds K ctd ["self"] [])
  (mFi : Meth K C "first" fi) (GFi : FnOk P w K mg base CX0 31 fi fid ["self"] (spKFi C)) (bFi : Binds K fid ["self"] [])
  (mSc : Meth K C "sum_comes" sc) (GSc : FnOk P w K mg base CX0 31 sc scd ["self", "number"] (noE (spDeed C XT XU dueSc aftSc))) (bSc : Binds K scd ["self", "number"] [])
  (mSg : Meth K C "sum_goes" sg) (GSg : FnOk P w K mg base CX0 31 sg sgd ["self", "number"] (noE (spDeed C XT XU dueSg aftSg))) (bSg : Binds K sgd ["self", "number"] [])
  (GC : FnOk P w K mg base CX0 31 g1 gd1 ["script", "k"] (spCell K)) (bC : Binds K gd1 ["script", "k"] []) (kC : Kee K g1) (mC : mg "_law_cell" = some (.ref g1))
  (GS : FnOk P w K mg base CX0 31 g2 gd2 ["cell"] spStT) (bS : Binds K gd2 ["cell"] []) (kS : Kee K g2) (mS : mg "_law_store" = some (.ref g2))
  (GM : FnOk P w K mg base CX0 31 g3 gd3 ["store"] spPlT) (bM : Binds K gd3 ["store"] []) (kM : Kee K g3) (mM : mg "_law_plan" = some (.ref g3))
  (GT : FnOk P w K mg base CX0 31 g4 gd4 ["store", "many"] spTkT) (bT : Binds K gd4 ["store", "many"] []) (kT : Kee K g4) (mT : mg "_law_take" = some (.ref g4))
  (GN : FnOk P w K mg base CX0 31 g5 gd5 ["store", "plan"] spNopT) (bN : Binds K gd5 ["store", "plan"] []) (kN : Kee K g5) (mN : mg "_law_no_plan" = some (.ref g5))
  (GP : FnOk P w K mg base CX0 31 g6 gd6 ["plan"] spCopy) (bP : Binds K gd6 ["plan"] []) (kP : Kee K g6) (mP : mg "_law_copy" = some (.ref g6))
  (GO : FnOk P w K mg base CX0 31 g7 gd7 ["bad"] spNok) (bO : Binds K gd7 ["bad"] []) (kO : Kee K g7) (mO : mg "_law_no_keeper" = some (.ref g7))
  (GA : FnOk P w K mg base CX0 31 g8 gd8 ["store", "keeper", "plan"] (spAll C)) (bA : Binds K gd8 ["store", "keeper", "plan"] []) (kA : Kee K g8) (mA : mg "_law_all_refused" = some (.ref g8)) : FnOk P w K mg base CX0 32 f fd ["script"] (spLaw K) := by
 refine F.ok scLaw (fun vs H Q E h => ?_) (fun cdv A outer s H vs Q E hr h => ?_)
 ·obtain ⟨a, ns, rfl, _⟩ := h
  rfl
 obtain ⟨a0, ns0, rfl, hS, h63, q⟩ := h
 refine ⟨_, (@pss_cons _ _ _ _ _ (ps_for PassesOwn.never rfl (pi_range1 rfl B.range (QA.h (qa_cons (QE.mk (pe_callB (call_min2 rfl) rfl B.min boot_min (QA.h (qa_cons (QE.mk (pe_callB (call_max2 rfl) rfl B.max boot_max (QA.h (qa_cons (QE.mk (pe_callB call_len_seq rfl B.len PySem.boot_len (QA.h (qa_cons (QE.mk (pv 0)) qa_nil)))) (qa_cons (QE.mk pe_int) qa_nil))))) (qa_cons (QE.mk pe_int) qa_nil))))) qa_nil))) (pg_name (i := 1) scLaw.nd rfl (Or.inl rfl)) (@pss_cons _ _ _ _ _ (ps_set (i := 2) scLaw.nd rfl (Or.inl rfl) (pe_call GS hr rfl mS kS bS .nil pass0 (QA.h (qa_cons (QE.mk (pe_call GC hr rfl mC kC bC .nil pass0 (QA.h (qa_cons (QE.mk (pv 0)) (qa_cons (QE.mk (pv 1)) qa_nil))))) qa_nil)))) (@pss_cons _ _ _ _ _ (ps_asg (pe_call GM hr rfl mM kM bM .nil pass0 (QA.h (qa_cons (QE.mk (pv 2)) qa_nil))) (pg_tup rfl (pgs_cons (pg_name (i := 3) scLaw.nd rfl (Or.inl rfl)) (pgs_cons (pg_name (i := 4) scLaw.nd rfl (Or.inl rfl)) pgs_nil)))) (@pss_cons _ _ _ _ _ (ps_set (i := 5) scLaw.nd rfl (Or.inl rfl) (pe_call GT hr rfl mT kT bT .nil pass0 (QA.h (qa_cons (QE.mk (pv 2)) (qa_cons (QE.mk pe_int) qa_nil))))) (@pss_cons _ _ _ _ _ (ps_set (i := 6) scLaw.nd rfl (Or.inl rfl) (QE.h (qe_lst (qa_cons (qe_tup (qa_cons (QE.mk (pe_slice sl_list (pv 3) po_none (po_some pe_int))) (qa_cons (QE.mk (pv 4)) qa_nil))) (qa_cons (qe_tup (qa_cons (QE.mk (pe_slice sl_list (pv 3) po_none (po_some pe_int))) (qa_cons (QE.mk (pv 4)) qa_nil))) (qa_cons (qe_tup (qa_cons (QE.mk (pe_list_range1 rfl rfl B.range rfl B.list (QA.h (qa_cons (QE.mk pe_int) qa_nil)))) (qa_cons (QE.mk (pv 4)) qa_nil))) (qa_cons (qe_tup (qa_cons (QE.mk (pe_slice sl_list (pv 3) po_none (po_some pe_int))) (qa_cons (qe_lst qa_nil) qa_nil))) qa_nil))))))) (@pss_cons _ _ _ _ _ (ps_set (i := 7) scLaw.nd rfl (Or.inl rfl) (pe_ix ix_list (pe_op op_cat (pv 6) (pe_lst (QA.h (qa_cons (qe_tup (qa_cons (QE.mk (pe_slice sl_list (pv 3) po_none (po_some pe_int))) (qa_cons (QE.mk (pe_list_range2 rfl rfl B.range rfl B.list (QA.h (qa_cons (QE.mk pe_int) (qa_cons (QE.mk pe_int) qa_nil))))) qa_nil))) qa_nil)))) (pv 5) (fun _ _ => rfl))) (@pss_cons _ _ _ _ _ (ps_set (i := 8) scLaw.nd rfl (Or.inl rfl) (pe_call GN hr rfl mN kN bN .nil pass0 (QA.h (qa_cons (QE.mk (pv 2)) (qa_cons (QE.mk (pv 7)) qa_nil))))) (@pss_cons _ _ _ _ _ (ps_set (i := 9) scLaw.nd rfl (Or.inl rfl) (pe_callB (call_repr hr.units hr.gd) rfl B.repr boot_repr (QA.h (qa_cons (QE.mk (pv 8)) qa_nil)))) (@pss_cons _ _ _ _ _ (ps_set (i := 10) scLaw.nd rfl (Or.inl rfl) (pe_make MK GK hr rfl mK bK .nil pass0 (QA.h (qa_cons (QE.mk (pe_call GP hr rfl mP kP bP .nil pass0 (QA.h (qa_cons (QE.mk (pv 7)) qa_nil)))) qa_nil)))) (@pss_cons _ _ _ _ _ (ps_set (i := 11) scLaw.nd rfl (Or.inl rfl) (QE.h (qe_lst (qa_cons (QE.mk (pe_meth0 (pv 10) T.cl mPl GPl hr bPl .nil pass0)) (qa_cons (QE.mk (pe_meth0 (pv 10) T.cl mCt GCt hr bCt .nil pass0)) (qa_cons (QE.mk (pe_meth0 (pv 10) T.cl mFi GFi hr bFi .nil pass0)) qa_nil)))))) (@pss_cons _ _ _ _ _ (ps_if (PW.pt (pw_or (pt_not (pt_val (pe_call GO hr rfl mO kO bO .nil pass0 (QA.h (qa_cons (QE.mk (pv 8)) qa_nil))))) (pw_or1 (pt_cmpR op_ne (pe_callB (call_repr hr.units hr.gd) rfl B.repr boot_repr (QA.h (qa_cons (QE.mk (pv 8)) qa_nil))) (pv 9) (nomark _))))) (@pss_one _ _ _ (ps_ret pe_bl)) pss_nil) (@pss_cons _ _ _ _ _ (ps_if (pt_not (pt_val (pe_call GA hr rfl mA kA bA .nil pass0 (QA.h (qa_cons (QE.mk (pv 2)) (qa_cons (QE.mk (pv 10)) (qa_cons (QE.mk (pv 7)) qa_nil))))))) (@pss_one _ _ _ (ps_ret pe_bl)) pss_nil) (@pss_cons _ _ _ _ _ (ps_if (PW.pt (pw_or (pt_cmpR (op_neD hr.units) (pe_ix ix_list (pv 11) pe_int (fun _ _ => rfl)) (pv 7) (nomark _)) (pw_or1 (pt_cmpR (op_neD hr.units) (pe_lst (QA.h (qa_cons (QE.mk (pe_meth0 (pv 10) T.cl mPl GPl hr bPl .nil pass0)) (qa_cons (QE.mk (pe_meth0 (pv 10) T.cl mCt GCt hr bCt .nil pass0)) (qa_cons (QE.mk (pe_meth0 (pv 10) T.cl mFi GFi hr bFi .nil pass0)) qa_nil))))) (pv 11) (nomark _))))) (@pss_one _ _ _ (ps_ret pe_bl)) pss_nil) (@pss_cons _ _ _ _ _ (ps_if (PW.pt (pw_and (pt_cmpR op_gt (pe_callB call_len_seq rfl B.len PySem.boot_len (QA.h (qa_cons (QE.mk (pe_ix ix_tup (pv 7) pe_int (fun _ _ => rfl))) qa_nil))) pe_int (nomark _)) (pw_and1 (pt_cmpR op_ne (pe_ix ix_tup (pe_meth (pv 10) T.cl mSg GSg hr bSg .nil pass0 (QA.h (qa_cons (QE.mk (pe_ix ix_list (pe_ix ix_tup (pv 7) pe_int (fun _ _ => rfl)) pe_int (fun _ _ => rfl))) qa_nil))) pe_int (fun _ _ => rfl)) (pe_ix ix_list (pv 11) pe_int (fun _ _ => rfl)) (nomark _))))) (@pss_one _ _ _ (ps_ret pe_bl)) pss_nil) (@pss_cons _ _ _ _ _ (ps_if (PW.pt (pw_and (pt_cmpR op_gt (pe_callB call_len_seq rfl B.len PySem.boot_len (QA.h (qa_cons (QE.mk (pe_ix ix_tup (pv 7) pe_int (fun _ _ => rfl))) qa_nil))) pe_int (nomark _)) (pw_and1 (pt_cmpR op_ne (pe_ix ix_tup (pe_meth (pv 10) T.cl mSc GSc hr bSc .nil pass0 (QA.h (qa_cons (QE.mk (pe_ix ix_list (pe_ix ix_tup (pv 7) pe_int (fun _ _ => rfl)) pe_int (fun _ _ => rfl))) qa_nil))) pe_int (fun _ _ => rfl)) (pe_ix ix_list (pv 11) pe_int (fun _ _ => rfl)) (nomark _))))) (@pss_one _ _ _ (ps_ret pe_bl)) pss_nil) (@pss_one _ _ _ (ps_if (pt_cmpR (op_neD hr.units) (pe_lst (QA.h (qa_cons (QE.mk (pe_meth0 (pv 10) T.cl mPl GPl hr bPl .nil pass0)) (qa_cons (QE.mk (pe_meth0 (pv 10) T.cl mCt GCt hr bCt .nil pass0)) (qa_cons (QE.mk (pe_meth0 (pv 10) T.cl mFi GFi hr bFi .nil pass0)) qa_nil))))) (pv 11) (nomark _)) (@pss_one _ _ _ (ps_ret pe_bl)) pss_nil))))))))))))))))) (@pss_one _ _ _ (ps_ret pe_bl))), ?_⟩
 have sml : (ns0.map V.int).length = ns0.length := List.length_map _
 refine ⟨_, rfl, a0, _, rfl, .inl hS, _, _, rfl, _, _, rfl, _, rfl, by rw [sml]; split <;> split <;> omega, by rw [sml]; split <;> split <;> omega, ?_⟩
 refine for_range (lo := 0) (n := _) (fun i σ H' => ∃ (y1 y2 y3 y4 y5 y6 y7 y8 y9 y10 y11 : Option V), σ = [some (.ref a0), y1, y2, y3, y4, y5, y6, y7, y8, y9, y10, y11] ∧ Same H H') ⟨_, _, _, _, _, _, _, _, _, _, _, rfl, Same.rfl'⟩ ?_ ?_
 ·rintro i σ H3 hi ⟨y1, y2, y3, y4, y5, y6, y7, y8, y9, y10, y11, rfl, g3⟩
  have hi12 : i < 12 := by rw [sml] at hi; split at hi <;> (try split at hi) <;> omega
  refine ⟨_, rfl, _, rfl, a0, ns0, _, rfl, g3.seq hS, by omega, by omega, fun cell => ⟨cell, rfl, fun d H4 g4 nd S4 => ?_⟩⟩
  refine ⟨_, rfl, d, rfl, S4, fun t a b ns0' ss0 H5 S5 E5 nt na nb ab et ea eb ok0 bn0 bs0 => ?_⟩
  refine ⟨t, _, rfl, SqT.of et, rfl, _, _, rfl, _, _, rfl, rfl, ?_⟩
  have G5 : Same H3 H5 := fun x o hx => E5 _ _ (ne_of_none hx nd) (g4 _ _ hx)
  have ad : a ≠ d := S4.out na
  have bd : b ≠ d := S4.out nb
  refine ⟨_, rfl, d, _, rfl, S5, by decide, by decide, fun m H6 m0 m1 S6 o6 => ?_⟩
  have ha6 : msk (S1 d) H6 a = some (.lst (ns0'.map V.int)) := by rw [msk_in (S := S1 d) ad, o6 a ad]; exact ea
  have hb6 : msk (S1 d) H6 b = some (.lst (ss0.map V.int)) := by rw [msk_in (S := S1 d) bd, o6 b bd]; exact eb
  have G6 : Same H3 H6 := same_ex G5 o6.ex nd
  have L0 : Lv d H6 H6 [] := Lv.start S6
  clear et ea eb S5 o6 G5
  refine ⟨_, rfl, _, rfl, a, _, rfl, SqL.of (L0.old ha6), fun c1 hc1 => ?_⟩
  rw [show cutV (ns0'.map V.int) none (some 6) = (ns0'.take 6).map V.int from cut_to ns0' 6]
  have L1 := L0.new hc1 (.lst ((ns0'.take 6).map V.int))
  generalize upd H6 c1 (.lst ((ns0'.take 6).map V.int)) = M1 at L1 ⊢
  refine ⟨_, rfl, two_le, fun p1 hp1 => ?_⟩
  have L2 := L1.new hp1 (.tup [.ref c1, .ref b])
  generalize upd M1 p1 (.tup [.ref c1, .ref b]) = M2 at L2 ⊢
  refine ⟨_, rfl, _, rfl, a, _, rfl, SqL.of (L2.old ha6), fun c2 hc2 => ?_⟩
  rw [show cutV (ns0'.map V.int) none (some 1) = (ns0'.take 1).map V.int from cut_to ns0' 1]
  have L3 := L2.new hc2 (.lst ((ns0'.take 1).map V.int))
  generalize upd M2 c2 (.lst ((ns0'.take 1).map V.int)) = M3 at L3 ⊢
  refine ⟨_, rfl, two_le, fun p2 hp2 => ?_⟩
  have L4 := L3.new hp2 (.tup [.ref c2, .ref b])
  generalize upd M3 p2 (.tup [.ref c2, .ref b]) = M4 at L4 ⊢
  refine ⟨_, _, rfl, ⟨by decide, by decide, by decide, by decide⟩, fun c3 hc3 => ?_⟩
  rw [show ((List.range ((10 : Int) - 0).toNat).map fun k : Nat => V.int (0 + k)) = ([0, 1, 2, 3, 4, 5, 6, 7, 8, 9] : List Int).map V.int from rfl]
  have L5 := L4.new hc3 (.lst (([0, 1, 2, 3, 4, 5, 6, 7, 8, 9] : List Int).map V.int))
  generalize upd M4 c3 (.lst (([0, 1, 2, 3, 4, 5, 6, 7, 8, 9] : List Int).map V.int)) = M5 at L5 ⊢
  refine ⟨_, rfl, two_le, fun p3 hp3 => ?_⟩
  have L6 := L5.new hp3 (.tup [.ref c3, .ref b])
  generalize upd M5 p3 (.tup [.ref c3, .ref b]) = M6 at L6 ⊢
  refine ⟨_, rfl, _, rfl, a, _, rfl, SqL.of (L6.old ha6), fun c4 hc4 => ?_⟩
  rw [show cutV (ns0'.map V.int) none (some 4) = (ns0'.take 4).map V.int from cut_to ns0' 4]
  have L7 := L6.new hc4 (.lst ((ns0'.take 4).map V.int))
  generalize upd M6 c4 (.lst ((ns0'.take 4).map V.int)) = M7 at L7 ⊢
  refine ⟨(by show 0 ≤ sizeLine; decide), fun e4 he4 => ?_⟩
  have L8 := L7.new he4 (.lst (([] : List Int).map V.int))
  change Lv d H6 (upd M7 e4 (.lst [])) _ at L8
  generalize upd M7 e4 (.lst []) = M8 at L8 ⊢
  refine ⟨two_le, fun p4 hp4 => ?_⟩
  have L9 := L8.new hp4 (.tup [.ref c4, .ref e4])
  generalize upd M8 p4 (.tup [.ref c4, .ref e4]) = M9 at L9 ⊢
  refine ⟨(by show 4 ≤ sizeLine; decide), fun ps hps => ?_⟩
  have L10 := L9.new hps (.lst [.ref p1, .ref p2, .ref p3, .ref p4])
  generalize upd M9 ps (.lst [.ref p1, .ref p2, .ref p3, .ref p4]) = M10 at L10 ⊢
  refine ⟨_, rfl, _, rfl, _, rfl, a, _, rfl, SqL.of (L10.old ha6), fun c5 hc5 => ?_⟩
  rw [show cutV (ns0'.map V.int) none (some 5) = (ns0'.take 5).map V.int from cut_to ns0' 5]
  have L11 := L10.new hc5 (.lst ((ns0'.take 5).map V.int))
  generalize upd M10 c5 (.lst ((ns0'.take 5).map V.int)) = M11 at L11 ⊢
  refine ⟨_, _, rfl, ⟨by decide, by decide, by decide, by decide⟩, fun e5 he5 => ?_⟩
  rw [show ((List.range ((13 : Int) - 3).toNat).map fun k : Nat => V.int (3 + k)) = ([3, 4, 5, 6, 7, 8, 9, 10, 11, 12] : List Int).map V.int from rfl]
  have L12 := L11.new he5 (.lst (([3, 4, 5, 6, 7, 8, 9, 10, 11, 12] : List Int).map V.int))
  generalize upd M11 e5 (.lst (([3, 4, 5, 6, 7, 8, 9, 10, 11, 12] : List Int).map V.int)) = M12 at L12 ⊢
  refine ⟨two_le, fun p5 hp5 => ?_⟩
  have L13 := L12.new hp5 (.tup [.ref c5, .ref e5])
  generalize upd M12 p5 (.tup [.ref c5, .ref e5]) = M13 at L13 ⊢
  refine ⟨(by show 1 ≤ sizeLine; decide), fun ls hls => ?_⟩
  have L14 := L13.new hls (.lst [.ref p5])
  generalize upd M13 ls (.lst [.ref p5]) = M14 at L14 ⊢
  refine ⟨ps, ls, _, _, rfl, rfl, L14.at (by repeat (first | exact List.mem_cons_self | apply List.mem_cons_of_mem)), L14.at (by repeat (first | exact List.mem_cons_self | apply List.mem_cons_of_mem)), small (by show 5 ≤ 1000; decide), fun lz hlz => ?_⟩
  have L15 := L14.new hlz (.lst [.ref p1, .ref p2, .ref p3, .ref p4, .ref p5])
  change Lv d H6 (upd M14 lz (.lst ([.ref p1, .ref p2, .ref p3, .ref p4] ++ [.ref p5]))) _ at L15
  generalize upd M14 lz (.lst ([.ref p1, .ref p2, .ref p3, .ref p4] ++ [.ref p5])) = M15 at L15 ⊢
  obtain ⟨v, hv, hvm⟩ := pick_any (xs := ([.ref p1, .ref p2, .ref p3, .ref p4, .ref p5] : List V)) m0 (by show m < ((5 : Nat) : Int); exact m1)
  refine ⟨_, rfl, lz, _, m, v, rfl, rfl, SqL.of (L15.at (by repeat (first | exact List.mem_cons_self | apply List.mem_cons_of_mem))), hv, ?_⟩
  obtain ⟨p, c, e, ns, ss, rfl, plX, bn, bs⟩ : ∃ (p c e : Addr) (ns ss : List Int), v = .ref p ∧ IsPl (msk (S1 d) M15) p c e ns ss ∧ (∀ x ∈ ns, x < 3 * 10 ^ 25) ∧ ∀ x ∈ ss, x < 7 * 10 ^ 25 := by
   have tk : ∀ n, ∀ x ∈ ns0'.take n, x < 3 * 10 ^ 25 := fun n x hx => bn0 x (List.mem_of_mem_take hx)
   have hb15 := L15.G _ _ hb6
   simp only [List.mem_cons, List.not_mem_nil, or_false] at hvm
   rcases hvm with z | z | z | z | z
   ·exact ⟨p1, c1, b, _, _, z, ⟨L15.m (by repeat (first | exact List.mem_cons_self | apply List.mem_cons_of_mem)), L15.m (by repeat (first | exact List.mem_cons_self | apply List.mem_cons_of_mem)), hb15, take_ok ok0 (by decide)⟩, tk 6, bs0⟩
   ·exact ⟨p2, c2, b, _, _, z, ⟨L15.m (by repeat (first | exact List.mem_cons_self | apply List.mem_cons_of_mem)), L15.m (by repeat (first | exact List.mem_cons_self | apply List.mem_cons_of_mem)), hb15, take_ok ok0 (by decide)⟩, tk 1, bs0⟩
   ·exact ⟨p3, c3, b, _, _, z, ⟨L15.m (by repeat (first | exact List.mem_cons_self | apply List.mem_cons_of_mem)), L15.m (by repeat (first | exact List.mem_cons_self | apply List.mem_cons_of_mem)), hb15, ⟨⟨by decide, by decide⟩, ok0.s, by decide, by decide, ok0.s2⟩⟩, by decide, bs0⟩
   ·exact ⟨p4, c4, e4, _, _, z, ⟨L15.m (by repeat (first | exact List.mem_cons_self | apply List.mem_cons_of_mem)), L15.m (by repeat (first | exact List.mem_cons_self | apply List.mem_cons_of_mem)), L15.m (by repeat (first | exact List.mem_cons_self | apply List.mem_cons_of_mem)), ⟨(take_ok ok0 (m := 4) (by decide)).n, ⟨.nil, fun x hx => nomatch hx⟩, (take_ok ok0 (by decide)).n1, (take_ok ok0 (by decide)).n2, by decide⟩⟩, tk 4, fun x hx => nomatch hx⟩
   ·exact ⟨p5, c5, e5, _, _, z, ⟨L15.m (by repeat (first | exact List.mem_cons_self | apply List.mem_cons_of_mem)), L15.m (by repeat (first | exact List.mem_cons_self | apply List.mem_cons_of_mem)), L15.m (by repeat (first | exact List.mem_cons_self | apply List.mem_cons_of_mem)), ⟨(take_ok ok0 (m := 5) (by decide)).n, ⟨by decide, by decide⟩, (take_ok ok0 (by decide)).n1, (take_ok ok0 (by decide)).n2, by decide⟩⟩, tk 5, by decide⟩
  have SX := L15.D
  have GX : Same H3 M15 := same_ex G6 (ex_msk L15.G) nd
  clear L0 L1 L2 L3 L4 L5 L6 L7 L8 L9 L10 L11 L12 L13 L14 L15 hvm hv
  obtain ⟨pd, cd, ed⟩ := plX.dd
  have ok := plX.ok
  refine ⟨_, rfl, _, rfl, d, p, c, e, ns, ss, rfl, SX, plX, fun x hx => by have := bn x hx; omega, fun x hx => by have := bs x hx; omega, fun bv H8 S8 g8 np => ?_⟩
  obtain ⟨dB, hB0, fB, cB⟩ := np
  have hB : Dat H8 bv dB := hB0.same msk_le
  have plE := plX.same g8
  have GE : Same H3 H8 := same_ex GX (ex_msk g8) nd
  refine ⟨_, rfl, _, _, rfl, hB, fB.show_, Nat.le_trans fB.deep (by decide), fB.len (by decide), ?_⟩
  refine ⟨_, rfl, p, c, e, ns, ss, rfl, plE.um, fun t' a' b' H9 g9 nt' na' nb' ab' pl9' => ?_⟩
  intro k dx nk ndx ndk
  have g10 : Same H9 (upd (upd H9 dx (.own k)) k (.ins C dx [])) := fun c o hc => by rw [upd_ne (ne_of_none hc nk), upd_ne (ne_of_none hc ndx)]; exact hc
  refine ⟨k, dx, t', a', b', ns, ss, rfl, upd_same, pl9'.same g10, fun A0 B0 H10 e10 kp10 nA nB => ⟨rfl, ?_⟩⟩
  have g11 : Same H9 H10 := fun c o hc => e10 c o (ne_of_none hc nk) (g10 _ _ hc)
  have gg := g9.trans g11
  have S9 := S8.ex g9
  have kd10 : KD H10 C d k dx A0 B0 ns ss := ⟨kp10, S9.ex g11, (S9.ex g10).out nA, (S9.ex g10).out nB⟩
  have pl10 := plE.same (msk_same gg)
  have hB10m := hB0.same (msk_same gg)
  have G10 : Same H3 H10 := GE.trans gg
  have nk3 : H3 k = none := none_of_same (GE.trans g9) nk
  clear g9 g10 g11 gg e10 nA nB nk ndx ndk pl9' kp10 plX SX GX S9 hB hB0 plE S8 GE g8
  refine ⟨_, rfl, k, dx, _, rfl, kd10.kp.k, rfl, k, dx, A0, B0, ns, ss, rfl, kd10.kp, fun t x y H1 g1 nt nx ny _ p1 => ?_⟩
  have kd1 := kd10.same g1
  refine ⟨_, rfl, k, dx, _, rfl, kd1.kp.k, rfl, k, dx, A0, B0, ns, ss, rfl, kd1.kp, fun H2 g2 => ?_⟩
  have kd2 := kd1.same g2
  refine ⟨_, rfl, k, dx, _, rfl, kd2.kp.k, rfl, tnil <| first_any rfl kd2.kp kd2.st fun fv H12 g12 f12 => ⟨(by show 3 ≤ sizeLine; decide), fun l hl => ?_⟩⟩
  have g13 := Same.new hl (.lst [.ref t, .int (cntW ns ss false : Nat), fv])
  have al0 : AllAt (upd H12 l (.lst [.ref t, .int (cntW ns ss false : Nat), fv])) d l ns ss := ⟨t, x, y, fv, upd_same, p1.same (g2.trans (g12.trans g13)), f12.ex (Ex.same g13), (kd2.same g12).st.out hl, kd10.st.out nt, kd10.st.out nx, kd10.st.out ny⟩
  have gg := g1.trans (g2.trans (g12.trans g13))
  generalize upd H12 l (.lst [.ref t, .int (cntW ns ss false : Nat), fv]) = H13 at al0 gg g13 ⊢
  have kd13 := kd10.same gg
  have pl13 := pl10.same (msk_same gg)
  have hB13m := hB10m.same (msk_same gg)
  have G13 := G10.trans gg
  clear g1 g2 g12 g13 gg kd10 kd1 kd2 pl10 hB10m G10 p1 f12 hl nt nx ny
  refine ⟨_, rfl, bv, dB, rfl, hB13m.same msk_le, cB, fun H14 g14 => ⟨_, rfl, iteF ?_⟩⟩
  refine ⟨_, rfl, _, _, rfl, (hB13m.same msk_le).same g14, fB.show_, Nat.le_trans fB.deep (by decide), fB.len (by decide), _, rfl, rfl, _, rfl, ite2 (fun c => absurd c (by simp)) (fun _ => ?_)⟩
  have kd14 := kd13.same g14
  have pl14 := pl13.same (msk_same g14)
  have al14 := al0.same g14
  have G14 := G13.trans g14
  refine ⟨_, rfl, _, rfl, _, rfl, d, k, dx, A0, B0, p, c, e, ns, ss, rfl, kd14.st, kd14.kp, ⟨kd14.dk, kd14.ad, kd14.bd⟩, pl14.um, ⟨pd, cd, ed⟩, fun x hx => by have := bn x hx; omega, fun x hx => by have := bs x hx; omega, fun H15 S15 E15 => ⟨_, rfl, iteF ?_⟩⟩
  have kd15 := kd14.ex E15 S15
  have plOf : ∀ {M : Hp}, Ex (· = d) H14 M → IsPl M p c e ns ss := fun ex => ⟨ex _ _ pd pl14.um.t, ex _ _ cd pl14.um.a, ex _ _ ed pl14.um.b, ok⟩
  have pl15 := plOf E15
  have al15 := al14.ex2 kd14.kp.k (Ex2.of_d E15)
  have G15 := same_ex G14 E15 nd
  clear al0 g14 kd13 pl13 hB13m G13 al14 kd14 plOf
  obtain ⟨te, xe, ye, fe, ee, pe, fve, _⟩ := id al15
  refine ⟨_, rfl, l, _, 0, _, rfl, rfl, SqL.of ee, aI0 rfl, _, rfl, true, rcv_plan pe pl15, _, rfl, iteF ?_⟩
  refine ⟨_, rfl, k, dx, _, rfl, kd15.kp.k, rfl, k, dx, A0, B0, ns, ss, rfl, kd15.kp, fun t x y H1 g1 nt nx ny _ p1 => ?_⟩
  have kd1 := kd15.same g1
  refine ⟨_, rfl, k, dx, _, rfl, kd1.kp.k, rfl, k, dx, A0, B0, ns, ss, rfl, kd1.kp, fun H2 g2 => ?_⟩
  have kd2 := kd1.same g2
  refine ⟨_, rfl, k, dx, _, rfl, kd2.kp.k, rfl, tnil <| first_any rfl kd2.kp kd2.st fun fv2 H12 g12 f12 => ⟨(by show 3 ≤ sizeLine; decide), fun l2 hl => ?_⟩⟩
  have g13 := Same.new hl (.lst [.ref t, .int (cntW ns ss false : Nat), fv2])
  have al1 : AllAt (upd H12 l2 (.lst [.ref t, .int (cntW ns ss false : Nat), fv2])) d l2 ns ss := ⟨t, x, y, fv2, upd_same, p1.same (g2.trans (g12.trans g13)), f12.ex (Ex.same g13), (kd2.same g12).st.out hl, kd15.st.out nt, kd15.st.out nx, kd15.st.out ny⟩
  have gg := g1.trans (g2.trans (g12.trans g13))
  generalize upd H12 l2 (.lst [.ref t, .int (cntW ns ss false : Nat), fv2]) = H16 at al1 gg g13 ⊢
  refine ⟨_, rfl, true, al1.rc (al15.same gg), _, rfl, iteF ?_⟩
  have kd16 := kd15.same gg
  have pl16 := pl15.same gg
  have al16 := al15.same gg
  have G16 := G15.trans gg
  clear g1 g2 g12 g13 gg kd15 kd1 kd2 pl15 al15 G15 p1 f12 hl nt nx ny ee pe fve al1
  have sml' : (ss.map V.int).length = ss.length := List.length_map _
  have plK : ∀ {M : Hp}, Ex2 d k H16 M → IsPl M p c e ns ss := fun ex => by
   have mv : ∀ {u : Addr} {o : HO}, u ≠ d → (∀ C dx fs, o ≠ .ins C dx fs) → H16 u = some o → _ := fun {u o} hu ho q => ex u o (fun z => z.elim hu fun z => by rw [z, kd16.kp.k] at q; exact ho _ _ _ (Option.some.inj q).symm) q
   exact ⟨mv pd (fun _ _ _ z => nomatch z) pl16.t, mv cd (fun _ _ _ z => nomatch z) pl16.a, mv ed (fun _ _ _ z => nomatch z) pl16.b, ok⟩
  dsimp only [gName, tNext]
  refine seq_postK (fun σ' H' => ∃ (kv : V) (A1 B1 : Addr) (ss' : List Int), σ' = [some (.ref a0), some (.int (0 + (i : Int))), some (.ref d), some (.ref a), some (.ref b), some (.int m), some (.ref ps), some (.ref p), some bv, some kv, some (.ref k), some (.ref l)] ∧ KD H' C d k dx A1 B1 ns ss' ∧ (ss = [] → ss' = []) ∧ (∀ y r, ss = y :: r → ss' = delI y ss) ∧ Ex2 d k H16 H') (fun N hN => ?_) ?_
  ·refine ⟨_, rfl, p, _, 1, _, rfl, rfl, SqT.of pl16.t, rfl, e, _, rfl, .inl (SqL.of pl16.b), _, _, rfl, rfl, _, rfl, ite2 (fun c => ?_) (fun c => ?_)⟩
   ·obtain ⟨y, r, ers⟩ : ∃ y r, ss = y :: r := by
     cases ss with
     | nil => exact absurd c (by decide)
     | cons y r => exact ⟨y, r, rfl⟩
    have my : y ∈ ss := by rw [ers]; exact List.mem_cons_self
    have dg : dueSg ns ss (.int y) = 0 := dueSg_ok my
    obtain ⟨te, xe, ye, fe, ee, pe, fve, _⟩ := id al16
    refine ⟨_, rfl, k, dx, _, rfl, kd16.kp.k, rfl, _, rfl, p, _, 1, _, rfl, rfl, SqT.of pl16.t, rfl, e, _, 0, .int y, rfl, rfl, SqL.of pl16.b, aI0 (by rw [ers]; rfl), k, dx, A0, B0, ns, ss, _, _, rfl, kd16.kp, .int y, fun z => absurd (dg.symm.trans z) (by decide), fun z => absurd (dg.symm.trans z) (by decide), fun _ y' ey _ ok4 t4 a4 b4 H4 e4 nt4 et4 kp4 w1 w2 => ?_⟩
    cases ey
    have kd4 : KD H4 C d k dx a4 b4 ns (delI y ss) := kd16.to e4 kp4 w1 w2
    have ee4 := e4 _ _ (ne_of ee kd16.kp.k (by intro z; cases z)) ee
    refine ⟨t4, _, 0, _, rfl, rfl, SqT.of et4, rfl, _, rfl, l, _, 1, _, rfl, rfl, SqL.of ee4, aI1 rfl, rfl, _, rfl, ite2 (fun c => absurd c (by simp)) (fun _ => ?_)⟩
    exact hN _ _ ⟨_, a4, b4, _, rfl, kd4, fun z => (by rw [z] at ers; cases ers), fun y2 r2 z => (by rw [ers] at z; cases z; rfl), Ex2.of_k e4⟩
   ·have e0 : ss = [] := by
     cases ss with
     | nil => rfl
     | cons y r => exact absurd (decide_eq_true (by rw [List.map_cons, List.length_cons]; omega)) c
    exact hN _ _ ⟨_, A0, B0, ss, rfl, kd16, id, fun y r z => (by rw [e0] at z; cases z), Ex.refl⟩
  rintro _ H17 ⟨kv, A1, B1, ss', rfl, kd17, n17, c17, E17⟩
  have pl17 := plK E17
  have al17 := al16.ex2 kd16.kp.k E17
  refine seq_postK (fun σ' H' => ∃ (A1 B1 : Addr), σ' = [some (.ref a0), some (.int (0 + (i : Int))), some (.ref d), some (.ref a), some (.ref b), some (.int m), some (.ref ps), some (.ref p), some bv, some kv, some (.ref k), some (.ref l)] ∧ KD H' C d k dx A1 B1 ns ss ∧ Ex2 d k H16 H') (fun N hN => ?_) ?_
  ·refine ⟨_, rfl, p, _, 1, _, rfl, rfl, SqT.of pl17.t, rfl, e, _, rfl, .inl (SqL.of pl17.b), _, _, rfl, rfl, _, rfl, ite2 (fun c => ?_) (fun c => ?_)⟩
   ·obtain ⟨y, r, ers⟩ : ∃ y r, ss = y :: r := by
     cases ss with
     | nil => exact absurd c (by decide)
     | cons y r => exact ⟨y, r, rfl⟩
    have my : y ∈ ss := by rw [ers]; exact List.mem_cons_self
    have es := c17 y r ers
    have yd : y ∉ delI y ss := fun z => by
     have := (List.mem_filter.mp z).2
     simp at this
    have dl := del_len (l := ss) (ok.s.up.imp fun q => Int.ne_of_lt q) my
    have s10 := ok.s2
    have dc : dueSc ns ss' (.int y) = 0 := by rw [es]; exact dueC_ok yd (ok.s.bd y my) (by omega)
    obtain ⟨te, xe, ye, fe, ee, pe, fve, _⟩ := id al17
    refine ⟨_, rfl, k, dx, _, rfl, kd17.kp.k, rfl, _, rfl, p, _, 1, _, rfl, rfl, SqT.of pl17.t, rfl, e, _, 0, .int y, rfl, rfl, SqL.of pl17.b, aI0 (by rw [ers]; rfl), k, dx, A1, B1, ns, ss', _, _, rfl, kd17.kp, .int y, fun z => absurd (dc.symm.trans z) (by decide), fun z => absurd (dc.symm.trans z) (by decide), fun _ y' ey _ ok4 t4 a4 b4 H4 e4 nt4 et4 kp4 w1 w2 => ?_⟩
    cases ey
    have back : aftSc ns ss' y = (ns, ss) := by
     show (ns, insI y ss') = _
     rw [es, ins_del ok.s.up my]
    have kd4 := kd17.to e4 kp4 w1 w2
    rw [back] at et4 kd4
    have ee4 := e4 _ _ (ne_of ee kd17.kp.k (by intro z; cases z)) ee
    refine ⟨t4, _, 1, _, rfl, rfl, SqT.of et4, rfl, _, rfl, l, _, 1, _, rfl, rfl, SqL.of ee4, aI1 rfl, rfl, _, rfl, ite2 (fun c => absurd c (by simp)) (fun _ => ?_)⟩
    exact hN _ _ ⟨a4, b4, rfl, kd4, E17.trans (Ex2.of_k e4)⟩
   ·have e0 : ss = [] := by
     cases ss with
     | nil => rfl
     | cons y r => exact absurd (decide_eq_true (by rw [List.map_cons, List.length_cons]; omega)) c
    have kd17' : KD H17 C d k dx A1 B1 ns ss := by rw [e0, ← n17 e0]; exact kd17
    exact hN _ _ ⟨A1, B1, rfl, kd17', E17⟩
  rintro _ H18 ⟨A2, B2, rfl, kd18, E18⟩
  have al18 := al16.ex2 kd16.kp.k E18
  refine ⟨_, rfl, k, dx, _, rfl, kd18.kp.k, rfl, k, dx, A2, B2, ns, ss, rfl, kd18.kp, fun t x y H1 g1 nt nx ny _ p1 => ?_⟩
  have kd1 := kd18.same g1
  refine ⟨_, rfl, k, dx, _, rfl, kd1.kp.k, rfl, k, dx, A2, B2, ns, ss, rfl, kd1.kp, fun H2 g2 => ?_⟩
  have kd2 := kd1.same g2
  refine ⟨_, rfl, k, dx, _, rfl, kd2.kp.k, rfl, tnil <| first_any rfl kd2.kp kd2.st fun fv2 H12 g12 f12 => ⟨(by show 3 ≤ sizeLine; decide), fun l2 hl => ?_⟩⟩
  have g13 := Same.new hl (.lst [.ref t, .int (cntW ns ss false : Nat), fv2])
  have al1 : AllAt (upd H12 l2 (.lst [.ref t, .int (cntW ns ss false : Nat), fv2])) d l2 ns ss := ⟨t, x, y, fv2, upd_same, p1.same (g2.trans (g12.trans g13)), f12.ex (Ex.same g13), (kd2.same g12).st.out hl, kd18.st.out nt, kd18.st.out nx, kd18.st.out ny⟩
  have gg := g1.trans (g2.trans (g12.trans g13))
  generalize upd H12 l2 (.lst [.ref t, .int (cntW ns ss false : Nat), fv2]) = H19 at al1 gg g13 ⊢
  refine ⟨_, rfl, true, al1.rc (al18.same gg), _, rfl, iteF ?_⟩
  refine ⟨_, _, _, _, _, _, _, _, _, _, _, rfl, fun x o hx => ?_⟩
  have h3 := g3 _ _ hx
  exact gg _ _ (E18 _ _ (fun z => z.elim (ne_of_none h3 nd) (ne_of_none h3 nk3)) (G16 _ _ h3))
 ·rintro σ H' ⟨y1, y2, y3, y4, y5, y6, y7, y8, y9, y10, y11, rfl, g⟩
  exact q _
end
theorem all_mk {l : PySem.W.OpenLaw} {w : World} {K : PySem.W.Frag} {h : Heap} {mg : Str → Option Value} {fa f1 f2 f3 f4 f5 f6 f7 f8 f9 f10 f11 f12 f13 f14 f15 f16 f17 f18 f19 f20 f21 f22 f23 f24 f25 f26 f27 f28 f29 f30 f31 f32 f33 f34 f35 f36 f37 f38 f39 f40 f41 f42 f43 f44 f45 f46 f47 f48 f49 f50 f51 f52  x0 x1 x2 x3 x4 x5 x6 x7 x8 x9 x10 x11 XS C1 C2 C3 B1 : Addr} (X : K.In h) (G : h.Ns mainGlobals mg) (hfa : mg "law" = some (.ref fa))
  {od1 an1 od2 an2 od3 an3 od4 an4 od5 an5 od6 an6 od7 an7 od8 an8 od9 an9 od10 an10 od11 an11 od12 an12 od13 an13 od14 an14 od15 an15 od16 an16 od17 an17 od18 an18 od19 an19 od20 an20 od21 an21 od22 an22 od23 an23 od24 an24 od25 an25 od26 an26 od27 an27 od28 an28 od29 an29 od30 an30 od31 an31 od32 an32 od33 an33 od34 an34 od35 an35 od36 an36 od37 an37 od38 an38 od39 an39 od40 an40 od41 an41 od42 an42 od43 an43 od44 an44 od45 an45 od46 an46 od47 an47 od48 an48 od49 an49 od50 an50 od51 an51 od52 an52 : Option Addr} {sl1 sl2 sl3 sl4 sl5 sl6 sl7 sl8 sl9 sl10 sl11 sl12 sl13 sl14 sl15 sl16 sl17 sl18 sl19 sl20 sl21 sl22 sl23 sl24 sl25 sl26 sl27 sl28 sl29 sl30 sl31 sl32 sl33 sl34 sl35 sl36 sl37 sl38 sl39 sl40 sl41 sl42 sl43 sl44 sl45 sl46 sl47 sl48 sl49 sl50 sl51 sl52 : Array (Option Value)} {oc1 kV1 dc1 pm1 cd1 ct1 oc2 kV2 dc2 pm2 cd2 ct2 oc3 kV3 dc3 pm3 cd3 ct3 oc4 kV4 dc4 pm4 cd4 ct4 oc5 kV5 dc5 pm5 cd5 ct5 oc6 kV6 dc6 pm6 cd6 ct6 oc7 kV7 dc7 pm7 cd7 ct7 oc8 kV8 dc8 pm8 cd8 ct8 oc9 kV9 dc9 pm9 cd9 ct9 oc10 kV10 dc10 pm10 cd10 ct10 oc11 kV11 dc11 pm11 cd11 ct11 oc12 kV12 dc12 pm12 cd12 ct12 oc13 kV13 dc13 pm13 cd13 ct13 oc14 kV14 dc14 pm14 cd14 ct14 oc15 kV15 dc15 pm15 cd15 ct15 oc16 kV16 dc16 pm16 cd16 ct16 oc17 kV17 dc17 pm17 cd17 ct17 oc18 kV18 dc18 pm18 cd18 ct18 oc19 kV19 dc19 pm19 cd19 ct19 oc20 kV20 dc20 pm20 cd20 ct20 oc21 kV21 dc21 pm21 cd21 ct21 oc22 kV22 dc22 pm22 cd22 ct22 oc23 kV23 dc23 pm23 cd23 ct23 oc24 kV24 dc24 pm24 cd24 ct24 oc25 kV25 dc25 pm25 cd25 ct25 oc26 kV26 dc26 pm26 cd26 ct26 oc27 kV27 dc27 pm27 cd27 ct27 oc28 kV28 dc28 pm28 cd28 ct28 oc29 kV29 dc29 pm29 cd29 ct29 oc30 kV30 dc30 pm30 cd30 ct30 oc31 kV31 dc31 pm31 cd31 ct31 oc32 kV32 dc32 pm32 cd32 ct32 oc33 kV33 dc33 pm33 cd33 ct33 oc34 kV34 dc34 pm34 cd34 ct34 oc35 kV35 dc35 pm35 cd35 ct35 oc36 kV36 dc36 pm36 cd36 ct36 oc37 kV37 dc37 pm37 cd37 ct37 oc38 kV38 dc38 pm38 cd38 ct38 oc39 kV39 dc39 pm39 cd39 ct39 oc40 kV40 dc40 pm40 cd40 ct40 oc41 kV41 dc41 pm41 cd41 ct41 oc42 kV42 dc42 pm42 cd42 ct42 oc43 kV43 dc43 pm43 cd43 ct43 oc44 kV44 dc44 pm44 cd44 ct44 oc45 kV45 dc45 pm45 cd45 ct45 oc46 kV46 dc46 pm46 cd46 ct46 oc47 kV47 dc47 pm47 cd47 ct47 oc48 kV48 dc48 pm48 cd48 ct48 oc49 kV49 dc49 pm49 cd49 ct49 oc50 kV50 dc50 pm50 cd50 ct50 oc51 kV51 dc51 pm51 cd51 ct51 oc52 kV52 dc52 pm52 cd52 ct52 mc1 : Value}
  {t1 : Tok}
  (a1 : PySem.W.nsIn K mainGlobals "is_whole" = some (some (.ref f1))) (l1 : K.lookup f1 = some ⟨oc1, od1, .func (PySem.W.fnOf "is_whole" "is_whole" (defArgs sWhole) (defBody sWhole) (defScope sWhole) .none kV1 dc1 pm1 an1 cd1 ct1), sl1⟩) (c1 : PySem.W.codeIn K cd1 "is_whole" = true) (k1 : PySem.W.keepIn K (.ref f1) = true)
  (a2 : PySem.W.nsIn K mainGlobals "is_rising_list" = some (some (.ref f2))) (l2 : K.lookup f2 = some ⟨oc2, od2, .func (PySem.W.fnOf "is_rising_list" "is_rising_list" (defArgs sRise) (defBody sRise) (defScope sRise) .none kV2 dc2 pm2 an2 cd2 ct2), sl2⟩) (c2 : PySem.W.codeIn K cd2 "is_rising_list" = true) (k2 : PySem.W.keepIn K (.ref f2) = true)
  (a3 : PySem.W.nsIn K mainGlobals "is_plan" = some (some (.ref f3))) (l3 : K.lookup f3 = some ⟨oc3, od3, .func (PySem.W.fnOf "is_plan" "is_plan" (defArgs sIsP) (defBody sIsP) (defScope sIsP) .none kV3 dc3 pm3 an3 cd3 ct3), sl3⟩) (c3 : PySem.W.codeIn K cd3 "is_plan" = true) (k3 : PySem.W.keepIn K (.ref f3) = true)
  (a4 : PySem.W.nsIn K mainGlobals "check_plan" = some (some (.ref f4))) (l4 : K.lookup f4 = some ⟨oc4, od4, .func (PySem.W.fnOf "check_plan" "check_plan" (defArgs sCkP) (defBody sCkP) (defScope sCkP) .none kV4 dc4 pm4 an4 cd4 ct4), sl4⟩) (c4 : PySem.W.codeIn K cd4 "check_plan" = true) (k4 : PySem.W.keepIn K (.ref f4) = true)
  (a5 : PySem.W.nsIn K mainGlobals "add_up" = some (some (.ref f5))) (l5 : K.lookup f5 = some ⟨oc5, od5, .func (PySem.W.fnOf "add_up" "add_up" (defArgs sAdd) (defBody sAdd) (defScope sAdd) .none kV5 dc5 pm5 an5 cd5 ct5), sl5⟩) (c5 : PySem.W.codeIn K cd5 "add_up" = true) (k5 : PySem.W.keepIn K (.ref f5) = true)
  (a6 : PySem.W.nsIn K mainGlobals "all_places" = some (some (.ref f6))) (l6 : K.lookup f6 = some ⟨oc6, od6, .func (PySem.W.fnOf "all_places" "all_places" (defArgs sAllP) (defBody sAllP) (defScope sAllP) .none kV6 dc6 pm6 an6 cd6 ct6), sl6⟩) (c6 : PySem.W.codeIn K cd6 "all_places" = true) (k6 : PySem.W.keepIn K (.ref f6) = true)
  (a7 : PySem.W.nsIn K mainGlobals "near_places" = some (some (.ref f7))) (l7 : K.lookup f7 = some ⟨oc7, od7, .func (PySem.W.fnOf "near_places" "near_places" (defArgs sNear) (defBody sNear) (defScope sNear) .none kV7 dc7 pm7 an7 cd7 ct7), sl7⟩) (c7 : PySem.W.codeIn K cd7 "near_places" = true) (k7 : PySem.W.keepIn K (.ref f7) = true)
  (a8 : PySem.W.nsIn K mainGlobals "numbers_at" = some (some (.ref f8))) (l8 : K.lookup f8 = some ⟨oc8, od8, .func (PySem.W.fnOf "numbers_at" "numbers_at" (defArgs sNums) (defBody sNums) (defScope sNums) .none kV8 dc8 pm8 an8 cd8 ct8), sl8⟩) (c8 : PySem.W.codeIn K cd8 "numbers_at" = true) (k8 : PySem.W.keepIn K (.ref f8) = true)
  (a9 : PySem.W.nsIn K mainGlobals "first_from" = some (some (.ref f9))) (l9 : K.lookup f9 = some ⟨oc9, od9, .func (PySem.W.fnOf "first_from" "first_from" (defArgs sFrom) (defBody sFrom) (defScope sFrom) .none kV9 dc9 pm9 an9 cd9 ct9), sl9⟩) (c9 : PySem.W.codeIn K cd9 "first_from" = true) (k9 : PySem.W.keepIn K (.ref f9) = true)
  (a10 : PySem.W.nsIn K mainGlobals "first_row" = some (some (.ref f10))) (l10 : K.lookup f10 = some ⟨oc10, od10, .func (PySem.W.fnOf "first_row" "first_row" (defArgs sFRow) (defBody sFRow) (defScope sFRow) .none kV10 dc10 pm10 an10 cd10 ct10), sl10⟩) (c10 : PySem.W.codeIn K cd10 "first_row" = true) (k10 : PySem.W.keepIn K (.ref f10) = true)
  (a11 : PySem.W.nsIn K mainGlobals "tally_of_rows" = some (some (.ref f11))) (l11 : K.lookup f11 = some ⟨oc11, od11, .func (PySem.W.fnOf "tally_of_rows" "tally_of_rows" (defArgs sTr) (defBody sTr) (defScope sTr) .none kV11 dc11 pm11 an11 cd11 ct11), sl11⟩) (c11 : PySem.W.codeIn K cd11 "tally_of_rows" = true) (k11 : PySem.W.keepIn K (.ref f11) = true)
  (a12 : PySem.W.nsIn K mainGlobals "count_rows" = some (some (.ref f12))) (l12 : K.lookup f12 = some ⟨oc12, od12, .func (PySem.W.fnOf "count_rows" "count_rows" (defArgs sCr) (defBody sCr) (defScope sCr) .none kV12 dc12 pm12 an12 cd12 ct12), sl12⟩) (c12 : PySem.W.codeIn K cd12 "count_rows" = true) (k12 : PySem.W.keepIn K (.ref f12) = true)
  (a13 : PySem.W.nsIn K mainGlobals "check_room" = some (some (.ref f13))) (l13 : K.lookup f13 = some ⟨oc13, od13, .func (PySem.W.fnOf "check_room" "check_room" (defArgs sRoom) (defBody sRoom) (defScope sRoom) .none kV13 dc13 pm13 an13 cd13 ct13), sl13⟩) (c13 : PySem.W.codeIn K cd13 "check_room" = true) (k13 : PySem.W.keepIn K (.ref f13) = true)
  (a14 : PySem.W.nsIn K mainGlobals "stands_in" = some (some (.ref f14))) (l14 : K.lookup f14 = some ⟨oc14, od14, .func (PySem.W.fnOf "stands_in" "stands_in" (defArgs sStd) (defBody sStd) (defScope sStd) .none kV14 dc14 pm14 an14 cd14 ct14), sl14⟩) (c14 : PySem.W.codeIn K cd14 "stands_in" = true) (k14 : PySem.W.keepIn K (.ref f14) = true)
  (a15 : PySem.W.nsIn K mainGlobals "is_new" = some (some (.ref f15))) (l15 : K.lookup f15 = some ⟨oc15, od15, .func (PySem.W.fnOf "is_new" "is_new" (defArgs sNew) (defBody sNew) (defScope sNew) .none kV15 dc15 pm15 an15 cd15 ct15), sl15⟩) (c15 : PySem.W.codeIn K cd15 "is_new" = true) (k15 : PySem.W.keepIn K (.ref f15) = true)
  (a16 : PySem.W.nsIn K mainGlobals "with_one" = some (some (.ref f16))) (l16 : K.lookup f16 = some ⟨oc16, od16, .func (PySem.W.fnOf "with_one" "with_one" (defArgs sWi) (defBody sWi) (defScope sWi) .none kV16 dc16 pm16 an16 cd16 ct16), sl16⟩) (c16 : PySem.W.codeIn K cd16 "with_one" = true) (k16 : PySem.W.keepIn K (.ref f16) = true)
  (a17 : PySem.W.nsIn K mainGlobals "without_one" = some (some (.ref f17))) (l17 : K.lookup f17 = some ⟨oc17, od17, .func (PySem.W.fnOf "without_one" "without_one" (defArgs sWo) (defBody sWo) (defScope sWo) .none kV17 dc17 pm17 an17 cd17 ct17), sl17⟩) (c17 : PySem.W.codeIn K cd17 "without_one" = true) (k17 : PySem.W.keepIn K (.ref f17) = true)
  (a18 : PySem.W.nsIn K mainGlobals "_law_cell" = some (some (.ref f18))) (l18 : K.lookup f18 = some ⟨oc18, od18, .func (PySem.W.fnOf "_law_cell" "_law_cell" (defArgs sCell) (defBody sCell) (defScope sCell) .none kV18 dc18 pm18 an18 cd18 ct18), sl18⟩) (c18 : PySem.W.codeIn K cd18 "_law_cell" = true) (k18 : PySem.W.keepIn K (.ref f18) = true)
  (a19 : PySem.W.nsIn K mainGlobals "_law_store" = some (some (.ref f19))) (l19 : K.lookup f19 = some ⟨oc19, od19, .func (PySem.W.fnOf "_law_store" "_law_store" (defArgs sSto) (defBody sSto) (defScope sSto) .none kV19 dc19 pm19 an19 cd19 ct19), sl19⟩) (c19 : PySem.W.codeIn K cd19 "_law_store" = true) (k19 : PySem.W.keepIn K (.ref f19) = true)
  (a20 : PySem.W.nsIn K mainGlobals "_law_take" = some (some (.ref f20))) (l20 : K.lookup f20 = some ⟨oc20, od20, .func (PySem.W.fnOf "_law_take" "_law_take" (defArgs sTkT) (defBody sTkT) (defScope sTkT) .none kV20 dc20 pm20 an20 cd20 ct20), sl20⟩) (c20 : PySem.W.codeIn K cd20 "_law_take" = true) (k20 : PySem.W.keepIn K (.ref f20) = true)
  (a21 : PySem.W.nsIn K mainGlobals "_law_numbers" = some (some (.ref f21))) (l21 : K.lookup f21 = some ⟨oc21, od21, .func (PySem.W.fnOf "_law_numbers" "_law_numbers" (defArgs sNuT) (defBody sNuT) (defScope sNuT) .none kV21 dc21 pm21 an21 cd21 ct21), sl21⟩) (c21 : PySem.W.codeIn K cd21 "_law_numbers" = true) (k21 : PySem.W.keepIn K (.ref f21) = true)
  (a22 : PySem.W.nsIn K mainGlobals "_law_plan" = some (some (.ref f22))) (l22 : K.lookup f22 = some ⟨oc22, od22, .func (PySem.W.fnOf "_law_plan" "_law_plan" (defArgs sPlT) (defBody sPlT) (defScope sPlT) .none kV22 dc22 pm22 an22 cd22 ct22), sl22⟩) (c22 : PySem.W.codeIn K cd22 "_law_plan" = true) (k22 : PySem.W.keepIn K (.ref f22) = true)
  (a23 : PySem.W.nsIn K mainGlobals "_law_copy" = some (some (.ref f23))) (l23 : K.lookup f23 = some ⟨oc23, od23, .func (PySem.W.fnOf "_law_copy" "_law_copy" (defArgs sCopy) (defBody sCopy) (defScope sCopy) .none kV23 dc23 pm23 an23 cd23 ct23), sl23⟩) (c23 : PySem.W.codeIn K cd23 "_law_copy" = true) (k23 : PySem.W.keepIn K (.ref f23) = true)
  (a24 : PySem.W.nsIn K mainGlobals "_law_no_plan" = some (some (.ref f24))) (l24 : K.lookup f24 = some ⟨oc24, od24, .func (PySem.W.fnOf "_law_no_plan" "_law_no_plan" (defArgs sNop) (defBody sNop) (defScope sNop) .none kV24 dc24 pm24 an24 cd24 ct24), sl24⟩) (c24 : PySem.W.codeIn K cd24 "_law_no_plan" = true) (k24 : PySem.W.keepIn K (.ref f24) = true)
  (a25 : PySem.W.nsIn K mainGlobals "_law_kind" = some (some (.ref f25))) (l25 : K.lookup f25 = some ⟨oc25, od25, .func (PySem.W.fnOf "_law_kind" "_law_kind" (defArgs sKnd) (defBody sKnd) (defScope sKnd) .none kV25 dc25 pm25 an25 cd25 ct25), sl25⟩) (c25 : PySem.W.codeIn K cd25 "_law_kind" = true) (k25 : PySem.W.keepIn K (.ref f25) = true)
  (a26 : PySem.W.nsIn K mainGlobals "_law_done" = some (some (.ref f26))) (l26 : K.lookup f26 = some ⟨oc26, od26, .func (PySem.W.fnOf "_law_done" "_law_done" (defArgs sDone) (defBody sDone) (defScope sDone) .none kV26 dc26 pm26 an26 cd26 ct26), sl26⟩) (c26 : PySem.W.codeIn K cd26 "_law_done" = true) (k26 : PySem.W.keepIn K (.ref f26) = true)
  (a27 : PySem.W.nsIn K mainGlobals "_law_asked" = some (some (.ref f27))) (l27 : K.lookup f27 = some ⟨oc27, od27, .func (PySem.W.fnOf "_law_asked" "_law_asked" (defArgs sAsk) (defBody sAsk) (defScope sAsk) .none kV27 dc27 pm27 an27 cd27 ct27), sl27⟩) (c27 : PySem.W.codeIn K cd27 "_law_asked" = true) (k27 : PySem.W.keepIn K (.ref f27) = true)
  (a28 : PySem.W.nsIn K mainGlobals "_law_odd" = some (some (.ref f28))) (l28 : K.lookup f28 = some ⟨oc28, od28, .func (PySem.W.fnOf "_law_odd" "_law_odd" (defArgs sOd) (defBody sOd) (defScope sOd) .none kV28 dc28 pm28 an28 cd28 ct28), sl28⟩) (c28 : PySem.W.codeIn K cd28 "_law_odd" = true) (k28 : PySem.W.keepIn K (.ref f28) = true)
  (a29 : PySem.W.nsIn K mainGlobals "_law_there" = some (some (.ref f29))) (l29 : K.lookup f29 = some ⟨oc29, od29, .func (PySem.W.fnOf "_law_there" "_law_there" (defArgs sThe) (defBody sThe) (defScope sThe) .none kV29 dc29 pm29 an29 cd29 ct29), sl29⟩) (c29 : PySem.W.codeIn K cd29 "_law_there" = true) (k29 : PySem.W.keepIn K (.ref f29) = true)
  (a30 : PySem.W.nsIn K mainGlobals "_law_all_refused" = some (some (.ref f30))) (l30 : K.lookup f30 = some ⟨oc30, od30, .func (PySem.W.fnOf "_law_all_refused" "_law_all_refused" (defArgs sAll) (defBody sAll) (defScope sAll) .none kV30 dc30 pm30 an30 cd30 ct30), sl30⟩) (c30 : PySem.W.codeIn K cd30 "_law_all_refused" = true) (k30 : PySem.W.keepIn K (.ref f30) = true)
  (a31 : PySem.W.nsIn K mainGlobals "_law_no_keeper" = some (some (.ref f31))) (l31 : K.lookup f31 = some ⟨oc31, od31, .func (PySem.W.fnOf "_law_no_keeper" "_law_no_keeper" (defArgs sNok) (defBody sNok) (defScope sNok) .none kV31 dc31 pm31 an31 cd31 ct31), sl31⟩) (c31 : PySem.W.codeIn K cd31 "_law_no_keeper" = true) (k31 : PySem.W.keepIn K (.ref f31) = true)
  (a32 : PySem.W.nsIn K mainGlobals "law" = some (some (.ref f32))) (l32 : K.lookup f32 = some ⟨oc32, od32, .func (PySem.W.fnOf "law" "law" (defArgs sLaw) (defBody sLaw) (defScope sLaw) .none kV32 dc32 pm32 an32 cd32 ct32), sl32⟩) (c32 : PySem.W.codeIn K cd32 "law" = true) (k32 : PySem.W.keepIn K (.ref f32) = true)
  (aC1 : PySem.W.nsIn K mainGlobals "Search" = some (some (.ref C1))) (pg1 : PySem.W.plainGet K C1 Str.empty = true) (hd1 : PySem.W.hasDictIn K C1 = true) (po1 : PySem.W.plainOver K C1 = true) (sa1 : PySem.W.findIn K (.ref C1) "__setattr__" = some (some (.builtin "object.__setattr__"))) (mk1 : PySem.W.makesIn K C1 = true) (kc1 : PySem.W.keepIn K (.ref C1) = true)
  (nn1_1 : PySem.W.findIn K (.ref C1) "ahead" = some none)
  (nn1_2 : PySem.W.findIn K (.ref C1) "near" = some none)
  (nn1_3 : PySem.W.findIn K (.ref C1) "whole" = some none)
  (nn1_4 : PySem.W.findIn K (.ref C1) "last_places" = some none)
  (nn1_5 : PySem.W.findIn K (.ref C1) "onward" = some none)
  (aC2 : PySem.W.nsIn K mainGlobals "Tally" = some (some (.ref C2))) (pg2 : PySem.W.plainGet K C2 Str.empty = true) (hd2 : PySem.W.hasDictIn K C2 = true) (po2 : PySem.W.plainOver K C2 = true) (sa2 : PySem.W.findIn K (.ref C2) "__setattr__" = some (some (.builtin "object.__setattr__"))) (mk2 : PySem.W.makesIn K C2 = true) (kc2 : PySem.W.keepIn K (.ref C2) = true)
  (nn2_1 : PySem.W.findIn K (.ref C2) "ahead" = some none)
  (nn2_2 : PySem.W.findIn K (.ref C2) "near" = some none)
  (nn2_3 : PySem.W.findIn K (.ref C2) "whole" = some none)
  (nn2_4 : PySem.W.findIn K (.ref C2) "last_places" = some none)
  (nn2_5 : PySem.W.findIn K (.ref C2) "known" = some none)
  (aC3 : PySem.W.nsIn K mainGlobals "Keeper" = some (some (.ref C3))) (pg3 : PySem.W.plainGet K C3 Str.empty = true) (hd3 : PySem.W.hasDictIn K C3 = true) (po3 : PySem.W.plainOver K C3 = true) (sa3 : PySem.W.findIn K (.ref C3) "__setattr__" = some (some (.builtin "object.__setattr__"))) (mk3 : PySem.W.makesIn K C3 = true) (kc3 : PySem.W.keepIn K (.ref C3) = true)
  (nn3_1 : PySem.W.findIn K (.ref C3) "numbers" = some none)
  (nn3_2 : PySem.W.findIn K (.ref C3) "sums" = some none)
  (aB1 : PySem.W.nsIn K mainGlobals "Steps" = some (some (.ref B1))) (ty1 : PySem.W.typeIn K (.ref B1) = some mc1) (ga1 : PySem.W.specialIn K (.ref B1) "__getattribute__" = some (some (.builtin "type.__getattribute__"))) (rd1 : PySem.W.readsIn K B1 mc1 = true)
  (a33 : PySem.W.findIn K (.ref C1) "__init__" = some (some (.ref f33))) (i33 : PySem.W.isFn K (.ref f33) = true) (l33 : K.lookup f33 = some ⟨oc33, od33, .func (PySem.W.fnOf "__init__" "Search.__init__" (defArgs sIni) (defBody sIni) (defScope sIni) .none kV33 dc33 pm33 an33 cd33 ct33), sl33⟩) (c33 : PySem.W.codeIn K cd33 "Search.__init__" = true) (k33 : PySem.W.keepIn K (.ref f33) = true)
  (a34 : PySem.W.findIn K (.ref C1) "can_end" = some (some (.ref f34))) (i34 : PySem.W.isFn K (.ref f34) = true) (l34 : K.lookup f34 = some ⟨oc34, od34, .func (PySem.W.fnOf "can_end" "Search.can_end" (defArgs sCan) (defBody sCan) (defScope sCan) .none kV34 dc34 pm34 an34 cd34 ct34), sl34⟩) (c34 : PySem.W.codeIn K cd34 "Search.can_end" = true) (k34 : PySem.W.keepIn K (.ref f34) = true)
  (a35 : PySem.W.findIn K (.ref C1) "first_step" = some (some (.ref f35))) (i35 : PySem.W.isFn K (.ref f35) = true) (l35 : K.lookup f35 = some ⟨oc35, od35, .func (PySem.W.fnOf "first_step" "Search.first_step" (defArgs sFst) (defBody sFst) (defScope sFst) .none kV35 dc35 pm35 an35 cd35 ct35), sl35⟩) (c35 : PySem.W.codeIn K cd35 "Search.first_step" = true) (k35 : PySem.W.keepIn K (.ref f35) = true)
  (a36 : PySem.W.findIn K (.ref C1) "found_places" = some (some (.ref f36))) (i36 : PySem.W.isFn K (.ref f36) = true) (l36 : K.lookup f36 = some ⟨oc36, od36, .func (PySem.W.fnOf "found_places" "Search.found_places" (defArgs sFnd) (defBody sFnd) (defScope sFnd) .none kV36 dc36 pm36 an36 cd36 ct36), sl36⟩) (c36 : PySem.W.codeIn K cd36 "Search.found_places" = true) (k36 : PySem.W.keepIn K (.ref f36) = true)
  (a37 : PySem.W.findIn K (.ref C1) "steps" = some (some (.ref f37))) (i37 : PySem.W.isFn K (.ref f37) = true) (l37 : K.lookup f37 = some ⟨oc37, od37, .func (PySem.W.fnOf "steps" "Steps.steps" (defArgs sSteps) (defBody sSteps) (defScope sSteps) .none kV37 dc37 pm37 an37 cd37 ct37), sl37⟩) (c37 : PySem.W.codeIn K cd37 "Steps.steps" = true) (k37 : PySem.W.keepIn K (.ref f37) = true)
  (a38 : PySem.W.findIn K (.ref C2) "__init__" = some (some (.ref f38))) (i38 : PySem.W.isFn K (.ref f38) = true) (l38 : K.lookup f38 = some ⟨oc38, od38, .func (PySem.W.fnOf "__init__" "Tally.__init__" (defArgs sTIn) (defBody sTIn) (defScope sTIn) .none kV38 dc38 pm38 an38 cd38 ct38), sl38⟩) (c38 : PySem.W.codeIn K cd38 "Tally.__init__" = true) (k38 : PySem.W.keepIn K (.ref f38) = true)
  (a39 : PySem.W.findIn K (.ref C2) "ways" = some (some (.ref f39))) (i39 : PySem.W.isFn K (.ref f39) = true) (l39 : K.lookup f39 = some ⟨oc39, od39, .func (PySem.W.fnOf "ways" "Tally.ways" (defArgs sWy) (defBody sWy) (defScope sWy) .none kV39 dc39 pm39 an39 cd39 ct39), sl39⟩) (c39 : PySem.W.codeIn K cd39 "Tally.ways" = true) (k39 : PySem.W.keepIn K (.ref f39) = true)
  (a40 : PySem.W.findIn K (.ref C2) "ways_by" = some (some (.ref f40))) (i40 : PySem.W.isFn K (.ref f40) = true) (l40 : K.lookup f40 = some ⟨oc40, od40, .func (PySem.W.fnOf "ways_by" "Tally.ways_by" (defArgs sWb) (defBody sWb) (defScope sWb) .none kV40 dc40 pm40 an40 cd40 ct40), sl40⟩) (c40 : PySem.W.codeIn K cd40 "Tally.ways_by" = true) (k40 : PySem.W.keepIn K (.ref f40) = true)
  (a41 : PySem.W.findIn K (.ref C2) "all_ways" = some (some (.ref f41))) (i41 : PySem.W.isFn K (.ref f41) = true) (l41 : K.lookup f41 = some ⟨oc41, od41, .func (PySem.W.fnOf "all_ways" "Tally.all_ways" (defArgs sAw) (defBody sAw) (defScope sAw) .none kV41 dc41 pm41 an41 cd41 ct41), sl41⟩) (c41 : PySem.W.codeIn K cd41 "Tally.all_ways" = true) (k41 : PySem.W.keepIn K (.ref f41) = true)
  (a42 : PySem.W.findIn K (.ref C2) "steps" = some (some (.ref f42))) (i42 : PySem.W.isFn K (.ref f42) = true) (l42 : K.lookup f42 = some ⟨oc42, od42, .func (PySem.W.fnOf "steps" "Steps.steps" (defArgs sSteps) (defBody sSteps) (defScope sSteps) .none kV42 dc42 pm42 an42 cd42 ct42), sl42⟩) (c42 : PySem.W.codeIn K cd42 "Steps.steps" = true) (k42 : PySem.W.keepIn K (.ref f42) = true)
  (a43 : PySem.W.findIn K (.ref C3) "__init__" = some (some (.ref f43))) (i43 : PySem.W.isFn K (.ref f43) = true) (l43 : K.lookup f43 = some ⟨oc43, od43, .func (PySem.W.fnOf "__init__" "Keeper.__init__" (defArgs sKIn) (defBody sKIn) (defScope sKIn) .none kV43 dc43 pm43 an43 cd43 ct43), sl43⟩) (c43 : PySem.W.codeIn K cd43 "Keeper.__init__" = true) (k43 : PySem.W.keepIn K (.ref f43) = true)
  (a44 : PySem.W.findIn K (.ref C3) "plan" = some (some (.ref f44))) (i44 : PySem.W.isFn K (.ref f44) = true) (l44 : K.lookup f44 = some ⟨oc44, od44, .func (PySem.W.fnOf "plan" "Keeper.plan" (defArgs sKPl) (defBody sKPl) (defScope sKPl) .none kV44 dc44 pm44 an44 cd44 ct44), sl44⟩) (c44 : PySem.W.codeIn K cd44 "Keeper.plan" = true) (k44 : PySem.W.keepIn K (.ref f44) = true)
  (a45 : PySem.W.findIn K (.ref C3) "count" = some (some (.ref f45))) (i45 : PySem.W.isFn K (.ref f45) = true) (l45 : K.lookup f45 = some ⟨oc45, od45, .func (PySem.W.fnOf "count" "Keeper.count" (defArgs sKCt) (defBody sKCt) (defScope sKCt) .none kV45 dc45 pm45 an45 cd45 ct45), sl45⟩) (c45 : PySem.W.codeIn K cd45 "Keeper.count" = true) (k45 : PySem.W.keepIn K (.ref f45) = true)
  (a46 : PySem.W.findIn K (.ref C3) "first" = some (some (.ref f46))) (i46 : PySem.W.isFn K (.ref f46) = true) (l46 : K.lookup f46 = some ⟨oc46, od46, .func (PySem.W.fnOf "first" "Keeper.first" (defArgs sKFi) (defBody sKFi) (defScope sKFi) .none kV46 dc46 pm46 an46 cd46 ct46), sl46⟩) (c46 : PySem.W.codeIn K cd46 "Keeper.first" = true) (k46 : PySem.W.keepIn K (.ref f46) = true)
  (a47 : PySem.W.findIn K (.ref C3) "change_to" = some (some (.ref f47))) (i47 : PySem.W.isFn K (.ref f47) = true) (l47 : K.lookup f47 = some ⟨oc47, od47, .func (PySem.W.fnOf "change_to" "Keeper.change_to" (defArgs sKCh) (defBody sKCh) (defScope sKCh) .none kV47 dc47 pm47 an47 cd47 ct47), sl47⟩) (c47 : PySem.W.codeIn K cd47 "Keeper.change_to" = true) (k47 : PySem.W.keepIn K (.ref f47) = true)
  (a48 : PySem.W.findIn K (.ref C3) "come" = some (some (.ref f48))) (i48 : PySem.W.isFn K (.ref f48) = true) (l48 : K.lookup f48 = some ⟨oc48, od48, .func (PySem.W.fnOf "come" "Keeper.come" (defArgs sKCo) (defBody sKCo) (defScope sKCo) .none kV48 dc48 pm48 an48 cd48 ct48), sl48⟩) (c48 : PySem.W.codeIn K cd48 "Keeper.come" = true) (k48 : PySem.W.keepIn K (.ref f48) = true)
  (a49 : PySem.W.findIn K (.ref C3) "go" = some (some (.ref f49))) (i49 : PySem.W.isFn K (.ref f49) = true) (l49 : K.lookup f49 = some ⟨oc49, od49, .func (PySem.W.fnOf "go" "Keeper.go" (defArgs sKGo) (defBody sKGo) (defScope sKGo) .none kV49 dc49 pm49 an49 cd49 ct49), sl49⟩) (c49 : PySem.W.codeIn K cd49 "Keeper.go" = true) (k49 : PySem.W.keepIn K (.ref f49) = true)
  (a50 : PySem.W.findIn K (.ref C3) "sum_comes" = some (some (.ref f50))) (i50 : PySem.W.isFn K (.ref f50) = true) (l50 : K.lookup f50 = some ⟨oc50, od50, .func (PySem.W.fnOf "sum_comes" "Keeper.sum_comes" (defArgs sKSc) (defBody sKSc) (defScope sKSc) .none kV50 dc50 pm50 an50 cd50 ct50), sl50⟩) (c50 : PySem.W.codeIn K cd50 "Keeper.sum_comes" = true) (k50 : PySem.W.keepIn K (.ref f50) = true)
  (a51 : PySem.W.findIn K (.ref C3) "sum_goes" = some (some (.ref f51))) (i51 : PySem.W.isFn K (.ref f51) = true) (l51 : K.lookup f51 = some ⟨oc51, od51, .func (PySem.W.fnOf "sum_goes" "Keeper.sum_goes" (defArgs sKSg) (defBody sKSg) (defScope sKSg) .none kV51 dc51 pm51 an51 cd51 ct51), sl51⟩) (c51 : PySem.W.codeIn K cd51 "Keeper.sum_goes" = true) (k51 : PySem.W.keepIn K (.ref f51) = true)
  (a52 : PySem.W.findCls K (.ref B1) mc1 "__init__" = some (.val (.ref f52))) (i52 : PySem.W.isFn K (.ref f52) = true) (l52 : K.lookup f52 = some ⟨oc52, od52, .func (PySem.W.fnOf "__init__" "Steps.__init__" (defArgs sIni0) (defBody sIni0) (defScope sIni0) .none kV52 dc52 pm52 an52 cd52 ct52), sl52⟩) (c52 : PySem.W.codeIn K cd52 "Steps.__init__" = true) (k52 : PySem.W.keepIn K (.ref f52) = true)
  (m1 : PySem.W.nsIn K mainGlobals "MOST" = some (some (.int 10 t1)))
  (ax0 : PySem.W.nsIn K mainGlobals "NoPlan" = some (some (.ref x0)))
  (ax1 : PySem.W.nsIn K mainGlobals "NoNumber" = some (some (.ref x1)))
  (ax2 : PySem.W.nsIn K mainGlobals "NoKind" = some (some (.ref x2)))
  (ax3 : PySem.W.nsIn K mainGlobals "NoPlace" = some (some (.ref x3)))
  (ax4 : PySem.W.nsIn K mainGlobals "NoRow" = some (some (.ref x4)))
  (ax5 : PySem.W.nsIn K mainGlobals "NoCut" = some (some (.ref x5)))
  (ax6 : PySem.W.nsIn K mainGlobals "NoPart" = some (some (.ref x6)))
  (ax7 : PySem.W.nsIn K mainGlobals "NoSum" = some (some (.ref x7)))
  (ax8 : PySem.W.nsIn K mainGlobals "TooMany" = some (some (.ref x8)))
  (ax9 : PySem.W.nsIn K mainGlobals "NoText" = some (some (.ref x9)))
  (ax10 : PySem.W.nsIn K mainGlobals "NoName" = some (some (.ref x10)))
  (ax11 : PySem.W.nsIn K mainGlobals "NoSaying" = some (some (.ref x11)))
  (axS : PySem.W.nsIn K mainGlobals "SumError" = some (some (.ref XS)))
  (gaP : PySem.W.findIn K (.ref x0) "__getattribute__" = some (some (.builtin "BaseException.__getattribute__")))
  (ghP : PySem.W.findIn K (.ref x0) "__getattr__" = some none)
  (caP : PySem.W.findIn K (.ref x0) "__class__" = some (some (.builtin "object.__class__")))
  (obP : PySem.W.mroIn K x0 (.type "object") = some true)
  (beP : PySem.W.mroIn K x0 (.type "BaseException") = some true)
  (clP : (PySem.W.clsIn K x0).isSome = true)
  (vvP : PySem.W.kitOne K (.ref x0) (.type "ValueError") = some true)
  (emP : PySem.W.exmOne K (.ref x0) (.ref XS) = some true)
  (eiP : PySem.W.excIn K x0 [.type "ValueError", .type "Exception", .type "BaseException", .type "object"] "ValueError.__new__" = true)
  (kkP : [x0, x1, x2, x3, x4, x5, x6, x7, x8, x9, x10, x11].map (fun x => PySem.W.kitOne K (.ref x0) (.ref x)) = (List.range 12).map fun i : Nat => some (decide ((i : Int) = 0)))
  (gaN : PySem.W.findIn K (.ref x1) "__getattribute__" = some (some (.builtin "BaseException.__getattribute__")))
  (ghN : PySem.W.findIn K (.ref x1) "__getattr__" = some none)
  (caN : PySem.W.findIn K (.ref x1) "__class__" = some (some (.builtin "object.__class__")))
  (obN : PySem.W.mroIn K x1 (.type "object") = some true)
  (beN : PySem.W.mroIn K x1 (.type "BaseException") = some true)
  (clN : (PySem.W.clsIn K x1).isSome = true)
  (vvN : PySem.W.kitOne K (.ref x1) (.type "ValueError") = some true)
  (emN : PySem.W.exmOne K (.ref x1) (.ref XS) = some true)
  (eiN : PySem.W.excIn K x1 [.type "ValueError", .type "Exception", .type "BaseException", .type "object"] "ValueError.__new__" = true)
  (kkN : [x0, x1, x2, x3, x4, x5, x6, x7, x8, x9, x10, x11].map (fun x => PySem.W.kitOne K (.ref x1) (.ref x)) = (List.range 12).map fun i : Nat => some (decide ((i : Int) = 1)))
  (gaU : PySem.W.findIn K (.ref x7) "__getattribute__" = some (some (.builtin "BaseException.__getattribute__")))
  (ghU : PySem.W.findIn K (.ref x7) "__getattr__" = some none)
  (caU : PySem.W.findIn K (.ref x7) "__class__" = some (some (.builtin "object.__class__")))
  (obU : PySem.W.mroIn K x7 (.type "object") = some true)
  (beU : PySem.W.mroIn K x7 (.type "BaseException") = some true)
  (clU : (PySem.W.clsIn K x7).isSome = true)
  (vvU : PySem.W.kitOne K (.ref x7) (.type "ValueError") = some true)
  (emU : PySem.W.exmOne K (.ref x7) (.ref XS) = some true)
  (eiU : PySem.W.excIn K x7 [.type "ValueError", .type "Exception", .type "BaseException", .type "object"] "ValueError.__new__" = true)
  (kkU : [x0, x1, x2, x3, x4, x5, x6, x7, x8, x9, x10, x11].map (fun x => PySem.W.kitOne K (.ref x7) (.ref x)) = (List.range 12).map fun i : Nat => some (decide ((i : Int) = 7)))
  (gaT : PySem.W.findIn K (.ref x8) "__getattribute__" = some (some (.builtin "BaseException.__getattribute__")))
  (ghT : PySem.W.findIn K (.ref x8) "__getattr__" = some none)
  (caT : PySem.W.findIn K (.ref x8) "__class__" = some (some (.builtin "object.__class__")))
  (obT : PySem.W.mroIn K x8 (.type "object") = some true)
  (beT : PySem.W.mroIn K x8 (.type "BaseException") = some true)
  (clT : (PySem.W.clsIn K x8).isSome = true)
  (vvT : PySem.W.kitOne K (.ref x8) (.type "ValueError") = some true)
  (emT : PySem.W.exmOne K (.ref x8) (.ref XS) = some true)
  (eiT : PySem.W.excIn K x8 [.type "ValueError", .type "Exception", .type "BaseException", .type "object"] "ValueError.__new__" = true)
  (kkT : [x0, x1, x2, x3, x4, x5, x6, x7, x8, x9, x10, x11].map (fun x => PySem.W.kitOne K (.ref x8) (.ref x)) = (List.range 12).map fun i : Nat => some (decide ((i : Int) = 8)))
  (hn_ : PySem.W.specialIn K (.builtin "object.__class__") "__get__" = some (some (.builtin "getset_descriptor.__get__"))) (htk_ : PySem.W.takesIn K (.builtin "object.__class__") = some true)
  (z1 : PySem.W.nsIn K mainGlobals "len" = some none)
  (z2 : PySem.W.nsIn K mainGlobals "max" = some none)
  (z3 : PySem.W.nsIn K mainGlobals "min" = some none)
  (z4 : PySem.W.nsIn K mainGlobals "range" = some none)
  (z5 : PySem.W.nsIn K mainGlobals "list" = some none)
  (z6 : PySem.W.nsIn K mainGlobals "int" = some none)
  (z7 : PySem.W.nsIn K mainGlobals "all" = some none)
  (z8 : PySem.W.nsIn K mainGlobals "isinstance" = some none)
  (z9 : PySem.W.nsIn K mainGlobals "bool" = some none)
  (z10 : PySem.W.nsIn K mainGlobals "str" = some none)
  (z11 : PySem.W.nsIn K mainGlobals "tuple" = some none)
  (z12 : PySem.W.nsIn K mainGlobals "sorted" = some none)
  (z13 : PySem.W.nsIn K mainGlobals "enumerate" = some none)
  (z14 : PySem.W.nsIn K mainGlobals "zip" = some none)
  (z15 : PySem.W.nsIn K mainGlobals "sum" = some none)
  (z16 : PySem.W.nsIn K mainGlobals "set" = some none)
  (z17 : PySem.W.nsIn K mainGlobals "repr" = some none)
  (z18 : PySem.W.nsIn K mainGlobals "ValueError" = some none)
  : ∃ fd : FuncData, (∀ (s : Shared) (v : Value), BindsTo s fd ⟨[v], []⟩ [("script", v)]) ∧ ∀ base : Heap, K.In base → base.Ns mainGlobals mg → FnOk l.prog w K mg base CX0 32 fa fd ["script"] (spLaw K) := by
 have e := hfa.symm.trans (PySem.W.mg_of X G a32)
 cases e
 have M : ∀ (x : Str) (v : Value), PySem.W.nsIn K mainGlobals x = some (some v) → mg x = some v := fun x v h => PySem.W.mg_of X G h
 have zb : ∀ x : Str, PySem.W.nsIn K mainGlobals x = some none → mg x = none := fun x h => PySem.W.mg_none_of X G h
 have F1 := fun_mk (st := sWhole) l1 c1 k1
 have b1 := F1.binds (ps := ["thing"]) fun _ _ _ _ _ _ us hl => match us, hl with | [_], _ => rfl
 have F2 := fun_mk (st := sRise) l2 c2 k2
 have b2 := F2.binds (ps := ["thing", "fewest"]) fun _ _ _ _ _ _ us hl => match us, hl with | [_, _], _ => rfl
 have F3 := fun_mk (st := sIsP) l3 c3 k3
 have b3 := F3.binds (ps := ["thing"]) fun _ _ _ _ _ _ us hl => match us, hl with | [_], _ => rfl
 have F4 := fun_mk (st := sCkP) l4 c4 k4
 have b4 := F4.binds (ps := ["plan"]) fun _ _ _ _ _ _ us hl => match us, hl with | [_], _ => rfl
 have F5 := fun_mk (st := sAdd) l5 c5 k5
 have b5 := F5.binds (ps := ["plan", "one", "other"]) fun _ _ _ _ _ _ us hl => match us, hl with | [_, _, _], _ => rfl
 have F6 := fun_mk (st := sAllP) l6 c6 k6
 have b6 := F6.binds (ps := ["plan"]) fun _ _ _ _ _ _ us hl => match us, hl with | [_], _ => rfl
 have F7 := fun_mk (st := sNear) l7 c7 k7
 have b7 := F7.binds (ps := ["plan", "number"]) fun _ _ _ _ _ _ us hl => match us, hl with | [_, _], _ => rfl
 have F8 := fun_mk (st := sNums) l8 c8 k8
 have b8 := F8.binds (ps := ["plan", "places"]) fun _ _ _ _ _ _ us hl => match us, hl with | [_, _], _ => rfl
 have F9 := fun_mk (st := sFrom) l9 c9 k9
 have b9 := F9.binds (ps := ["plan", "first_places", "last_places"]) fun _ _ _ _ _ _ us hl => match us, hl with | [_, _, _], _ => rfl
 have F10 := fun_mk (st := sFRow) l10 c10 k10
 have b10 := F10.binds (ps := ["plan"]) fun _ _ _ _ _ _ us hl => match us, hl with | [_], _ => rfl
 have F11 := fun_mk (st := sTr) l11 c11 k11
 have b11 := F11.binds (ps := ["plan"]) fun _ _ _ _ _ _ us hl => match us, hl with | [_], _ => rfl
 have F12 := fun_mk (st := sCr) l12 c12 k12
 have b12 := F12.binds (ps := ["plan"]) fun _ _ _ _ _ _ us hl => match us, hl with | [_], _ => rfl
 have F13 := fun_mk (st := sRoom) l13 c13 k13
 have b13 := F13.binds (ps := ["numbers"]) fun _ _ _ _ _ _ us hl => match us, hl with | [_], _ => rfl
 have F14 := fun_mk (st := sStd) l14 c14 k14
 have b14 := F14.binds (ps := ["numbers", "thing"]) fun _ _ _ _ _ _ us hl => match us, hl with | [_, _], _ => rfl
 have F15 := fun_mk (st := sNew) l15 c15 k15
 have b15 := F15.binds (ps := ["numbers", "thing"]) fun _ _ _ _ _ _ us hl => match us, hl with | [_, _], _ => rfl
 have F16 := fun_mk (st := sWi) l16 c16 k16
 have b16 := F16.binds (ps := ["numbers", "number"]) fun _ _ _ _ _ _ us hl => match us, hl with | [_, _], _ => rfl
 have F17 := fun_mk (st := sWo) l17 c17 k17
 have b17 := F17.binds (ps := ["numbers", "number"]) fun _ _ _ _ _ _ us hl => match us, hl with | [_, _], _ => rfl
 have F18 := fun_mk (st := sCell) l18 c18 k18
 have b18 := F18.binds (ps := ["script", "k"]) fun _ _ _ _ _ _ us hl => match us, hl with | [_, _], _ => rfl
 have F19 := fun_mk (st := sSto) l19 c19 k19
 have b19 := F19.binds (ps := ["cell"]) fun _ _ _ _ _ _ us hl => match us, hl with | [_], _ => rfl
 have F20 := fun_mk (st := sTkT) l20 c20 k20
 have b20 := F20.binds (ps := ["store", "many"]) fun _ _ _ _ _ _ us hl => match us, hl with | [_, _], _ => rfl
 have F21 := fun_mk (st := sNuT) l21 c21 k21
 have b21 := F21.binds (ps := ["store"]) fun _ _ _ _ _ _ us hl => match us, hl with | [_], _ => rfl
 have F22 := fun_mk (st := sPlT) l22 c22 k22
 have b22 := F22.binds (ps := ["store"]) fun _ _ _ _ _ _ us hl => match us, hl with | [_], _ => rfl
 have F23 := fun_mk (st := sCopy) l23 c23 k23
 have b23 := F23.binds (ps := ["plan"]) fun _ _ _ _ _ _ us hl => match us, hl with | [_], _ => rfl
 have F24 := fun_mk (st := sNop) l24 c24 k24
 have b24 := F24.binds (ps := ["store", "plan"]) fun _ _ _ _ _ _ us hl => match us, hl with | [_, _], _ => rfl
 have F25 := fun_mk (st := sKnd) l25 c25 k25
 have b25 := F25.binds (ps := ["e", "due"]) fun _ _ _ _ _ _ us hl => match us, hl with | [_, _], _ => rfl
 have F26 := fun_mk (st := sDone) l26 c26 k26
 have b26 := F26.binds (ps := ["keeper", "deed"]) fun _ _ _ _ _ _ us hl => match us, hl with | [_, _], _ => rfl
 have F27 := fun_mk (st := sAsk) l27 c27 k27
 have b27 := F27.binds (ps := ["keeper", "deed", "due"]) fun _ _ _ _ _ _ us hl => match us, hl with | [_, _, _], _ => rfl
 have F28 := fun_mk (st := sOd) l28 c28 k28
 have b28 := F28.binds (ps := ["store"]) fun _ _ _ _ _ _ us hl => match us, hl with | [_], _ => rfl
 have F29 := fun_mk (st := sThe) l29 c29 k29
 have b29 := F29.binds (ps := ["store", "here"]) fun _ _ _ _ _ _ us hl => match us, hl with | [_, _], _ => rfl
 have F30 := fun_mk (st := sAll) l30 c30 k30
 have b30 := F30.binds (ps := ["store", "keeper", "plan"]) fun _ _ _ _ _ _ us hl => match us, hl with | [_, _, _], _ => rfl
 have F31 := fun_mk (st := sNok) l31 c31 k31
 have b31 := F31.binds (ps := ["bad"]) fun _ _ _ _ _ _ us hl => match us, hl with | [_], _ => rfl
 have F32 := fun_mk (st := sLaw) l32 c32 k32
 have b32 := F32.binds (ps := ["script"]) fun _ _ _ _ _ _ us hl => match us, hl with | [_], _ => rfl
 have F33 := fun_mk (st := sIni) l33 c33 k33
 have b33 := F33.binds (ps := ["self", "plan", "first_places", "last_places"]) fun _ _ _ _ _ _ us hl => match us, hl with | [_, _, _, _], _ => rfl
 have F34 := fun_mk (st := sCan) l34 c34 k34
 have b34 := F34.binds (ps := ["self", "left", "end"]) fun _ _ _ _ _ _ us hl => match us, hl with | [_, _, _], _ => rfl
 have F35 := fun_mk (st := sFst) l35 c35 k35
 have b35 := F35.binds (ps := ["self", "left", "end"]) fun _ _ _ _ _ _ us hl => match us, hl with | [_, _, _], _ => rfl
 have F36 := fun_mk (st := sFnd) l36 c36 k36
 have b36 := F36.binds (ps := ["self"]) fun _ _ _ _ _ _ us hl => match us, hl with | [_], _ => rfl
 have F37 := fun_mk (st := sSteps) l37 c37 k37
 have b37 := F37.binds (ps := ["self", "left", "end"]) fun _ _ _ _ _ _ us hl => match us, hl with | [_, _, _], _ => rfl
 have F38 := fun_mk (st := sTIn) l38 c38 k38
 have b38 := F38.binds (ps := ["self", "plan", "first_places", "last_places"]) fun _ _ _ _ _ _ us hl => match us, hl with | [_, _, _, _], _ => rfl
 have F39 := fun_mk (st := sWy) l39 c39 k39
 have b39 := F39.binds (ps := ["self", "left", "end"]) fun _ _ _ _ _ _ us hl => match us, hl with | [_, _, _], _ => rfl
 have F40 := fun_mk (st := sWb) l40 c40 k40
 have b40 := F40.binds (ps := ["self", "left", "place"]) fun _ _ _ _ _ _ us hl => match us, hl with | [_, _, _], _ => rfl
 have F41 := fun_mk (st := sAw) l41 c41 k41
 have b41 := F41.binds (ps := ["self"]) fun _ _ _ _ _ _ us hl => match us, hl with | [_], _ => rfl
 have F42 := fun_mk (st := sSteps) l42 c42 k42
 have b42 := F42.binds (ps := ["self", "left", "end"]) fun _ _ _ _ _ _ us hl => match us, hl with | [_, _, _], _ => rfl
 have F43 := fun_mk (st := sKIn) l43 c43 k43
 have b43 := F43.binds (ps := ["self", "plan"]) fun _ _ _ _ _ _ us hl => match us, hl with | [_, _], _ => rfl
 have F44 := fun_mk (st := sKPl) l44 c44 k44
 have b44 := F44.binds (ps := ["self"]) fun _ _ _ _ _ _ us hl => match us, hl with | [_], _ => rfl
 have F45 := fun_mk (st := sKCt) l45 c45 k45
 have b45 := F45.binds (ps := ["self"]) fun _ _ _ _ _ _ us hl => match us, hl with | [_], _ => rfl
 have F46 := fun_mk (st := sKFi) l46 c46 k46
 have b46 := F46.binds (ps := ["self"]) fun _ _ _ _ _ _ us hl => match us, hl with | [_], _ => rfl
 have F47 := fun_mk (st := sKCh) l47 c47 k47
 have b47 := F47.binds (ps := ["self", "numbers", "sums"]) fun _ _ _ _ _ _ us hl => match us, hl with | [_, _, _], _ => rfl
 have F48 := fun_mk (st := sKCo) l48 c48 k48
 have b48 := F48.binds (ps := ["self", "number"]) fun _ _ _ _ _ _ us hl => match us, hl with | [_, _], _ => rfl
 have F49 := fun_mk (st := sKGo) l49 c49 k49
 have b49 := F49.binds (ps := ["self", "number"]) fun _ _ _ _ _ _ us hl => match us, hl with | [_, _], _ => rfl
 have F50 := fun_mk (st := sKSc) l50 c50 k50
 have b50 := F50.binds (ps := ["self", "number"]) fun _ _ _ _ _ _ us hl => match us, hl with | [_, _], _ => rfl
 have F51 := fun_mk (st := sKSg) l51 c51 k51
 have b51 := F51.binds (ps := ["self", "number"]) fun _ _ _ _ _ _ us hl => match us, hl with | [_, _], _ => rfl
 have F52 := fun_mk (st := sIni0) l52 c52 k52
 have b52 := F52.binds (ps := ["self", "plan", "first_places"]) fun _ _ _ _ _ _ us hl => match us, hl with | [_, _, _], _ => rfl
 refine ⟨PySem.W.fnOf "law" "law" (defArgs sLaw) (defBody sLaw) (defScope sLaw) .none kV32 dc32 pm32 an32 cd32 ct32, fun s v => .of_eq rfl, fun base _ _ => ?_⟩
 have exP : ExD K [x0, x1, x2, x3, x4, x5, x6, x7, x8, x9, x10, x11] XS x0 0 := ⟨kkP, vvP, ⟨gaP, ghP, caP, obP, beP, clP, hn_, htk_⟩, emP, eiP, by decide⟩
 have exN : ExD K [x0, x1, x2, x3, x4, x5, x6, x7, x8, x9, x10, x11] XS x1 1 := ⟨kkN, vvN, ⟨gaN, ghN, caN, obN, beN, clN, hn_, htk_⟩, emN, eiN, by decide⟩
 have exU : ExD K [x0, x1, x2, x3, x4, x5, x6, x7, x8, x9, x10, x11] XS x7 7 := ⟨kkU, vvU, ⟨gaU, ghU, caU, obU, beU, clU, hn_, htk_⟩, emU, eiU, by decide⟩
 have exT : ExD K [x0, x1, x2, x3, x4, x5, x6, x7, x8, x9, x10, x11] XS x8 8 := ⟨kkT, vvT, ⟨gaT, ghT, caT, obT, beT, clT, hn_, htk_⟩, emT, eiT, by decide⟩
 have B4 : Bt4 mg := { len := zb "len" z1, max := zb "max" z2, min := zb "min" z3, range := zb "range" z4, list := zb "list" z5, int := zb "int" z6, all := zb "all" z7, isinstance := zb "isinstance" z8, bool := zb "bool" z9, str := zb "str" z10, tuple := zb "tuple" z11, sorted := zb "sorted" z12, enumerate := zb "enumerate" z13, zip := zb "zip" z14, sum := zb "sum" z15 }
 have B := B4.toBt3
 have TX : ExT mg x0 x1 x2 x3 x4 x5 x6 x7 x8 x9 x10 x11 XS := ⟨M _ _ ax0, M _ _ ax1, M _ _ ax2, M _ _ ax3, M _ _ ax4, M _ _ ax5, M _ _ ax6, M _ _ ax7, M _ _ ax8, M _ _ ax9, M _ _ ax10, M _ _ ax11, M _ _ axS, zb "ValueError" z18⟩
 have TS : SrT2 K C1 := { cl := ⟨pg1, hd1, po1, sa1⟩, nA := nn1_1, nN := nn1_2, nW := nn1_3, nL := nn1_4, nO := nn1_5 }
 have TT : TyT K C2 := { cl := ⟨pg2, hd2, po2, sa2⟩, nA := nn2_1, nN := nn2_2, nW := nn2_3, nL := nn2_4, nK := nn2_5 }
 have TK : KpT K C3 := ⟨⟨pg3, hd3, po3, sa3⟩, nn3_1, nn3_2⟩
 have OW := ok_wholeD (P := l.prog) (w := w) (base := base) F1 B.toBt2
 have OR := ok_riseD F2 B.toBt2 (M _ _ m1) OW b1 k1 (M _ _ a1)
 have OI := ok_isPD F3 B.toBt2 OR b2 k2 (M _ _ a2)
 have OC := ok_ckPD F4 OI b3 k3 (M _ _ a3)
 have OA := ok_add (P := l.prog) (w := w) (mg := mg) (base := base) F5
 have OAP := ok_allP (P := l.prog) (w := w) (base := base) F6 B
 have ON := ok_near F7 B OA b5 k5 (M _ _ a5)
 have ONM := ok_nums (P := l.prog) (w := w) (mg := mg) (base := base) F8
 have OI0 := ok_ini0 F52 B TS.toSrT ON b7 k7 (M _ _ a7)
 have OI1 := ok_ini0 F52 B TT.toSrT ON b7 k7 (M _ _ a7)
 have OIN := ok_ini F33 B TS ⟨ga1, rd1, a52, k52⟩ (M _ _ aB1) OI0 b52
 have OST := ok_steps (P := l.prog) (w := w) (mg := mg) (base := base) F37 TS.toSrT
 have OCA := ok_both F34 F35 TS ⟨a34, i34, k34⟩ ⟨a35, i35, k35⟩ ⟨a37, i37, k37⟩ OST b37 b34 b35 10
 have OFN := ok_fnd (P := l.prog) (w := w) (mg := mg) (base := base) F36 TS
 have OFR := ok_from F9 TS ⟨mk1, a33, i33, kc1⟩ (M _ _ aC1) ⟨a34, i34, k34⟩ ⟨a36, i36, k36⟩ (OIN.mono (by decide)) b33 OCA b34 (OFN.mono (by decide)) b36 (ONM.mono (by decide)) b8 k8 (M _ _ a8)
 have ORW := ok_frow F10 (OC.mono (by decide)) b4 k4 (M _ _ a4) OFR b9 k9 (M _ _ a9) (OAP.mono (by decide)) b6 k6 (M _ _ a6)
 have OTI := ok_tin F38 B TT ⟨ga1, rd1, a52, k52⟩ (M _ _ aB1) OI1 b52
 have OST2 := ok_steps (P := l.prog) (w := w) (mg := mg) (base := base) F42 TT.toSrT
 have OWY := ok_ways F39 F40 B4 TT ⟨a39, i39, k39⟩ ⟨a40, i40, k40⟩ ⟨a42, i42, k42⟩ OST2 b42 b39 b40 10
 have OAW := ok_aw F41 TT ⟨a39, i39, k39⟩ OWY b39
 have OTR := ok_tr F11 ⟨mk2, a38, i38, kc2⟩ (M _ _ aC2) OTI b38 (OAP.mono (by decide)) b6 k6 (M _ _ a6)
 have OCR := ok_cr F12 TT ⟨a41, i41, k41⟩ OAW b41 (OC.mono (by decide)) b4 k4 (M _ _ a4) (OTR.mono (by decide)) b11 k11 (M _ _ a11)
 have ORM := ok_room (P := l.prog) (w := w) (base := base) F13 B (M _ _ m1) exT.i TX.m8
 have OSD := ok_std F14 OW b1 k1 (M _ _ a1)
 have ONE := ok_new F15 OW b1 k1 (M _ _ a1)
 have OWI := ok_wi (P := l.prog) (w := w) (base := base) F16 B
 have OWO := ok_wo (P := l.prog) (w := w) (mg := mg) (base := base) F17
 have OK0 := ok_kin0 F43 B TK (OC.mono (by decide)) b4 k4 (M _ _ a4)
 have OKP := ok_kpl (P := l.prog) (w := w) (base := base) F44 B TK
 have OKC := ok_kct F45 TK ⟨a44, i44, k44⟩ (OKP.mono (by decide)) b44 OCR b12 k12 (M _ _ a12)
 have OKF := ok_kfi F46 TK ⟨a44, i44, k44⟩ (OKP.mono (by decide)) b44 ORW b10 k10 (M _ _ a10)
 have OKH := ok_kch F47 TK ⟨a45, i45, k45⟩ OKC b45
 have OCO := ok_kco F48 B TK exN.i TX.m1 (ORM.mono (by decide)) b13 k13 (M _ _ a13) (ONE.mono (by decide)) b15 k15 (M _ _ a15) (OWI.mono (by decide)) b16 k16 (M _ _ a16) ⟨a47, i47, k47⟩ OKH b47
 have OGO := ok_kgo (XT := x8) F49 B TK exN.i TX.m1 (OSD.mono (by decide)) b14 k14 (M _ _ a14) (OWO.mono (by decide)) b17 k17 (M _ _ a17) ⟨a47, i47, k47⟩ OKH b47
 have OSC := ok_ksc F50 B TK exU.i TX.m7 (ORM.mono (by decide)) b13 k13 (M _ _ a13) (ONE.mono (by decide)) b15 k15 (M _ _ a15) (OWI.mono (by decide)) b16 k16 (M _ _ a16) ⟨a47, i47, k47⟩ OKH b47
 have OSG := ok_ksg (XT := x8) F51 B TK exU.i TX.m7 (OSD.mono (by decide)) b14 k14 (M _ _ a14) (OWO.mono (by decide)) b17 k17 (M _ _ a17) ⟨a47, i47, k47⟩ OKH b47
 have OCE := ok_cell (P := l.prog) (w := w) (base := base) F18 B
 have OSO := ok_stT (P := l.prog) (w := w) (mg := mg) (base := base) F19
 have OT := ok_tkT (P := l.prog) (w := w) (mg := mg) (base := base) F20
 have ONU := ok_nuT F21 B (zb "set" z16) OT b20 k20 (M _ _ a20)
 have OPL := ok_plT F22 B (zb "set" z16) (OT.mono (by decide)) b20 k20 (M _ _ a20) ONU b21 k21 (M _ _ a21)
 have BR : BtR mg := { toBt2 := B.toBt2, repr := zb "repr" z17 }
 have BL : BtL mg := { toBt3 := B, repr := zb "repr" z17 }
 have ODN := ok_done F26 TK ⟨a48, i48, k48⟩ OCO b48 ⟨a49, i49, k49⟩ OGO b49 ⟨a50, i50, k50⟩ OSC b50 ⟨a51, i51, k51⟩ OSG b51
 have OKN := ok_knd (P := l.prog) (w := w) (base := base) F25 B4 TX
 have OAK := ok_ask F27 B.toBt2 TX.mS exT exN exU ODN b26 k26 (M _ _ a26) (OKN.mono (by decide)) b25 k25 (M _ _ a25)
 have OCP := ok_copy (P := l.prog) (w := w) (base := base) F23 B.toBt2
 have OCX := ok_ckX F4 exP.i TX.m0 OI b3 k3 (M _ _ a3)
 have OKX := ok_kinX (C := C3) F43 B OCX b4 k4 (M _ _ a4)
 have ONK := ok_nok F31 TX.mS exP ⟨mk3, a43, i43, kc3⟩ (OKX.mono (by decide)) b43 (M _ _ aC3) (OKN.mono (by decide)) b25 k25 (M _ _ a25)
 have OOD := ok_od F28 OT b20 k20 (M _ _ a20)
 have OTH := ok_the F29 B OT b20 k20 (M _ _ a20)
 have ONP := ok_nopT F24 BR OT b20 k20 (M _ _ a20)
 have OAR := ok_all F30 B (OOD.mono (by decide)) b28 k28 (M _ _ a28) (OTH.mono (by decide)) b29 k29 (M _ _ a29) (OT.mono (by decide)) b20 k20 (M _ _ a20) OAK b27 k27 (M _ _ a27)
 exact ok_law F32 BL TK ⟨mk3, a43, i43, kc3⟩ (M _ _ aC3) (OK0.mono (by decide)) b43 ⟨a44, i44, k44⟩ (OKP.mono (by decide)) b44 ⟨a45, i45, k45⟩ (OKC.mono (by decide)) b45 ⟨a46, i46, k46⟩ (OKF.mono (by decide)) b46 ⟨a50, i50, k50⟩ (OSC.cx0.mono (by decide)) b50 ⟨a51, i51, k51⟩ (OSG.cx0.mono (by decide)) b51 (OCE.mono (by decide)) b18 k18 (M _ _ a18) (OSO.mono (by decide)) b19 k19 (M _ _ a19) (OPL.mono (by decide)) b22 k22 (M _ _ a22) (OT.mono (by decide)) b20 k20 (M _ _ a20) (ONP.mono (by decide)) b24 k24 (M _ _ a24) (OCP.mono (by decide)) b23 k23 (M _ _ a23) (ONK.mono (by decide)) b31 k31 (M _ _ a31) (OAR.mono (by decide)) b30 k30 (M _ _ a30)
theorem walk {l : PySem.W.OpenLaw} {q : Program} {loose : List Str} {XP : (Str → Option Value) → Heap → Prop} {YP : World → Heap → Prop} {d : DefRec} {K : Params → PySem.W.Frag} (hn : l.most = some 63) (hdf : d.params.defaults = [])
  (hY : ∀ (w : World) (h : Heap), YP w h → (K w.params).In h)
  (F : ∀ (w : World) (mg : Str → Option Value) (fa : Addr) (h : Heap), (K w.params).In h → h.Ns mainGlobals mg → mg d.name = some (.ref fa) →
   ∃ fd : FuncData, (∀ (s : Shared) (u : Value), BindsTo s fd ⟨[u], []⟩ [("script", u)]) ∧ ∀ base : Heap, (K w.params).In base → base.Ns mainGlobals mg → FnOk l.prog w (K w.params) mg base CX0 32 fa fd ["script"] (spLaw (K w.params))) :
  PySem.W.WalkO q loose XP YP l.row.toRowW d [] (fun f vs => PySem.call f vs) :=
 L2.walk_of (n := 63) (k := 32) (x := "script") (CX := fun _ => CX0) (sp := fun w => spLaw (K w.params)) hn (by decide) hdf ⟨rfl, by decide, by decide, rfl⟩ hY F (fun _ _ a ns hl _ hS => ⟨a, ns, rfl, hS, hl, fun _ => rfl⟩) fun _ _ _ _ _ z => z
end N40
def PySem.W.Fast.tw7233590262481459138 : Nat := 0
def PySem.W.Fast.tw437623361232035897 : Nat := 0
def PySem.W.Fast.tw18060494219093608576 : Nat := 0
def PySem.W.Fast.tw8290644346518780350 : Nat := 0
def PySem.W.Fast.tw10362707992713397939 : Nat := 0
def PySem.W.Fast.tw1090966613133144048 : Nat := 0
def PySem.W.Fast.tw3782159684573341227 : Nat := 0
def PySem.W.Fast.tw12051244768485868570 : Nat := 0
def PySem.W.Fast.tw7314414027316647775 : Nat := 0
def PySem.W.Fast.tw16802762341317981763 : Nat := 0
def PySem.W.Fast.tw5457175066565192060 : Nat := 0
def PySem.W.Fast.tw12293285763208360022 : Nat := 0
def PySem.W.Fast.tw14291074257212740974 : Nat := 0
def PySem.W.Fast.tw4498200274367219786 : Nat := 0
def PySem.W.Fast.tw8462858453247267299 : Nat := 0
def PySem.W.Fast.tw6696709213107513897 : Nat := 0
def PySem.W.Fast.tw13833053071952401341 : Nat := 0
def PySem.W.Fast.tw17567484579165516566 : Nat := 0
def PySem.W.Fast.tw11441915660520815742 : Nat := 0
def PySem.W.Fast.tw6284792087150226448 : Nat := 0
def PySem.W.Fast.tw13400012361387415110 : Nat := 0
def PySem.W.Fast.tw10313305803509214389 : Nat := 0
def PySem.W.Fast.tw15065338157328612997 : Nat := 0
def PySem.W.Fast.tw7924141047921800753 : Nat := 0
def PySem.W.Fast.tw4977875154385761359 : Nat := 0
def PySem.W.Fast.tw4847257240430179336 : Nat := 0
def PySem.W.Fast.tw14961210333476597268 : Nat := 0
def PySem.W.Fast.tw1134713669499847701 : Nat := 0
def PySem.W.Fast.tw6602665167960276904 : Nat := 0
def PySem.W.Fast.tw9889614660932053243 : Nat := 0
def PySem.W.Fast.tw1837731881309567871 : Nat := 0
def PySem.W.Fast.tw4348854941893246842 : Nat := 0
def PySem.W.Fast.tw5629753237830825363 : Nat := 0
def PySem.W.Fast.tw7682286193222748520 : Nat := 0
def PySem.W.Fast.tw8318548434647701854 : Nat := 0
def PySem.W.Fast.tw11117637701326775050 : Nat := 0
def PySem.W.Fast.tw2148319401670748330 : Nat := 0
def PySem.W.Fast.tw12157988240934523944 : Nat := 0
def PySem.W.Fast.tw9656230335624231505 : Nat := 0
def PySem.W.Fast.tw3628487362929386970 : Nat := 0
def PySem.W.Fast.tw1874306798268869672 : Nat := 0
def PySem.W.Fast.tw7775801839884026231 : Nat := 0
def PySem.W.Fast.tw16299512320250973551 : Nat := 0
def PySem.W.Fast.tw17914410239274479924 : Nat := 0
def PySem.W.Fast.tw10780692521563139785 : Nat := 0
def PySem.W.Fast.tw15279071225723995606 : Nat := 0
def PySem.W.Fast.tw1273201582065026644 : Nat := 0
def PySem.W.Fast.tw5184111853914016288 : Nat := 0
def PySem.W.Fast.tw17289973353791759788 : Nat := 0
def PySem.W.Fast.tw5153633485549007573 : Nat := 0
def PySem.W.Fast.tw14591810844388034845 : Nat := 0
def PySem.W.Fast.tw7530345274295315228 : Nat := 0
def PySem.W.Fast.tw13754938153352656436 : Nat := 0
def PySem.W.Fast.tw5731298552254128286 : Nat := 0
def PySem.W.Fast.tw12177112268835132965 : Nat := 0
def PySem.W.Fast.tw6304456422453685873 : Nat := 0
def PySem.W.Fast.tw7806720557643369695 : Nat := 0
def PySem.W.Fast.tw1891840943022277738 : Nat := 0
def PySem.W.Fast.tw8698409596659048976 : Nat := 0
def PySem.W.Fast.tw15638333020470554922 : Nat := 0
def PySem.W.Fast.tw8708334725677033756 : Nat := 0
def PySem.W.Fast.tw16824649297816245236 : Nat := 0
def PySem.W.Fast.tw12720556961657898056 : Nat := 0
def PySem.W.Fast.tw7591260259152914321 : Nat := 0
def PySem.W.Fast.tw7683902164964342787 : Nat := 0
def PySem.W.Fast.tw7792842576645328454 : Nat := 0
def PySem.W.Fast.tw9057347210726362672 : Nat := 0
def PySem.W.Fast.tw16708113370907006143 : Nat := 0
def PySem.W.Fast.tw8834287448453918321 : Nat := 0
def PySem.W.Fast.tw10141968056549783112 : Nat := 0
def PySem.W.Fast.tw9483847301592870896 : Nat := 0
def PySem.W.Fast.tw10384878643415181760 : Nat := 0
def PySem.W.Fast.tw12437612215741020946 : Nat := 0
def PySem.W.Fast.tw9465631503639354032 : Nat := 0
def PySem.W.Fast.tw13641865240497812285 : Nat := 0
def PySem.W.Fast.tw8387595490479170826 : Nat := 0
def PySem.W.Fast.tw16668157728062030103 : Nat := 0
def PySem.W.Fast.tw14626284164904954165 : Nat := 0
def PySem.W.Fast.tw14475178757302086844 : Nat := 0
def PySem.W.Fast.tw9343932304276189712 : Nat := 0
def PySem.W.Fast.tw17319750522906312012 : Nat := 0
def PySem.W.Fast.tw16391339851466423129 : Nat := 0
def PySem.W.Fast.tw17643605327129901837 : Nat := 0
def PySem.W.Fast.tw6451301847071174571 : Nat := 0
def PySem.W.Fast.tw11480183255029040585 : Nat := 0
def PySem.W.Fast.tw16515487967117051292 : Nat := 0
def PySem.W.Fast.tw12859872971535763758 : Nat := 0
def PySem.W.Fast.tw11821113644074848910 : Nat := 0
def PySem.W.Fast.tw10020287804379593043 : Nat := 0
def PySem.W.Fast.tw15999231992323520785 : Nat := 0
def PySem.W.Fast.tw13417731106206336141 : Nat := 0
def PySem.W.Fast.tw6425872383362279058 : Nat := 0
def PySem.W.Fast.tw18200857853012451998 : Nat := 0
def PySem.W.Fast.tw16948185574421441667 : Nat := 0
def PySem.W.Fast.tw10410795114453303634 : Nat := 0
def PySem.W.Fast.tw14360440439806144279 : Nat := 0
def PySem.W.Fast.tw2071899469927777030 : Nat := 0
def PySem.W.Fast.tw14152309202604288120 : Nat := 0
def PySem.W.Fast.tw17943239107822987756 : Nat := 0
def PySem.W.Fast.tw13186659903819976158 : Nat := 0
def PySem.W.Fast.tw14477060539989694367 : Nat := 0
def PySem.W.Fast.tw14250782381460164291 : Nat := 0
def PySem.W.Fast.tw13704480651511477228 : Nat := 0
def PySem.W.Fast.tw9270803048127370500 : Nat := 0
def PySem.W.Fast.tw12790253361049212368 : Nat := 0
def PySem.W.Fast.tw13167366595462735082 : Nat := 0
def PySem.W.Fast.tw11160032125800652612 : Nat := 0
def PySem.W.Fast.tw10091997175790325864 : Nat := 0
def PySem.W.Fast.tw6441184676300112684 : Nat := 0
def PySem.W.Fast.tw7890968355892979758 : Nat := 0
def PySem.W.Fast.tw12603466883920793412 : Nat := 0
def PySem.W.Fast.tw18257151602451182631 : Nat := 0
def PySem.W.Fast.tw3316143392653533110 : Nat := 0
def PySem.W.Fast.tw6568246528377106902 : Nat := 0
def PySem.W.Fast.tw2306686523184763152 : Nat := 0
def PySem.W.Fast.tw18385468051334149062 : Nat := 0
def PySem.W.Fast.tw3412409417537751958 : Nat := 0
def PySem.W.Fast.tw1289123249692042002 : Nat := 0
def PySem.W.Fast.tw11188315210599890746 : Nat := 0
def PySem.W.Fast.tw693670007849757251 : Nat := 0
def PySem.W.Fast.tw15690705684367983204 : Nat := 0
def PySem.W.Fast.tw14345621300074565711 : Nat := 0
def PySem.W.Fast.tw10400544178044491964 : Nat := 0
def PySem.W.Fast.tw15997899021691112074 : Nat := 0
def PySem.W.Fast.tw9937798267930482911 : Nat := 0
def PySem.W.Fast.tw15459242174659616323 : Nat := 0
def PySem.W.Fast.tw15165902560732343664 : Nat := 0
def PySem.W.Fast.tw16800245475812707787 : Nat := 0
def PySem.W.Fast.tw17668448564487679028 : Nat := 0
def PySem.W.Fast.tw8225727701143657180 : Nat := 0
def PySem.W.Fast.tw14192113501290913107 : Nat := 0
def PySem.W.Fast.tw5537549249676806385 : Nat := 0
def PySem.W.Fast.tw18367543272885769109 : Nat := 0
def PySem.W.Fast.tw11439335644459776420 : Nat := 0
def PySem.W.Fast.tw9812153606903081466 : Nat := 0
def PySem.W.Fast.tw18341045498192210975 : Nat := 0
def PySem.W.Fast.tw18117856747947780287 : Nat := 0
def PySem.W.Fast.tw5121806950757681465 : Nat := 0
def PySem.W.Fast.tw10818108609669320258 : Nat := 0
def PySem.W.Fast.tw12579117397594241173 : Nat := 0
def PySem.W.Fast.tw11037966849225482079 : Nat := 0
def PySem.W.Fast.tw3719374490832840660 : Nat := 0
def PySem.W.Fast.tw12906548665250256682 : Nat := 0
def PySem.W.Fast.tw4840979495790228647 : Nat := 0
def PySem.W.Fast.tw10631999718504869006 : Nat := 0
def PySem.W.Fast.tw2199350800772957450 : Nat := 0
open PySem PySem.W PyProof.Rows
set_option maxRecDepth 100000 in
set_option maxHeartbeats 0 in
theorem PySem.Challenge.cw_nearsums_k40_what_a_keeper_refuses_holds : PySem.Challenge.rw_nearsums_k40_what_a_keeper_refuses.Holds := by
 w_on; o_law; k_head; (case hw => w_witness2)
 k_fill
 refine N40.walk (l := PySem.Challenge.rw_nearsums_k40_what_a_keeper_refuses) rfl rfl (fun w h Y => PySem.W.kIn_of Y) ?F
 case F =>
  intro w mg fa h KX G hmg
  refine' N40.all_mk KX G hmg ?a1 ?l1 ?c1 ?k1 ?a2 ?l2 ?c2 ?k2 ?a3 ?l3 ?c3 ?k3 ?a4 ?l4 ?c4 ?k4 ?a5 ?l5 ?c5 ?k5 ?a6 ?l6 ?c6 ?k6 ?a7 ?l7 ?c7 ?k7 ?a8 ?l8 ?c8 ?k8 ?a9 ?l9 ?c9 ?k9 ?a10 ?l10 ?c10 ?k10 ?a11 ?l11 ?c11 ?k11 ?a12 ?l12 ?c12 ?k12 ?a13 ?l13 ?c13 ?k13 ?a14 ?l14 ?c14 ?k14 ?a15 ?l15 ?c15 ?k15 ?a16 ?l16 ?c16 ?k16 ?a17 ?l17 ?c17 ?k17 ?a18 ?l18 ?c18 ?k18 ?a19 ?l19 ?c19 ?k19 ?a20 ?l20 ?c20 ?k20 ?a21 ?l21 ?c21 ?k21 ?a22 ?l22 ?c22 ?k22 ?a23 ?l23 ?c23 ?k23 ?a24 ?l24 ?c24 ?k24 ?a25 ?l25 ?c25 ?k25 ?a26 ?l26 ?c26 ?k26 ?a27 ?l27 ?c27 ?k27 ?a28 ?l28 ?c28 ?k28 ?a29 ?l29 ?c29 ?k29 ?a30 ?l30 ?c30 ?k30 ?a31 ?l31 ?c31 ?k31 ?a32 ?l32 ?c32 ?k32 ?aC1 ?pg1 ?hd1 ?po1 ?sa1 ?mk1 ?kc1 ?nn1_1 ?nn1_2 ?nn1_3 ?nn1_4 ?nn1_5 ?aC2 ?pg2 ?hd2 ?po2 ?sa2 ?mk2 ?kc2 ?nn2_1 ?nn2_2 ?nn2_3 ?nn2_4 ?nn2_5 ?aC3 ?pg3 ?hd3 ?po3 ?sa3 ?mk3 ?kc3 ?nn3_1 ?nn3_2 ?aB1 ?ty1 ?ga1 ?rd1 ?a33 ?i33 ?l33 ?c33 ?k33 ?a34 ?i34 ?l34 ?c34 ?k34 ?a35 ?i35 ?l35 ?c35 ?k35 ?a36 ?i36 ?l36 ?c36 ?k36 ?a37 ?i37 ?l37 ?c37 ?k37 ?a38 ?i38 ?l38 ?c38 ?k38 ?a39 ?i39 ?l39 ?c39 ?k39 ?a40 ?i40 ?l40 ?c40 ?k40 ?a41 ?i41 ?l41 ?c41 ?k41 ?a42 ?i42 ?l42 ?c42 ?k42 ?a43 ?i43 ?l43 ?c43 ?k43 ?a44 ?i44 ?l44 ?c44 ?k44 ?a45 ?i45 ?l45 ?c45 ?k45 ?a46 ?i46 ?l46 ?c46 ?k46 ?a47 ?i47 ?l47 ?c47 ?k47 ?a48 ?i48 ?l48 ?c48 ?k48 ?a49 ?i49 ?l49 ?c49 ?k49 ?a50 ?i50 ?l50 ?c50 ?k50 ?a51 ?i51 ?l51 ?c51 ?k51 ?a52 ?i52 ?l52 ?c52 ?k52 ?m1 ?ax0 ?ax1 ?ax2 ?ax3 ?ax4 ?ax5 ?ax6 ?ax7 ?ax8 ?ax9 ?ax10 ?ax11 ?axS ?gaP ?ghP ?caP ?obP ?beP ?clP ?vvP ?emP ?eiP ?kkP ?gaN ?ghN ?caN ?obN ?beN ?clN ?vvN ?emN ?eiN ?kkN ?gaU ?ghU ?caU ?obU ?beU ?clU ?vvU ?emU ?eiU ?kkU ?gaT ?ghT ?caT ?obT ?beT ?clT ?vvT ?emT ?eiT ?kkT ?hn_ ?htk_ ?z1 ?z2 ?z3 ?z4 ?z5 ?z6 ?z7 ?z8 ?z9 ?z10 ?z11 ?z12 ?z13 ?z14 ?z15 ?z16 ?z17 ?z18
  (case a1 => k_is)
  (case l1 => k_is)
  (case c1 => k_is)
  (case k1 => k_is)
  (case a2 => k_is)
  (case l2 => k_is)
  (case c2 => k_is)
  (case k2 => k_is)
  (case a3 => k_is)
  (case l3 => k_is)
  (case c3 => k_is)
  (case k3 => k_is)
  (case a4 => k_is)
  (case l4 => k_is)
  (case c4 => k_is)
  (case k4 => k_is)
  (case a5 => k_is)
  (case l5 => k_is)
  (case c5 => k_is)
  (case k5 => k_is)
  (case a6 => k_is)
  (case l6 => k_is)
  (case c6 => k_is)
  (case k6 => k_is)
  (case a7 => k_is)
  (case l7 => k_is)
  (case c7 => k_is)
  (case k7 => k_is)
  (case a8 => k_is)
  (case l8 => k_is)
  (case c8 => k_is)
  (case k8 => k_is)
  (case a9 => k_is)
  (case l9 => k_is)
  (case c9 => k_is)
  (case k9 => k_is)
  (case a10 => k_is)
  (case l10 => k_is)
  (case c10 => k_is)
  (case k10 => k_is)
  (case a11 => k_is)
  (case l11 => k_is)
  (case c11 => k_is)
  (case k11 => k_is)
  (case a12 => k_is)
  (case l12 => k_is)
  (case c12 => k_is)
  (case k12 => k_is)
  (case a13 => k_is)
  (case l13 => k_is)
  (case c13 => k_is)
  (case k13 => k_is)
  (case a14 => k_is)
  (case l14 => k_is)
  (case c14 => k_is)
  (case k14 => k_is)
  (case a15 => k_is)
  (case l15 => k_is)
  (case c15 => k_is)
  (case k15 => k_is)
  (case a16 => k_is)
  (case l16 => k_is)
  (case c16 => k_is)
  (case k16 => k_is)
  (case a17 => k_is)
  (case l17 => k_is)
  (case c17 => k_is)
  (case k17 => k_is)
  (case a18 => k_is)
  (case l18 => k_is)
  (case c18 => k_is)
  (case k18 => k_is)
  (case a19 => k_is)
  (case l19 => k_is)
  (case c19 => k_is)
  (case k19 => k_is)
  (case a20 => k_is)
  (case l20 => k_is)
  (case c20 => k_is)
  (case k20 => k_is)
  (case a21 => k_is)
  (case l21 => k_is)
  (case c21 => k_is)
  (case k21 => k_is)
  (case a22 => k_is)
  (case l22 => k_is)
  (case c22 => k_is)
  (case k22 => k_is)
  (case a23 => k_is)
  (case l23 => k_is)
  (case c23 => k_is)
  (case k23 => k_is)
  (case a24 => k_is)
  (case l24 => k_is)
  (case c24 => k_is)
  (case k24 => k_is)
  (case a25 => k_is)
  (case l25 => k_is)
  (case c25 => k_is)
  (case k25 => k_is)
  (case a26 => k_is)
  (case l26 => k_is)
  (case c26 => k_is)
  (case k26 => k_is)
  (case a27 => k_is)
  (case l27 => k_is)
  (case c27 => k_is)
  (case k27 => k_is)
  (case a28 => k_is)
  (case l28 => k_is)
  (case c28 => k_is)
  (case k28 => k_is)
  (case a29 => k_is)
  (case l29 => k_is)
  (case c29 => k_is)
  (case k29 => k_is)
  (case a30 => k_is)
  (case l30 => k_is)
  (case c30 => k_is)
  (case k30 => k_is)
  (case a31 => k_is)
  (case l31 => k_is)
  (case c31 => k_is)
  (case k31 => k_is)
  (case a32 => k_is)
  (case l32 => k_is)
  (case c32 => k_is)
  (case k32 => k_is)
  (case aC1 => k_is)
  (case pg1 => k_is)
  (case hd1 => k_is)
  (case po1 => k_is)
  (case sa1 => k_is)
  (case mk1 => k_is)
  (case kc1 => k_is)
  (case nn1_1 => k_is)
  (case nn1_2 => k_is)
  (case nn1_3 => k_is)
  (case nn1_4 => k_is)
  (case nn1_5 => k_is)
  (case aC2 => k_is)
  (case pg2 => k_is)
  (case hd2 => k_is)
  (case po2 => k_is)
  (case sa2 => k_is)
  (case mk2 => k_is)
  (case kc2 => k_is)
  (case nn2_1 => k_is)
  (case nn2_2 => k_is)
  (case nn2_3 => k_is)
  (case nn2_4 => k_is)
  (case nn2_5 => k_is)
  (case aC3 => k_is)
  (case pg3 => k_is)
  (case hd3 => k_is)
  (case po3 => k_is)
  (case sa3 => k_is)
  (case mk3 => k_is)
  (case kc3 => k_is)
  (case nn3_1 => k_is)
  (case nn3_2 => k_is)
  (case aB1 => k_is)
  (case ty1 => k_is)
  (case ga1 => k_is)
  (case rd1 => k_is)
  (case a33 => k_is)
  (case i33 => k_is)
  (case l33 => k_is)
  (case c33 => k_is)
  (case k33 => k_is)
  (case a34 => k_is)
  (case i34 => k_is)
  (case l34 => k_is)
  (case c34 => k_is)
  (case k34 => k_is)
  (case a35 => k_is)
  (case i35 => k_is)
  (case l35 => k_is)
  (case c35 => k_is)
  (case k35 => k_is)
  (case a36 => k_is)
  (case i36 => k_is)
  (case l36 => k_is)
  (case c36 => k_is)
  (case k36 => k_is)
  (case a37 => k_is)
  (case i37 => k_is)
  (case l37 => k_is)
  (case c37 => k_is)
  (case k37 => k_is)
  (case a38 => k_is)
  (case i38 => k_is)
  (case l38 => k_is)
  (case c38 => k_is)
  (case k38 => k_is)
  (case a39 => k_is)
  (case i39 => k_is)
  (case l39 => k_is)
  (case c39 => k_is)
  (case k39 => k_is)
  (case a40 => k_is)
  (case i40 => k_is)
  (case l40 => k_is)
  (case c40 => k_is)
  (case k40 => k_is)
  (case a41 => k_is)
  (case i41 => k_is)
  (case l41 => k_is)
  (case c41 => k_is)
  (case k41 => k_is)
  (case a42 => k_is)
  (case i42 => k_is)
  (case l42 => k_is)
  (case c42 => k_is)
  (case k42 => k_is)
  (case a43 => k_is)
  (case i43 => k_is)
  (case l43 => k_is)
  (case c43 => k_is)
  (case k43 => k_is)
  (case a44 => k_is)
  (case i44 => k_is)
  (case l44 => k_is)
  (case c44 => k_is)
  (case k44 => k_is)
  (case a45 => k_is)
  (case i45 => k_is)
  (case l45 => k_is)
  (case c45 => k_is)
  (case k45 => k_is)
  (case a46 => k_is)
  (case i46 => k_is)
  (case l46 => k_is)
  (case c46 => k_is)
  (case k46 => k_is)
  (case a47 => k_is)
  (case i47 => k_is)
  (case l47 => k_is)
  (case c47 => k_is)
  (case k47 => k_is)
  (case a48 => k_is)
  (case i48 => k_is)
  (case l48 => k_is)
  (case c48 => k_is)
  (case k48 => k_is)
  (case a49 => k_is)
  (case i49 => k_is)
  (case l49 => k_is)
  (case c49 => k_is)
  (case k49 => k_is)
  (case a50 => k_is)
  (case i50 => k_is)
  (case l50 => k_is)
  (case c50 => k_is)
  (case k50 => k_is)
  (case a51 => k_is)
  (case i51 => k_is)
  (case l51 => k_is)
  (case c51 => k_is)
  (case k51 => k_is)
  (case a52 => k_is)
  (case i52 => k_is)
  (case l52 => k_is)
  (case c52 => k_is)
  (case k52 => k_is)
  (case m1 => k_is)
  (case ax0 => k_is)
  (case ax1 => k_is)
  (case ax2 => k_is)
  (case ax3 => k_is)
  (case ax4 => k_is)
  (case ax5 => k_is)
  (case ax6 => k_is)
  (case ax7 => k_is)
  (case ax8 => k_is)
  (case ax9 => k_is)
  (case ax10 => k_is)
  (case ax11 => k_is)
  (case axS => k_is)
  (case gaP => k_is)
  (case ghP => k_is)
  (case caP => k_is)
  (case obP => k_is)
  (case beP => k_is)
  (case clP => kernel_rfl)
  (case vvP => kernel_rfl)
  (case emP => kernel_rfl)
  (case eiP => kernel_rfl)
  (case kkP => kernel_rfl)
  (case gaN => k_is)
  (case ghN => k_is)
  (case caN => k_is)
  (case obN => k_is)
  (case beN => k_is)
  (case clN => kernel_rfl)
  (case vvN => kernel_rfl)
  (case emN => kernel_rfl)
  (case eiN => kernel_rfl)
  (case kkN => kernel_rfl)
  (case gaU => k_is)
  (case ghU => k_is)
  (case caU => k_is)
  (case obU => k_is)
  (case beU => k_is)
  (case clU => kernel_rfl)
  (case vvU => kernel_rfl)
  (case emU => kernel_rfl)
  (case eiU => kernel_rfl)
  (case kkU => kernel_rfl)
  (case gaT => k_is)
  (case ghT => k_is)
  (case caT => k_is)
  (case obT => k_is)
  (case beT => k_is)
  (case clT => kernel_rfl)
  (case vvT => kernel_rfl)
  (case emT => kernel_rfl)
  (case eiT => kernel_rfl)
  (case kkT => kernel_rfl)
  (case hn_ => k_is)
  (case htk_ => k_is)
  (case z1 => k_is)
  (case z2 => k_is)
  (case z3 => k_is)
  (case z4 => k_is)
  (case z5 => k_is)
  (case z6 => k_is)
  (case z7 => k_is)
  (case z8 => k_is)
  (case z9 => k_is)
  (case z10 => k_is)
  (case z11 => k_is)
  (case z12 => k_is)
  (case z13 => k_is)
  (case z14 => k_is)
  (case z15 => k_is)
  (case z16 => k_is)
  (case z17 => k_is)
  (case z18 => k_is)
