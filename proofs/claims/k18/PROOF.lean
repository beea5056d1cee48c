import PyProof.Rows.All
import Wide.All
import OpenK.AllK
import Wide.FinOn
import Lean
import PyProof.EqAt
import PyProof.EqKinds
import PyProof.TupleCall
import PyProof.NeKinds
import PyProof.EnumStmt
import PyProof.WalkInts
import PyProof.ZipIter
import PyProof.Rows.ZipGen
import PyProof.Rows.SumAny
import PyProof.Draws
import KE.KSortAsk
import PySem.Challenge.RW_nearsums_k18_whole_counts_together
set_option Elab.async false
set_option linter.all false
set_option maxRecDepth 100000
namespace L2
open PySem PySem.Spec PyProof.Rows
abbrev Key := Sum Int Str
def keyIs : Key → Value → Bool
 | .inl k, v => Value.isInt k v
 | .inr x, v => Value.isStrOf x v
def keyH (w : World) : Key → Int
 | .inl k => hashInt k
 | .inr x => hashStr w x
theorem keyIs_shape : ∀ {k : Key} {v : Value}, keyIs k v = true → (∃ i t, k = Sum.inl i ∧ v = Value.int i t) ∨ (∃ x t, k = Sum.inr x ∧ v = Value.str x t)
 | .inl i, v, h => by
  obtain ⟨t, e⟩ := Value.isInt_shape (k := i) (v := v) h
  exact .inl ⟨i, t, rfl, e⟩
 | .inr x, v, h => by
  obtain ⟨t, e⟩ := Value.isStrOf_shape (x := x) (v := v) h
  exact .inr ⟨x, t, rfl, e⟩
theorem keyIs_int (i : Int) (t : Tok) : keyIs (.inl i) (.int i t) = true := by simp [keyIs, Value.isInt]
theorem keyIs_str (x : Str) (t : Tok) : keyIs (.inr x) (.str x t) = true := by simp [keyIs, Value.isStrOf]
theorem key_ll (a b : Int) : decide ((Sum.inl a : Key) = Sum.inl b) = (a == b) := by
 by_cases e : a = b
 ·subst e; simp
 ·have h : ¬ (Sum.inl a : Key) = Sum.inl b := fun q => e (Sum.inl.inj q)
  rw [decide_eq_false h]
  exact (beq_eq_false_iff_ne.mpr e).symm
theorem key_rr (a b : Str) : decide ((Sum.inr a : Key) = Sum.inr b) = decide (a = b) := by
 by_cases e : a = b
 ·subst e; simp
 ·have h : ¬ (Sum.inr a : Key) = Sum.inr b := fun q => e (Sum.inr.inj q)
  rw [decide_eq_false h, decide_eq_false e]
theorem key_lr (a : Int) (b : Str) : decide ((Sum.inl a : Key) = Sum.inr b) = false := decide_eq_false (fun q => nomatch q)
theorem key_rl (a : Str) (b : Int) : decide ((Sum.inr a : Key) = Sum.inl b) = false := decide_eq_false (fun q => nomatch q)
def mixKind (prog : Program) (w : World) : PySem.KeyKind prog w Key where
 is := keyIs
 hash := keyH w
 inj := fun v a b ha hb => by
  rcases keyIs_shape ha with ⟨i, t, rfl, rfl⟩ | ⟨x, t, rfl, rfl⟩
  ·rcases keyIs_shape hb with ⟨j, u, rfl, e⟩ | ⟨y, u, rfl, e⟩
   ·injection e with e1 _; rw [e1]
   ·exact nomatch e
  ·rcases keyIs_shape hb with ⟨j, u, rfl, e⟩ | ⟨y, u, rfl, e⟩
   ·exact nomatch e
   ·injection e with e1 _; rw [e1]
 byValue := fun k v h => by
  rcases keyIs_shape h with ⟨i, t, rfl, rfl⟩ | ⟨x, t, rfl, rfl⟩ <;> rfl
 pyHash := fun hv h => by
  rcases keyIs_shape hv with ⟨i, t, rfl, rfl⟩ | ⟨x, t, rfl, rfl⟩
  ·exact wpAny_pyHash_int h
  ·exact wpAny_pyHash_str h
 eqBool := fun hu hv h => by
  rcases keyIs_shape hu with ⟨i, t, rfl, rfl⟩ | ⟨x, t, rfl, rfl⟩
  ·rcases keyIs_shape hv with ⟨j, u, rfl, rfl⟩ | ⟨y, u, rfl, rfl⟩
   ·rw [key_ll] at h; exact wpAny_eqBool_int h
   ·rw [key_lr] at h; exact SeqAt.EqAt.int_str i t y u _ _ _ _ h
  ·rcases keyIs_shape hv with ⟨j, u, rfl, rfl⟩ | ⟨y, u, rfl, rfl⟩
   ·rw [key_rl] at h; exact SeqAt.EqAt.str_int x t j u _ _ _ _ h
   ·rw [key_rr] at h; exact wpAny_eqBool_str h
 «strs» := fun k x t v h => by
  rcases keyIs_shape h with ⟨i, u, rfl, e⟩ | ⟨y, u, rfl, e⟩
  ·exact nomatch e
  ·injection e with e1 _
   subst e1
   cases v <;> rfl
theorem mixKind_int (prog : Program) (w : World) (i : Int) (t : Tok) : (mixKind prog w).is (.inl i) (.int i t) = true := keyIs_int i t
theorem mixKind_str (prog : Program) (w : World) (x : Str) (t : Tok) : (mixKind prog w).is (.inr x) (.str x t) = true := keyIs_str x t
end L2
namespace L2
open PySem PySem.Spec PyProof.Rows
inductive V where
 | non | bl (b : Bool) | int (i : Int) | str (x : Str) | byt (b : Array UInt8) | flt (b : UInt64) | ref (a : Addr) | ty (n : String)
 deriving DecidableEq
def RelV : V → Value → Prop
 | .non, u => u = Value.none
 | .bl b, u => u = Value.bool b
 | .int i, u => ∃ t, u = Value.int i t
 | .str x, u => ∃ t, u = Value.str x t
 | .byt b, u => ∃ t, u = Value.bytes b t
 | .flt b, u => ∃ t, u = Value.float b t
 | .ref a, u => u = Value.ref a
 | .ty n, u => u = Value.type n
abbrev Vals : List V → List Value → Prop := Paired RelV
theorem Vals.length {xs : List V} {us : List Value} (r : Vals xs us) : xs.length = us.length := Paired.length r
theorem Vals.get : ∀ {xs : List V} {us : List Value} {i : Nat} {x : V}, Vals xs us → xs[i]? = some x → ∃ u, us[i]? = some u ∧ RelV x u
 | _, _, _, _, .nil, e => by simp at e
 | _, _, 0, _, .cons r _, e => by simp at e; subst e; exact ⟨_, rfl, r⟩
 | _, _, i + 1, x, .cons _ t, e => by
  obtain ⟨u, h1, h2⟩ := Vals.get (i := i) (x := x) t (by simpa using e)
  exact ⟨u, by simpa using h1, h2⟩
theorem Vals.set {x : V} {u : Value} (r : RelV x u) : ∀ {xs : List V} {us : List Value} (i : Nat), Vals xs us → Vals (xs.set i x) (us.set i u)
 | _, _, _, .nil => .nil
 | _, _, 0, .cons _ t => .cons r t
 | _, _, i + 1, .cons q t => .cons q (Vals.set r i t)
theorem Vals.append : ∀ {xs ys : List V} {us ws : List Value}, Vals xs us → Vals ys ws → Vals (xs ++ ys) (us ++ ws)
 | _, _, _, _, .nil, s => s
 | _, _, _, _, .cons r t, s => .cons r (Vals.append t s)
theorem Vals.take : ∀ {xs : List V} {us : List Value} (n : Nat), Vals xs us → Vals (xs.take n) (us.take n)
 | _, _, 0, _ => .nil
 | _, _, _ + 1, .nil => .nil
 | _, _, n + 1, .cons r t => .cons r (Vals.take n t)
theorem Vals.drop : ∀ {xs : List V} {us : List Value} (n : Nat), Vals xs us → Vals (xs.drop n) (us.drop n)
 | _, _, 0, r => r
 | _, _, _ + 1, .nil => .nil
 | _, _, n + 1, .cons _ t => Vals.drop n t
def RelO : Option V → Option Value → Prop
 | some v, some u => RelV v u
 | none, none => True
 | _, _ => False
def KV {κ : Type} : List (κ × V) → List (κ × Value) → Prop := Paired fun (p : κ × V) (q : κ × Value) => p.1 = q.1 ∧ RelV p.2 q.2
def kV : Key → V
 | .inl i => .int i
 | .inr x => .str x
inductive HO where
  | lst (xs : List V)
  | tup (xs : List V)
  | dK (kvs : List (Key × V)) | dT (kvs : List (List Key × V))
  | set (S : Int → Bool) (n : Nat)
  | ins (C dx : Addr) (fs : List (Str × V))
  | own (x : Addr)
  | xd (fs : List (Str × V))
  | met (f x : Addr)
  | rng (lo hi : Int)
  | frz (o : Obj) (u : HO)
  | tbl (ps : Array Value)
  | ext (φ : Heap → Prop)
abbrev Hp := Addr → Option HO
def upd (H : Hp) (a : Addr) (o : HO) : Hp := fun b => if b = a then some o else H b
theorem upd_same {H : Hp} {a : Addr} {o : HO} : upd H a o a = some o := by unfold upd; rw [if_pos rfl]
theorem upd_ne {H : Hp} {a b : Addr} {o : HO} (h : b ≠ a) : upd H a o b = H b := by unfold upd; rw [if_neg h]
theorem upd_upd {H : Hp} {a : Addr} {o u : HO} : upd (upd H a o) a u = upd H a u := by
 funext b; unfold upd; split <;> rfl
theorem ne_of {H : Hp} {a b : Addr} {o u : HO} (h : H a = some o) (h' : H b = some u) (d : o ≠ u) : a ≠ b := by
 intro e; subst e; rw [h] at h'; exact d (Option.some.inj h')
theorem ne_of_none {H : Hp} {a b : Addr} {o : HO} (h : H a = some o) (h' : H b = none) : a ≠ b := by
 intro e; subst e; rw [h] at h'; cases h'
section
variable (P : Program) (w : World)
def ObjOk (H : Hp) (h : Heap) (a : Addr) : HO → Prop
 | .lst xs => xs.length ≤ sizeLine ∧ ∃ (its : List Value) (n : Nat), Vals xs its ∧ h.get? a = some { cls := .type "list", data := .seq its.toArray n }
 | .tup xs => xs.length ≤ sizeLine ∧ ∃ its : List Value, Vals xs its ∧ IsTup h a its.toArray
 | .dK kvs => kvs.length ≤ sizeLine ∧ (a == sysModules) = false ∧ ∃ vs, KV kvs vs ∧ h.DictOf (mixKind P w) a vs
 | .dT kvs => kvs.length ≤ sizeLine ∧ (a == sysModules) = false ∧ ∃ xs : List (List Key × Addr × Value),
   Paired (fun (p : List Key × V) (q : List Key × Addr × Value) => p.1 = q.1 ∧ H q.2.1 = some (.tup (p.1.map kV)) ∧ RelV p.2 q.2.2) kvs xs ∧
   ∃ o es ep, h.get? a = some o ∧ o.ExactDict ∧ o.data = .dict es ep ∧ es.toList = xs.map (entryOfKey (tupleKind (mixKind P w))) ∧ (xs.map (·.1)).Nodup
 | .set S n => h.SetOf (intKind P w) a S n
 | .ins C dx fs => H dx = some (.own a) ∧ fs.length ≤ 1000 ∧ dx ≠ a ∧ h.get? a = some (PySem.W.instObj C dx) ∧
   ∃ mA, h.Ns1 dx mA ∧ (∀ f, RelO (fs.lookup f) (mA f)) ∧ PySem.Within mA (fs.map (·.1))
 | .own _ => ∃ o, h.get? a = some o
 | .xd fs => ∃ mA, h.Ns1 a mA ∧ ∀ f, RelO (fs.lookup f) (mA f)
 | .rng lo hi => ∃ t u v, h.get? a = some { cls := .type "range", data := .fields #[.int lo t, .int hi u, .int 1 v] }
 | .frz o u => h.get? a = some o ∧ ObjOk H h a u
 | .tbl ps => h.get? a = some { cls := .none, data := .fields ps }
 | .met f x => h.get? a = some (PySem.W.methodObj (.ref f) (.ref x))
 | .ext φ => φ h ∧ (∃ o, h.get? a = some o) ∧ ∀ h1 h2 : Heap, φ h1 → (∀ o, h1.get? a = some o → h2.get? a = some o) → φ h2
def HOk (H : Hp) (h : Heap) : Prop := ∀ a o, H a = some o → ObjOk P w H h a o
end
section
variable {P : Program} {w : World} {H H' : Hp} {h h' : Heap} {a : Addr} {o : HO}
theorem ObjOk.lt (x : ObjOk P w H h a o) : a < h.objs.size := by
 cases o with
 | lst xs => obtain ⟨_, _, _, _, e⟩ := x; exact Heap.lt_size e
 | tup xs => obtain ⟨_, _, _, p⟩ := x; exact p.lt
 | dK kvs => obtain ⟨_, _, _, _, o, _, _, e, _⟩ := x; exact Heap.lt_size e
 | dT kvs => obtain ⟨_, _, _, _, o, _, _, e, _⟩ := x; exact Heap.lt_size e
 | set S n => obtain ⟨o, _, _, _, e, _⟩ := x; exact Heap.lt_size e
 | ins C dx fs => obtain ⟨_, _, _, e, _⟩ := x; exact Heap.lt_size e
 | own y => obtain ⟨_, e⟩ := x; exact Heap.lt_size e
 | xd fs => obtain ⟨_, ⟨_, _, _, e, _⟩, _⟩ := x; exact Heap.lt_size e
 | rng lo hi => obtain ⟨_, _, _, e⟩ := x; exact Heap.lt_size e
 | frz ob u => obtain ⟨e, _⟩ := x; exact Heap.lt_size e
 | tbl ps => exact Heap.lt_size (show h.get? a = some _ from x)
 | met f y => exact Heap.lt_size (show h.get? a = some _ from x)
 | ext φ => obtain ⟨_, ⟨_, e⟩, _⟩ := x; exact Heap.lt_size e
theorem Paired.mapP {α β : Type} {F G : α → β → Prop} : ∀ {l₁ : List α} {l₂ : List β}, Paired F l₁ l₂ → (∀ a b, F a b → G a b) → Paired G l₁ l₂
 | _, _, .nil, _ => .nil
 | _, _, .cons r t, f => .cons (f _ _ r) (Paired.mapP t f)
theorem ObjOk.stay (x : ObjOk P w H h a o) (k : ∀ b u, (b = a ∨ H b = some (.own a)) → h.get? b = some u → h'.get? b = some u)
  (ho : ∀ b, H b = some (.own a) → H' b = some (.own a)) (ht : ∀ b xs, H b = some (.tup xs) → H' b = some (.tup xs)) : ObjOk P w H' h' a o := by
 induction o with
 | lst xs => obtain ⟨z, its, n, r, e⟩ := x; exact ⟨z, its, n, r, k _ _ (.inl rfl) e⟩
 | tup xs => obtain ⟨z, its, r, ob, e, c⟩ := x; exact ⟨z, its, r, ob, k _ _ (.inl rfl) e, c⟩
 | dK kvs => obtain ⟨z, y, vs, r, ob, es, ep, e, c⟩ := x; exact ⟨z, y, vs, r, ob, es, ep, k _ _ (.inl rfl) e, c⟩
 | dT kvs =>
  obtain ⟨z, y, xs, r, ob, es, ep, e, c⟩ := x
  exact ⟨z, y, xs, Paired.mapP r fun p q z => ⟨z.1, ht _ _ z.2.1, z.2.2⟩, ob, es, ep, k _ _ (.inl rfl) e, c⟩
 | set S n => obtain ⟨ob, es, ep, t, e, c⟩ := x; exact ⟨ob, es, ep, t, k _ _ (.inl rfl) e, c⟩
 | ins C dx fs =>
  obtain ⟨d, z, ne, e, mA, ⟨od, es, ep, e2, c⟩, r⟩ := x
  exact ⟨ho _ d, z, ne, k _ _ (.inl rfl) e, mA, ⟨od, es, ep, k _ _ (.inr d) e2, c⟩, r⟩
 | own y => obtain ⟨ob, e⟩ := x; exact ⟨ob, k _ _ (.inl rfl) e⟩
 | xd fs => obtain ⟨mA, ⟨od, es, ep, e, c⟩, r⟩ := x; exact ⟨mA, ⟨od, es, ep, k _ _ (.inl rfl) e, c⟩, r⟩
 | rng lo hi => obtain ⟨t, u, v, e⟩ := x; exact ⟨t, u, v, k _ _ (.inl rfl) e⟩
 | frz ob u ih => obtain ⟨e, q⟩ := x; exact ⟨k _ _ (.inl rfl) e, ih q⟩
 | tbl ps =>
  have e : h.get? a = some { cls := .none, data := .fields ps } := x
  show h'.get? a = some { cls := .none, data := .fields ps }
  exact k a _ (.inl rfl) e
 | met f y =>
  have e : h.get? a = some (PySem.W.methodObj (.ref f) (.ref y)) := x
  show h'.get? a = some (PySem.W.methodObj (.ref f) (.ref y))
  exact k a _ (.inl rfl) e
 | ext φ => obtain ⟨p, ⟨o, e⟩, st⟩ := x; exact ⟨st _ _ p fun o q => k _ _ (.inl rfl) q, ⟨o, k _ _ (.inl rfl) e⟩, st⟩
theorem HOk.lt (x : HOk P w H h) (e : H a = some o) : a < h.objs.size := (x a o e).lt
theorem HOk.fresh (x : HOk P w H h) (e : h.objs.size ≤ a) : H a = none := by
 cases q : H a with
 | none => rfl
 | some u => exact absurd (Nat.lt_of_lt_of_le (x.lt q) e) (Nat.lt_irrefl _)
theorem HOk.kept (x : HOk P w H h) (k : ∀ b u, h.get? b = some u → h'.get? b = some u) : HOk P w H h' := fun a o e =>
 (x a o e).stay (fun b u _ q => k b u q) (fun _ q => q) fun _ _ q => q
theorem HOk.laid (x : HOk P w H h) (k : ∀ b u, h.get? b = some u → h'.get? b = some u) (hp : h.objs.size ≤ a) (new : ObjOk P w (upd H a o) h' a o) : HOk P w (upd H a o) h' := fun b u e => by
 have hn := x.fresh hp
 by_cases hb : b = a
 ·subst hb; rw [upd_same] at e; cases e; exact new
 ·rw [upd_ne hb] at e
  exact (x b u e).stay (fun c v _ q => k c v q) (fun c q => by rw [upd_ne (ne_of_none q hn)]; exact q) fun c xs q => by rw [upd_ne (ne_of_none q hn)]; exact q
end
def Rd (H : Hp) (a : Addr) (u : HO) : Prop := H a = some u ∨ ∃ o, H a = some (.frz o u)
theorem Rd.ok {P : Program} {w : World} {H : Hp} {h : Heap} {a : Addr} {u : HO} (r : Rd H a u) (x : HOk P w H h) : ObjOk P w H h a u := by
 rcases r with r | ⟨o, r⟩
 ·exact x a u r
 ·obtain ⟨_, q⟩ := x a _ r
  exact q
def Mut : Option HO → Prop
 | some (.lst _) => True
 | some (.dK _) => True
 | some (.dT _) => True
 | some (.set _ _) => True
 | some (.ins _ _ _) => True
 | some (.ext _) => True
 | _ => False
section
variable {P : Program} {w : World} {H : Hp} {h h' : Heap} {x e : Addr} {o' : HO}
theorem HOk.write (ok : HOk P w H h) (mu : Mut (H x)) (he : e = x ∨ H e = some (.own x)) (k : ∀ b u, b ≠ e → h.get? b = some u → h'.get? b = some u) (heo : ∃ u, h'.get? e = some u)
  (new : ObjOk P w (upd H x o') h' x o') : HOk P w (upd H x o') h' := fun b u q => by
 have nown : ∀ c y, H c = some (.own y) → c ≠ x := fun c y r z => by subst z; rw [r] at mu; exact mu
 have ntup : ∀ c xs, H c = some (.tup xs) → c ≠ x := fun c xs r z => by subst z; rw [r] at mu; exact mu
 by_cases hb : b = x
 ·subst hb; rw [upd_same] at q; cases q; exact new
 ·rw [upd_ne hb] at q
  by_cases hbe : b = e
  ·have q' : H b = some (.own x) := by
    rcases he with z | z
    ·exact absurd (hbe.trans z) hb
    ·rw [hbe]; exact z
   rw [q] at q'; cases q'
   obtain ⟨v, hv⟩ := heo
   exact ⟨v, by rw [hbe]; exact hv⟩
  ·refine (ok b u q).stay (fun c v hc r => k c v ?_ r) (fun c r => by rw [upd_ne (nown c b r)]; exact r) fun c xs r => by rw [upd_ne (ntup c xs r)]; exact r
   rcases hc with rfl | hc
   ·exact hbe
   ·rintro rfl
    rcases he with z | z
    ·exact nown c b hc z
    ·rw [hc] at z; cases z; exact hb rfl
end
structure Un (fs ex : List Addr) (H H' : Hp) (h h' : Heap) : Prop where
 keep : ∀ b o, h.get? b = some o → H b = none → b ∉ fs → b ∉ ex → h'.get? b = some o
 slot : ∀ b o, h.get? b = some o → H b = none → b ∈ fs → b ∉ ex → ∃ sl, h'.get? b = some { o with slots := sl }
 free : ∀ b o, h.get? b = some o → H b = none → b ∉ ex → H' b = none
 there : ∀ b o, h.get? b = some o → b ∉ ex → ∃ o', h'.get? b = some o'
 tups : ∀ b xs, H b = some (.tup xs) → H' b = some (.tup xs)
 frzs : ∀ b o u, H b = some (.frz o u) → H' b = some (.frz o u)
 tbls : ∀ b ps, H b = some (.tbl ps) → ∃ more, H' b = some (.tbl (ps ++ more))
section
variable {fs fs' ex ex' : List Addr} {H H1 H2 : Hp} {h h1 h2 h' : Heap} {a x e : Addr} {o : HO}
theorem Un.any (u : Un fs ex H H1 h h1) {b : Addr} {ob : Obj} (q : h.get? b = some ob) (n : H b = none) (hx : b ∉ ex) : ∃ sl, h1.get? b = some { ob with slots := sl } := by
 by_cases hb : b ∈ fs
 ·exact u.slot b ob q n hb hx
 ·exact ⟨ob.slots, u.keep b ob q n hb hx⟩
theorem Un.trans (a : Un fs ex H H1 h h1) (b : Un fs ex H1 H2 h1 h2) : Un fs ex H H2 h h2 where
 keep := fun c ob q n hc hx => b.keep c ob (a.keep c ob q n hc hx) (a.free c ob q n hx) hc hx
 slot := fun c ob q n hc hx => by
  obtain ⟨sl, e1⟩ := a.slot c ob q n hc hx
  obtain ⟨sl', e2⟩ := b.slot c _ e1 (a.free c ob q n hx) hc hx
  exact ⟨sl', e2⟩
 free := fun c ob q n hx => by
  obtain ⟨o', e1⟩ := a.there c ob q hx
  exact b.free c o' e1 (a.free c ob q n hx) hx
 there := fun c ob q hx => by
  obtain ⟨o', e1⟩ := a.there c ob q hx
  exact b.there c o' e1 hx
 tups := fun c xs q => b.tups c xs (a.tups c xs q)
 frzs := fun c ob xs q => b.frzs c ob xs (a.frzs c ob xs q)
 tbls := fun c ps q => by
  obtain ⟨m1, e1⟩ := a.tbls c ps q
  obtain ⟨m2, e2⟩ := b.tbls c _ e1
  exact ⟨m1 ++ m2, by rw [e2, Array.append_assoc]⟩
theorem Un.kept (k : ∀ b u, h.get? b = some u → h'.get? b = some u) : Un fs ex H H h h' :=
 ⟨fun b ob q _ _ _ => k b ob q, fun b ob q _ _ _ => ⟨ob.slots, k b ob q⟩, fun _ _ _ n _ => n, fun b ob q _ => ⟨ob, k b ob q⟩, fun _ _ q => q, fun _ _ _ q => q, fun _ ps q => ⟨#[], by rw [q]; simp⟩⟩
theorem Un.refl : Un fs ex H H h h := Un.kept fun _ _ q => q
theorem Un.laid (k : ∀ b u, h.get? b = some u → h'.get? b = some u) (hp : h.objs.size ≤ a) (hn : H a = none) : Un fs ex H (upd H a o) h h' where
 keep := fun b u q _ _ _ => k b u q
 slot := fun b u q _ _ _ => ⟨u.slots, k b u q⟩
 free := fun b u q n _ => by rw [upd_ne (Nat.ne_of_lt (Nat.lt_of_lt_of_le (Heap.lt_size q) hp))]; exact n
 there := fun b u q _ => ⟨u, k b u q⟩
 tups := fun b xs q => by rw [upd_ne (ne_of_none q hn)]; exact q
 frzs := fun b u xs q => by rw [upd_ne (ne_of_none q hn)]; exact q
 tbls := fun b ps q => ⟨#[], by rw [upd_ne (ne_of_none q hn), q]; simp⟩
theorem Un.write (mu : Mut (H x)) (he : e = x ∨ H e = some (.own x)) (k : ∀ b u, b ≠ e → h.get? b = some u → h'.get? b = some u) (heo : ∃ u, h'.get? e = some u) : Un fs ex H (upd H x o) h h' := by
 have hx : ∀ b, H b = none → b ≠ x := fun b n z => by subst z; rw [n] at mu; exact mu
 have hb : ∀ b, H b = none → b ≠ e := fun b n z => by
  subst z
  rcases he with r | r
  ·exact hx b n r
  ·rw [n] at r; cases r
 have hm : ∀ b u, H b = some u → ¬ Mut (some u) → b ≠ x := fun b u q nm z => by subst z; rw [q] at mu; exact nm mu
 refine ⟨fun b u q n _ _ => k b u (hb b n) q, fun b u q n _ _ => ⟨u.slots, k b u (hb b n) q⟩, fun b u q n _ => by rw [upd_ne (hx b n)]; exact n, fun b u q _ => ?_,
  fun b xs q => by rw [upd_ne (hm b _ q fun z => z)]; exact q, fun b u xs q => by rw [upd_ne (hm b _ q fun z => z)]; exact q, fun b ps q => ⟨#[], by rw [upd_ne (hm b _ q fun z => z), q]; simp⟩⟩
 by_cases hbe : b = e
 ·subst hbe; exact heo
 ·exact ⟨u, k b u hbe q⟩
end
def trk (h : Heap) (H : Hp) : List Addr := (List.range h.objs.size).filter fun a => (H a).isSome
def hidT (h : Heap) (H : Hp) : Heap := PySem.W.hideAll h (trk h H)
theorem hidT_size (h : Heap) (H : Hp) : (hidT h H).objs.size = h.objs.size := PySem.W.hideAll_size _ _
theorem hidT_get {h : Heap} {H : Hp} {b : Addr} {o : Obj} (e : h.get? b = some o) (n : H b = none) : (hidT h H).get? b = some o :=
 PySem.W.hideAll_get _ e fun hm => by
  have q : (H b).isSome = true := (List.mem_filter.mp hm).2
  rw [n] at q; simp at q
theorem of_hidT {h : Heap} {H : Hp} {b : Addr} {o : Obj} (e : (hidT h H).get? b = some o) : h.get? b = some o ∧ H b = none := by
 have e' : h.get? b = some o := PySem.W.of_hideAll (trk h H) e
 refine ⟨e', ?_⟩
 cases q : H b with
 | none => rfl
 | some x =>
  have hm : b ∈ trk h H := List.mem_filter.mpr ⟨List.mem_range.mpr (Heap.lt_size e'), by simp [q]⟩
  have z : (hidT h H).get? b = none := PySem.W.hideAll_none (trk h H) hm
  rw [z] at e; cases e
end L2
namespace L2
open PySem PySem.Spec PyProof.Rows
structure Mod (K : PySem.W.Frag) (mg : Str → Option Value) (base : Heap) : Prop where
 kin : K.In base
 glob : base.Ns mainGlobals mg
 blt : ∃ mb, base.Ns builtinsNs mb ∧ ∀ x : Str, x ≠ "__name__" → mb x = bootBuiltins x
 nolimit : base.NoLimit
structure Cx where
 prog : Program
 w : World
 K : PySem.W.Frag
 mg : Str → Option Value
 base : Heap
 A : Around
 N : List Str
 s₀ : Shared
 H₀ : Hp
 env : Env
 outer : List Env
 stack : List Env
 ex : List Addr
 fn : Str → Bool
 calm : Bool
 pn : List (Addr × Obj)
 xe : Value → Shared → Prop
def frs (l : List Env) : List Addr := l.filterMap (·.frame)
abbrev Cx.fs (X : Cx) : List Addr := frs X.outer
def Vis (sc : Scope) (x : Str) : Prop := sc.names.lookup x = some .local ∨ sc.names.lookup x = some .cell ∨ sc.names.lookup x = some .free
def Loc (sc : Scope) (x : Str) : Prop := sc.names.lookup x = some .local ∨ sc.names.lookup x = some .cell
def Look (env : Env) (h : Heap) (m : Str → Option Value) (x : Str) (u : Value) : Prop :=
 (env.kindOf x = some .local ∧ m x = some u) ∨ ((env.kindOf x = some .cell ∨ env.kindOf x = some .free) ∧ ∃ c, env.cells.lookup x = some c ∧ h.IsCell c (some u))
structure Cx.Ok (X : Cx) : Prop where
 mod : Mod X.K X.mg X.base
 kind : X.env.scope.kind = .function
 glob : X.env.globals = mainGlobals
 blt : X.env.builtins = builtinsNs
 above : X.s₀.heap.objs.size ≤ X.env.locals
 inj : ∀ x y c, X.env.cells.lookup x = some c → X.env.cells.lookup y = some c → x = y
 has : ∀ x, (X.env.kindOf x = some .cell ∨ X.env.kindOf x = some .free) → ∃ c, X.env.cells.lookup x = some c
 cab : ∀ x c, X.fn x = true → X.env.cells.lookup x = some c → X.s₀.heap.objs.size ≤ c
 hd : X.calm = true → X.A.handled = none
 frames : X.A.frames = some X.stack
 stk : X.stack = X.outer ∨ (X.stack = X.env :: X.outer ∧ X.env.frame = some X.env.locals)
 exf : ∀ b ∈ X.ex, b ≠ X.env.locals ∧ ∀ x c, X.env.cells.lookup x = some c → c ≠ b
 bs : ∀ b o, X.base.get? b = some o → X.s₀.heap.get? b = some o ∧ X.H₀ b = none
 bsz : X.base.objs.size ≤ X.s₀.heap.objs.size
 noex : ∀ b o, X.base.get? b = some o → b ∉ X.ex
 exfs : ∀ b ∈ X.ex, b ∉ X.fs
 funs : X.s₀.heap.FunFrames X.base X.outer
 frf : ∀ b ∈ X.fs, X.H₀ b = none
structure Inv (X : Cx) (pins : List (Addr × Obj)) (σ : List (Option V)) (H : Hp) (s : Shared) : Prop where
 ok : X.Ok
 os : s.os = X.s₀.os
 bare : AllBare s.gens
 base : Un X.fs X.ex X.H₀ H X.s₀.heap s.heap
 loc : ∃ m, s.heap.Ns X.env.locals m ∧ ∀ (i : Nat) (x : Str) (v : V), X.N[i]? = some x → σ[i]? = some (some v) → Vis X.env.scope x → ∃ u, RelV v u ∧ Look X.env s.heap m x u
 cell : ∀ x c, X.env.cells.lookup x = some c → ∃ v, s.heap.IsCell c v
 free : H X.env.locals = none
 freeC : ∀ x c, X.env.cells.lookup x = some c → H c = none
 pin : ∀ p ∈ X.pn ++ pins, s.heap.get? p.1 = some p.2 ∧ H p.1 = none ∧ p.1 ≠ X.env.locals ∧ p.1 ∉ X.fs ∧ ∀ v, p.2.data ≠ .cell v
 hok : HOk X.prog X.w H s.heap
 len : σ.length = X.N.length
section
variable {X : Cx} {pins : List (Addr × Obj)} {σ : List (Option V)} {H H' : Hp} {s : Shared} {h' : Heap}
theorem Cx.Ok.nofr (ok : X.Ok) {b : Addr} {o : Obj} (e : X.base.get? b = some o) : b ∉ X.fs := fun hb => by
 have := (ok.funs.mem hb).1
 rw [e] at this; cases this
theorem Inv.bs (I : Inv X pins σ H s) : ∀ b o, X.base.get? b = some o → s.heap.get? b = some o ∧ H b = none := fun b o e =>
 ⟨I.base.keep b o (I.ok.bs b o e).1 (I.ok.bs b o e).2 (I.ok.nofr e) (I.ok.noex b o e), I.base.free b o (I.ok.bs b o e).1 (I.ok.bs b o e).2 (I.ok.noex b o e)⟩
theorem Inv.bk (I : Inv X pins σ H s) : ∀ b o, X.base.get? b = some o → s.heap.get? b = some o := fun b o e => (I.bs b o e).1
theorem Inv.mod (I : Inv X pins σ H s) : Mod X.K X.mg X.base := I.ok.mod
theorem Inv.kIn (I : Inv X pins σ H s) : X.K.In s.heap := I.ok.mod.kin.keeps I.bk
theorem Inv.lt (I : Inv X pins σ H s) : X.env.locals < s.heap.objs.size := let ⟨_, hn, _⟩ := I.loc; hn.lt
theorem Inv.sz (I : Inv X pins σ H s) : X.s₀.heap.objs.size ≤ s.heap.objs.size := Nat.le_trans I.ok.above (Nat.le_of_lt I.lt)
theorem Inv.nofs (I : Inv X pins σ H s) {a : Addr} (h : s.heap.objs.size ≤ a) : a ∉ X.fs := fun hb => by
 obtain ⟨_, o, ho, _⟩ := I.ok.funs.mem hb
 exact absurd (Nat.lt_of_lt_of_le (Heap.lt_size ho) (Nat.le_trans I.sz h)) (Nat.lt_irrefl _)
theorem Inv.cne (I : Inv X pins σ H s) : ∀ x c, X.env.cells.lookup x = some c → c ≠ X.env.locals := fun x c e z => by
 obtain ⟨v, o, ho, hd⟩ := I.cell x c e
 obtain ⟨m, ⟨o', es, ep, ho', hd', _⟩, _⟩ := I.loc
 rw [z, ho'] at ho; cases ho; rw [hd'] at hd; cases hd
theorem Inv.funs (I : Inv X pins σ H s) : s.heap.FunFrames X.base X.outer := by
 have all : ∀ (l : List Env), (∀ b ∈ frs l, b ∈ X.fs) → X.s₀.heap.FunFrames X.base l → s.heap.FunFrames X.base l := by
  intro l
  induction l with
  | nil => intro _ _; trivial
  | cons env r ih =>
   intro hs hl
   obtain ⟨hk, ⟨L, o, hf, hn, ho, hd⟩, hr⟩ := hl
   have hL : L ∈ X.fs := hs L (by unfold frs; rw [List.filterMap_cons, hf]; exact List.mem_cons_self)
   obtain ⟨sl, e⟩ := I.base.slot L o ho (I.ok.frf L hL) hL fun z => I.ok.exfs L z hL
   exact ⟨hk, ⟨L, _, hf, hn, e, hd⟩, ih (fun b hb => hs b (by unfold frs; rw [List.filterMap_cons, hf]; exact List.mem_cons_of_mem _ hb)) hr⟩
 exact all X.outer (fun _ hb => hb) I.ok.funs
theorem Inv.stack (I : Inv X pins σ H s) : s.heap.FunFrames X.base X.stack := by
 rcases I.ok.stk with e | ⟨e, hf⟩
 ·rw [e]; exact I.funs
 ·rw [e]
  obtain ⟨m, hn, _⟩ := I.loc
  refine .cons (by rw [I.ok.kind]; decide) hf hn ?_ I.funs
  exact Heap.get?_none_of_le (Nat.le_trans I.ok.bsz I.ok.above)
theorem Inv.stkSub (I : Inv X pins σ H s) : ∀ b ∈ frs X.stack, b ∈ X.env.locals :: X.fs := fun b hb => by
 rcases I.ok.stk with e | ⟨e, hf⟩
 ·rw [e] at hb; exact List.mem_cons_of_mem _ hb
 ·rw [e] at hb
  unfold frs at hb
  rw [List.filterMap_cons, hf] at hb
  exact hb
theorem Inv.stkFree (I : Inv X pins σ H s) : ∀ b ∈ frs X.stack, H b = none := fun b hb => by
 rcases List.mem_cons.mp (I.stkSub b hb) with e | hb
 ·rw [e]; exact I.free
 ·obtain ⟨_, o, ho, _⟩ := I.ok.funs.mem hb
  exact I.base.free b o ho (I.ok.frf b hb) fun z => I.ok.exfs b z hb
theorem Inv.step {g' : Array GenState} {t' : Nat} {d' : Drawn} {ch : List Addr} (I : Inv X pins σ H s)
  (hch : ∀ b ∈ ch, (b ∈ X.ex ∨ X.s₀.heap.objs.size ≤ b) ∧ b ≠ X.env.locals ∧ (∀ x c, X.env.cells.lookup x = some c → c ≠ b) ∧ ∀ p ∈ X.pn ++ pins, p.1 ≠ b)
  (keep : ∀ b o, b ≠ X.env.locals → b ∉ X.fs → b ∉ ch → s.heap.get? b = some o → H b = none → h'.get? b = some o)
  (slot : ∀ b o, b ≠ X.env.locals → b ∈ X.fs → b ∉ ch → s.heap.get? b = some o → H b = none → ∃ sl, h'.get? b = some { o with slots := sl }) (free : ∀ b o, b ∉ ch → s.heap.get? b = some o → H b = none → H' b = none)
  (there : ∀ b o, b ∉ ch → s.heap.get? b = some o → ∃ o', h'.get? b = some o')
  (tups : ∀ b xs, H b = some (.tup xs) → H' b = some (.tup xs)) (frzs : ∀ b o u, H b = some (.frz o u) → H' b = some (.frz o u)) (tbls : ∀ b ps, H b = some (.tbl ps) → ∃ more, H' b = some (.tbl (ps ++ more)))
  (ns : ∀ m, s.heap.Ns X.env.locals m → h'.Ns X.env.locals m) (hok : HOk X.prog X.w H' h') (hg : AllBare g') :
  Inv X pins σ H' { s with heap := h', gens := g', drawn := d', toks := t' } := by
 have neL : ∀ b o, X.s₀.heap.get? b = some o → b ≠ X.env.locals := fun b o e => Nat.ne_of_lt (Nat.lt_of_lt_of_le (Heap.lt_size e) I.ok.above)
 have neC : ∀ b o, X.s₀.heap.get? b = some o → b ∉ X.ex → b ∉ ch := fun b o e hx hb => by
  rcases (hch b hb).1 with z | z
  ·exact hx z
  ·exact absurd (Nat.lt_of_lt_of_le (Heap.lt_size e) z) (Nat.lt_irrefl _)
 have cellK : ∀ x c, X.env.cells.lookup x = some c → ∀ v, s.heap.IsCell c v → h'.IsCell c v := fun x c e v ⟨o, ho, hd⟩ => by
  have nch : c ∉ ch := fun z => (hch c z).2.2.1 x c e rfl
  by_cases hc : c ∈ X.fs
  ·obtain ⟨sl, q⟩ := slot c o (I.cne x c e) hc nch ho (I.freeC x c e)
   exact ⟨_, q, hd⟩
  ·exact ⟨o, keep c o (I.cne x c e) hc nch ho (I.freeC x c e), hd⟩
 refine ⟨I.ok, I.os, hg, ⟨fun b o e n hb hx => ?_, fun b o e n hb hx => ?_, fun b o e n hx => ?_, fun b o e hx => ?_, fun b xs e => tups b xs (I.base.tups b xs e), fun b o xs e => frzs b o xs (I.base.frzs b o xs e), fun b ps e => ?_⟩, ?_, fun x c e => ?_, ?_, fun x c e => ?_, fun p hp => ?_, hok, I.len⟩
 ·exact keep b o (neL b o e) hb (neC b o e hx) (I.base.keep b o e n hb hx) (I.base.free b o e n hx)
 ·obtain ⟨sl, e1⟩ := I.base.slot b o e n hb hx
  obtain ⟨sl', e2⟩ := slot b _ (neL b o e) hb (neC b o e hx) e1 (I.base.free b o e n hx)
  exact ⟨sl', e2⟩
 ·obtain ⟨o', e1⟩ := I.base.there b o e hx
  exact free b o' (neC b o e hx) e1 (I.base.free b o e n hx)
 ·obtain ⟨o', e1⟩ := I.base.there b o e hx
  exact there b o' (neC b o e hx) e1
 ·obtain ⟨m1, e1⟩ := I.base.tbls b ps e
  obtain ⟨m2, e2⟩ := tbls b _ e1
  exact ⟨m1 ++ m2, by rw [e2, Array.append_assoc]⟩
 ·obtain ⟨m, hn, hl⟩ := I.loc
  refine ⟨m, ns m hn, fun i x v e1 e2 e3 => ?_⟩
  obtain ⟨u, r, l⟩ := hl i x v e1 e2 e3
  refine ⟨u, r, ?_⟩
  rcases l with l | ⟨k, c, e, z⟩
  ·exact .inl l
  ·exact .inr ⟨k, c, e, cellK x c e _ z⟩
 ·obtain ⟨v, z⟩ := I.cell x c e
  exact ⟨v, cellK x c e v z⟩
 ·obtain ⟨m, ⟨o, _, _, ho, _⟩, _⟩ := I.loc
  exact free _ o (fun z => (hch _ z).2.1 rfl) ho I.free
 ·obtain ⟨v, o, ho, hd⟩ := I.cell x c e
  exact free c o (fun z => (hch c z).2.2.1 x c e rfl) ho (I.freeC x c e)
 ·obtain ⟨e, n, ne, nf, d⟩ := I.pin p hp
  have nch : p.1 ∉ ch := fun z => (hch p.1 z).2.2.2 p hp rfl
  exact ⟨keep p.1 p.2 ne nf nch e n, free p.1 p.2 nch e n, ne, nf, d⟩
theorem Inv.un {t' : Nat} (I : Inv X pins σ H s) (u : Un X.fs [] H H' s.heap h') (hok : HOk X.prog X.w H' h') : Inv X pins σ H' { s with heap := h', toks := t' } := by
 obtain ⟨m, ⟨o, es, ep, ho, r⟩, _⟩ := id I.loc
 obtain ⟨sl, hL⟩ := u.any ho I.free (by simp)
 exact I.step (g' := s.gens) (d' := s.drawn) (ch := []) (fun _ z => nomatch z) (fun b o _ hb _ e n => u.keep b o e n hb (by simp)) (fun b o _ hb _ e n => u.slot b o e n hb (by simp)) (fun b o _ e n => u.free b o e n (by simp)) (fun b o _ e => u.there b o e (by simp)) u.tups u.frzs u.tbls (fun m' hm => by
  obtain ⟨o', es', ep', ho', r'⟩ := hm
  rw [ho] at ho'; cases ho'
  exact ⟨_, es', ep', hL, r'⟩) hok I.bare
theorem Inv.call {g' : Array GenState} {t' : Nat} {d' : Drawn} {ch : List Addr} (I : Inv X pins σ H s) (u : Un (frs X.stack) ch H H' s.heap h') (hok : HOk X.prog X.w H' h') (hg : AllBare g')
  (hch : ∀ b ∈ ch, (b ∈ X.ex ∨ X.s₀.heap.objs.size ≤ b) ∧ b ≠ X.env.locals ∧ (∀ x c, X.env.cells.lookup x = some c → c ≠ b) ∧ ∀ p ∈ X.pn ++ pins, p.1 ≠ b) :
  Inv X pins σ H' { s with heap := h', gens := g', drawn := d', toks := t' } := by
 obtain ⟨m, ⟨o, es, ep, ho, r⟩, _⟩ := id I.loc
 obtain ⟨sl, hL⟩ := u.any ho I.free fun z => (hch _ z).2.1 rfl
 exact I.step (ch := ch) hch (fun b o hL hb hc e n => u.keep b o e n (fun z => (List.mem_cons.mp (I.stkSub b z)).elim hL hb) hc) (fun b o _ _ hc e n => u.any e n hc) (fun b o hc e n => u.free b o e n hc) (fun b o hc e => u.there b o e hc) u.tups u.frzs u.tbls (fun m' hm => by
  obtain ⟨o', es', ep', ho', r'⟩ := hm
  rw [ho] at ho'; cases ho'
  exact ⟨_, es', ep', hL, r'⟩) hok hg
theorem Inv.turned {t' : Nat} {it : Addr} (I : Inv X pins σ H s) (k : ∀ b o, b ≠ it → s.heap.get? b = some o → h'.get? b = some o) (hn : H it = none) (hL : it ≠ X.env.locals)
  (h1 : it ∈ X.ex ∨ X.s₀.heap.objs.size ≤ it) (h2 : ∀ x c, X.env.cells.lookup x = some c → c ≠ it) (h3 : ∀ p ∈ X.pn ++ pins, p.1 ≠ it) : Inv X pins σ H { s with heap := h', toks := t' } := by
 have nit : ∀ b u, H b = some u → b ≠ it := fun b u e z => by rw [z, hn] at e; cases e
 refine I.step (g' := s.gens) (d' := s.drawn) (ch := [it]) (fun b hb => ?_) (fun b o _ _ hc e _ => k b o (fun z => hc (by simp [z])) e) (fun b o _ _ hc e _ => ⟨o.slots, k b o (fun z => hc (by simp [z])) e⟩) (fun _ _ _ _ n => n)
  (fun b o hc e => ⟨o, k b o (fun z => hc (by simp [z])) e⟩) (fun _ _ e => e) (fun _ _ _ e => e) (fun b ps e => ⟨#[], by rw [e]; simp⟩) (fun m hm => ?_) (fun b u e => ?_) I.bare
 ·have e : b = it := by simpa using hb
  subst e
  exact ⟨h1, hL, h2, h3⟩
 ·obtain ⟨o, es, ep, ho, r⟩ := hm
  exact ⟨o, es, ep, k _ o (Ne.symm hL) ho, r⟩
 ·refine (I.hok b u e).stay (fun c v hc q => k c v ?_ q) (fun _ q => q) fun _ _ q => q
  rcases hc with z | z
  ·rw [z]; exact nit b u e
  ·exact nit c _ z
theorem Inv.tok (I : Inv X pins σ H s) (t : Nat) : Inv X pins σ H { s with toks := t } := I.un (h' := s.heap) (t' := t) Un.refl I.hok
theorem Inv.kept {t' : Nat} (I : Inv X pins σ H s) (k : ∀ b u, s.heap.get? b = some u → h'.get? b = some u) : Inv X pins σ H { s with heap := h', toks := t' } := I.un (Un.kept k) (I.hok.kept k)
theorem Inv.laid {a : Addr} {o : HO} {t' : Nat} (I : Inv X pins σ H s) (k : ∀ b u, s.heap.get? b = some u → h'.get? b = some u) (hp : s.heap.objs.size ≤ a) (new : ObjOk X.prog X.w (upd H a o) h' a o) :
  Inv X pins σ (upd H a o) { s with heap := h', toks := t' } := I.un (Un.laid k hp (I.hok.fresh hp)) (I.hok.laid k hp new)
theorem Inv.write {x e : Addr} {o : HO} {t' : Nat} (I : Inv X pins σ H s) (mu : Mut (H x)) (he : e = x ∨ H e = some (.own x)) (k : ∀ b u, b ≠ e → s.heap.get? b = some u → h'.get? b = some u) (heo : ∃ u, h'.get? e = some u)
  (new : ObjOk X.prog X.w (upd H x o) h' x o) : Inv X pins σ (upd H x o) { s with heap := h', toks := t' } := I.un (Un.write mu he k heo) (I.hok.write mu he k heo new)
theorem Inv.pins_of {pins' : List (Addr × Obj)} (I : Inv X pins σ H s) (h : ∀ p ∈ pins', s.heap.get? p.1 = some p.2 ∧ H p.1 = none ∧ p.1 ≠ X.env.locals ∧ p.1 ∉ X.fs ∧ ∀ v, p.2.data ≠ .cell v) : Inv X pins' σ H s :=
 ⟨I.ok, I.os, I.bare, I.base, I.loc, I.cell, I.free, I.freeC, fun p hp => (List.mem_append.mp hp).elim (fun z => I.pin p (List.mem_append_left _ z)) (h p), I.hok, I.len⟩
theorem nodup_ix {N : List Str} (hN : N.Nodup) {i j : Nat} {x : Str} (a : N[i]? = some x) (b : N[j]? = some x) : i = j := by
 obtain ⟨h1, e1⟩ := List.getElem?_eq_some_iff.mp a
 obtain ⟨h2, e2⟩ := List.getElem?_eq_some_iff.mp b
 exact (List.getElem_inj hN).mp (e1.trans e2.symm)
theorem store_ok2 {M : Model} {A : Around} {E : Value → Shared → Prop} {i : Nat} {x : Str} {v : V} {u : Value} {Q : Unit → Shared → Prop} (I : Inv X pins σ H s) (hN : X.N.Nodup) (hi : X.N[i]? = some x) (hx : Loc X.env.scope x) (r : RelV v u)
  (h : ∀ s', Inv X pins (σ.set i (some v)) H s' → (∃ a, Heap.SameBut a s.heap s'.heap ∧ (a = X.env.locals ∨ X.env.cells.lookup x = some a)) → Q () s') (hf : X.fn x = true ∨ X.env.scope.names.lookup x = some .local := by first | exact .inl rfl | exact .inr rfl | assumption) : wpAny M A (storeName X.env x u) Q E s := by
 obtain ⟨m, hn, hl⟩ := id I.loc
 have hcls : (X.env.scope.kind == .class || (X.env.scope.kind == .module && X.env.locals != X.env.globals)) = false := by rw [I.ok.kind]; rfl
 have hiσ : i < σ.length := by rw [I.len]; exact (List.getElem?_eq_some_iff.mp hi).1
 have cne := I.cne
 have tracked : ∀ {a : Addr} {h' : Heap}, (∃ o, s.heap.get? a = some o ∧ H a = none) → Heap.SameBut a s.heap h' → HOk X.prog X.w H h' := fun {a h'} ha hs b ob e => by
  obtain ⟨_, _, hfree⟩ := ha
  refine (I.hok b ob e).stay (fun c w' hc q => (hs.2 c ?_).trans q) (fun _ q => q) fun _ _ q => q
  rintro rfl
  rcases hc with rfl | hc
  ·rw [hfree] at e; cases e
  ·rw [hfree] at hc; cases hc
 rcases hx with hk | hk
 ·refine wpAny_storeName_local hk hn (fun h' hn' hs => ?_) hcls
  obtain ⟨oL, _, _, hoL, _⟩ := id hn
  refine h _ ⟨I.ok, I.os, I.bare, ⟨fun b o e n hb hx => ?_, fun b o e n hb hx => ?_, I.base.free, fun b o e hx => ?_, I.base.tups, I.base.frzs, I.base.tbls⟩, ⟨_, hn', fun j y v' e1 e2 e3 => ?_⟩, fun y c e => ?_, I.free, I.freeC, fun p hp => ?_, tracked ⟨oL, hoL, I.free⟩ hs, by simpa using I.len⟩ ⟨_, hs, .inl rfl⟩
  ·exact (hs.2 b (Nat.ne_of_lt (Nat.lt_of_lt_of_le (Heap.lt_size e) I.ok.above))).trans (I.base.keep b o e n hb hx)
  ·obtain ⟨sl, e1⟩ := I.base.slot b o e n hb hx
   exact ⟨sl, (hs.2 b (Nat.ne_of_lt (Nat.lt_of_lt_of_le (Heap.lt_size e) I.ok.above))).trans e1⟩
  ·obtain ⟨o', e1⟩ := I.base.there b o e hx
   exact ⟨o', (hs.2 b (Nat.ne_of_lt (Nat.lt_of_lt_of_le (Heap.lt_size e) I.ok.above))).trans e1⟩
  ·by_cases hj : j = i
   ·subst hj
    rw [hi] at e1; cases e1
    rw [List.getElem?_set_self hiσ] at e2
    cases e2
    exact ⟨u, r, .inl ⟨hk, by simp⟩⟩
   ·rw [List.getElem?_set_ne (Ne.symm hj)] at e2
    obtain ⟨u', r', q⟩ := hl j y v' e1 e2 e3
    refine ⟨u', r', ?_⟩
    rcases q with ⟨k, e⟩ | ⟨k, c, e, z⟩
    ·refine .inl ⟨k, ?_⟩
     have : y ≠ x := fun e => hj (nodup_ix hN e1 (e ▸ hi))
     simp [this, e]
    ·exact .inr ⟨k, c, e, z.sameBut hs (cne y c e)⟩
  ·obtain ⟨w', z⟩ := I.cell y c e
   exact ⟨w', z.sameBut hs (cne y c e)⟩
  ·obtain ⟨e, n, ne, nf, d⟩ := I.pin p hp
   exact ⟨(hs.2 p.1 ne).trans e, n, ne, nf, d⟩
 ·have hfn : X.fn x = true := by
   rcases hf with z | z
   ·exact z
   ·rw [z] at hk; cases hk
  obtain ⟨c, hc⟩ := I.ok.has x (.inl hk)
  obtain ⟨w', z⟩ := I.cell x c hc
  refine wpAny_storeName_cell I.ok.kind hk hc z (fun h' hc' hs => ?_)
  obtain ⟨oc, hoc, hocd⟩ := id z
  refine h { s with heap := h' } ⟨I.ok, I.os, I.bare, ⟨fun b o e n hb hx => ?_, fun b o e n hb hx => ?_, I.base.free, fun b o e hx => ?_, I.base.tups, I.base.frzs, I.base.tbls⟩, ⟨m, hn.sameBut hs (Ne.symm (cne x c hc)), fun j y v' e1 e2 e3 => ?_⟩, fun y c' e => ?_, I.free, I.freeC, fun p hp => ?_, tracked ⟨oc, hoc, I.freeC x c hc⟩ hs, by simpa using I.len⟩ ⟨c, hs, .inr hc⟩
  ·exact (hs.2 b (Nat.ne_of_lt (Nat.lt_of_lt_of_le (Heap.lt_size e) (I.ok.cab x c hfn hc)))).trans (I.base.keep b o e n hb hx)
  ·obtain ⟨sl, e1⟩ := I.base.slot b o e n hb hx
   exact ⟨sl, (hs.2 b (Nat.ne_of_lt (Nat.lt_of_lt_of_le (Heap.lt_size e) (I.ok.cab x c hfn hc)))).trans e1⟩
  ·obtain ⟨o', e1⟩ := I.base.there b o e hx
   exact ⟨o', (hs.2 b (Nat.ne_of_lt (Nat.lt_of_lt_of_le (Heap.lt_size e) (I.ok.cab x c hfn hc)))).trans e1⟩
  ·by_cases hj : j = i
   ·subst hj
    rw [hi] at e1; cases e1
    rw [List.getElem?_set_self hiσ] at e2
    cases e2
    exact ⟨u, r, .inr ⟨.inl hk, c, hc, hc'⟩⟩
   ·rw [List.getElem?_set_ne (Ne.symm hj)] at e2
    obtain ⟨u', r', q⟩ := hl j y v' e1 e2 e3
    refine ⟨u', r', ?_⟩
    rcases q with q | ⟨k, c', e, z'⟩
    ·exact .inl q
    ·refine .inr ⟨k, c', e, z'.sameBut hs ?_⟩
     rintro rfl
     exact hj (nodup_ix hN e1 (I.ok.inj _ _ _ e hc ▸ hi))
  ·by_cases hcc : c' = c
   ·subst hcc; exact ⟨_, hc'⟩
   ·obtain ⟨w2, z2⟩ := I.cell y c' e
    exact ⟨w2, z2.sameBut hs hcc⟩
  ·obtain ⟨e, n, ne, nf, d⟩ := I.pin p hp
   refine ⟨(hs.2 p.1 ?_).trans e, n, ne, nf, d⟩
   intro q
   rw [q, hoc] at e
   have q' : oc = p.2 := Option.some.inj e
   exact d w' (by rw [← q']; exact hocd)
theorem store_ok {M : Model} {A : Around} {E : Value → Shared → Prop} {i : Nat} {x : Str} {v : V} {u : Value} {Q : Unit → Shared → Prop} (I : Inv X pins σ H s) (hN : X.N.Nodup) (hi : X.N[i]? = some x) (hx : Loc X.env.scope x) (r : RelV v u)
  (h : ∀ s', Inv X pins (σ.set i (some v)) H s' → Q () s') (hf : X.fn x = true ∨ X.env.scope.names.lookup x = some .local := by first | exact .inl rfl | exact .inr rfl | assumption) : wpAny M A (storeName X.env x u) Q E s :=
 store_ok2 I hN hi hx r (fun s' I' _ => h s' I') hf
theorem Inv.call' {s' : Shared} {ch : List Addr} (I : Inv X pins σ H s) (ho : s'.os = s.os) (u : Un (frs X.stack) ch H H' s.heap s'.heap) (hok : HOk X.prog X.w H' s'.heap) (hg : AllBare s'.gens)
  (hch : ∀ b ∈ ch, (b ∈ X.ex ∨ X.s₀.heap.objs.size ≤ b) ∧ b ≠ X.env.locals ∧ (∀ x c, X.env.cells.lookup x = some c → c ≠ b) ∧ ∀ p ∈ X.pn ++ pins, p.1 ≠ b) : Inv X pins σ H' s' := by
 obtain ⟨h', g', d', t', o'⟩ := s'
 have e : o' = s.os := ho
 subst e
 exact I.call (g' := g') (t' := t') (d' := d') u hok hg hch
end
abbrev XK := Value → Option Addr → Hp → Prop
abbrev St := List (Option V)
abbrev VK := V → Hp → Prop
abbrev TE := St → Hp → VK → Prop
abbrev TT := St → Hp → (Bool → Hp → Prop) → Prop
abbrev TA := St → Hp → (List V → Hp → Prop) → Prop
structure Ends where
 nx : St → Hp → Prop
 rt : VK
 bk : St → Hp → Prop := fun _ _ => False
 ct : St → Hp → Prop := fun _ _ => False
abbrev TS := Ends → St → Hp → Prop
def EP (X : Cx) (pins : List (Addr × Obj)) (σ : St) (Q : VK) (u : Value) (s' : Shared) : Prop := ∃ v H', Inv X pins σ H' s' ∧ RelV v u ∧ Q v H'
def TP (X : Cx) (pins : List (Addr × Obj)) (σ : St) (Q : Bool → Hp → Prop) (b : Bool) (s' : Shared) : Prop := ∃ H', Inv X pins σ H' s' ∧ Q b H'
def AP (X : Cx) (pins : List (Addr × Obj)) (σ : St) (Q : List V → Hp → Prop) (us : List Value) (s' : Shared) : Prop := ∃ vs H', Inv X pins σ H' s' ∧ Vals vs us ∧ Q vs H'
def SP (X : Cx) (pins : List (Addr × Obj)) (D : Ends) (f : Flow) (s' : Shared) : Prop :=
 match f with
 | .next => ∃ σ' H', Inv X pins σ' H' s' ∧ D.nx σ' H'
 | .brk => ∃ σ' H', Inv X pins σ' H' s' ∧ D.bk σ' H'
 | .cont => ∃ σ' H', Inv X pins σ' H' s' ∧ D.ct σ' H'
 | .ret u => ∃ v σ' H', Inv X pins σ' H' s' ∧ RelV v u ∧ D.rt v H'
def PE (X : Cx) (e : Expr) (t : TE) : Prop :=
 ∀ (pins : List (Addr × Obj)) (s : Shared) (σ : St) (H : Hp) (Q : VK), Inv X pins σ H s → t σ H Q → wpAny (model X.prog X.w) X.A (eval e X.env) (EP X pins σ Q) X.xe s
def PT (X : Cx) (e : Expr) (t : TT) : Prop :=
 ∀ (pins : List (Addr × Obj)) (s : Shared) (σ : St) (H : Hp) (Q : Bool → Hp → Prop), Inv X pins σ H s → t σ H Q → wpAny (model X.prog X.w) X.A (isTrue e X.env (eval e X.env)) (TP X pins σ Q) X.xe s
def PW (X : Cx) (e : Expr) (t : TT) : Prop :=
 ∀ (whole : Sem Value) (pins : List (Addr × Obj)) (s : Shared) (σ : St) (H : Hp) (Q : Bool → Hp → Prop), Inv X pins σ H s → t σ H Q → wpAny (model X.prog X.w) X.A (isTrue e X.env whole) (TP X pins σ Q) X.xe s
theorem PW.pt {X : Cx} {e : Expr} {t : TT} (h : PW X e t) : PT X e t := h _
def PA (X : Cx) (es : List Expr) (t : TA) : Prop :=
 ∀ (pos : Pos) (pins : List (Addr × Obj)) (s : Shared) (σ : St) (H : Hp) (Q : List V → Hp → Prop), Inv X pins σ H s → t σ H Q → wpAny (model X.prog X.w) X.A (spliced (backTo pos (starEach es X.env))) (AP X pins σ Q) X.xe s
def PS (X : Cx) (st : Stmt) (t : TS) : Prop :=
 ∀ (pins : List (Addr × Obj)) (s : Shared) (σ : St) (H : Hp) (D : Ends), Inv X pins σ H s → t D σ H → wpAny (model X.prog X.w) X.A (exec st X.env) (SP X pins D) X.xe s
def PSs (X : Cx) (st : List Stmt) (t : TS) : Prop :=
 ∀ (pins : List (Addr × Obj)) (s : Shared) (σ : St) (H : Hp) (D : Ends), Inv X pins σ H s → t D σ H → wpAny (model X.prog X.w) X.A (execs st X.env) (SP X pins D) X.xe s
theorem thn {α : Type} {t : Sem α} {Q Q' : α → Shared → Prop} {M : Model} {A : Around} {E : Value → Shared → Prop} {s : Shared} (h : wpAny M A t Q E s) (hQ : ∀ a s, Q a s → Q' a s) : wpAny M A t Q' E s := wpAny_mono h hQ fun _ _ x => x
end L2
namespace L2
open PySem PySem.Spec PyProof.Rows
section
variable {X : Cx}
def tVar (i : Nat) : TE := fun σ H Q => ∃ v, σ[i]? = some (some v) ∧ Q v H
def tC (v : V) : TE := fun _ H Q => Q v H
theorem pe_var {i : Nat} {x : Str} {pos : Pos} (hN : X.N[i]? = some x) (hv : Vis X.env.scope x) (hd : (x == ("__debug__" : Str)) = false := by decide) (hcd : (x == ("__classdict__" : Str)) = false := by decide) : PE X (.Name x pos) (tVar i) := by
 intro pins s σ H Q I h
 obtain ⟨v, e, h⟩ := h
 obtain ⟨m, hn, hl⟩ := I.loc
 obtain ⟨u, r, l⟩ := hl i x v hN e hv
 have fin : EP X pins σ Q u s := ⟨v, H, I, r, h⟩
 rcases l with ⟨hk, hm⟩ | ⟨hk, c, hc, hcell⟩
 ·exact wpAny_Name (wpAny_loadName_local I.ok.kind hk hn hm fin) hd
 ·rcases hk with hk | hk
  ·exact wpAny_Name (wpAny_loadName_cell I.ok.kind hk hc hcell fin) hd
  ·exact wpAny_Name (wpAny_loadName_free I.ok.kind hk hc hcell fin hcd) hd
theorem pe_int {i j pos} : PE X (.Constant (.int i) j pos) (tC (.int i)) := fun _ _ _ H _ I h => wpAny_Constant_int ⟨.int i, H, I.tok _, ⟨_, rfl⟩, h⟩
theorem pe_bl {b j pos} : PE X (.Constant (.bool b) j pos) (tC (.bl b)) := fun _ _ _ H _ I h => Constant_bool ⟨.bl b, H, I, rfl, h⟩
theorem pe_non {j pos} : PE X (.Constant .none j pos) (tC .non) := fun _ _ _ H _ I h => Constant_none ⟨.non, H, I, rfl, h⟩
def Gl (X : Cx) (x : Str) : Prop := X.env.kindOf x = some .globalImplicit
theorem ld_glob {E : Value → Shared → Prop} {pins : List (Addr × Obj)} {s : Shared} {σ : St} {H : Hp} {x : Str} {u : Value} {pos : Pos} {Q : Value → Shared → Prop} (I : Inv X pins σ H s) (hg : Gl X x) (hm : X.mg x = some u) (h : Q u s)
  (hd : (x == ("__debug__" : Str)) = false := by decide) : wpAny (model X.prog X.w) X.A (eval (.Name x pos) X.env) Q E s :=
 Calls.Name_function_global I.ok.kind hg (Calls.loadGlobal_global (by rw [I.ok.glob]; exact I.mod.glob.keeps I.bk) hm h) hd
theorem ld_blt {E : Value → Shared → Prop} {pins : List (Addr × Obj)} {s : Shared} {σ : St} {H : Hp} {x : Str} {u : Value} {pos : Pos} {Q : Value → Shared → Prop} (I : Inv X pins σ H s) (hg : Gl X x) (hm : X.mg x = none) (hv : bootBuiltins x = some u) (h : Q u s)
  (hn : x ≠ "__name__" := by decide) (hd : (x == ("__debug__" : Str)) = false := by decide) : wpAny (model X.prog X.w) X.A (eval (.Name x pos) X.env) Q E s := by
 obtain ⟨mb, h1, h2⟩ := I.mod.blt
 exact Calls.Name_function_global I.ok.kind hg (Calls.loadGlobal_builtin (by rw [I.ok.glob]; exact I.mod.glob.keeps I.bk) hm (by rw [I.ok.blt]; exact h1.keeps I.bk) ((h2 x hn).trans hv) h) hd
theorem pe_glob {x : Str} {v : V} {u : Value} {pos : Pos} (hg : Gl X x) (hm : X.mg x = some u) (r : RelV v u) (hd : (x == ("__debug__" : Str)) = false := by decide) : PE X (.Name x pos) (tC v) :=
 fun _ _ _ H _ I h => ld_glob I hg hm ⟨v, H, I, r, h⟩ hd
theorem pe_bltn {x : Str} {v : V} {u : Value} {pos : Pos} (hg : Gl X x) (hm : X.mg x = none) (hv : bootBuiltins x = some u) (r : RelV v u) (hn : x ≠ "__name__" := by decide) (hd : (x == ("__debug__" : Str)) = false := by decide) : PE X (.Name x pos) (tC v) :=
 fun _ _ _ H _ I h => ld_blt I hg hm hv ⟨v, H, I, r, h⟩ hn hd
variable {a b : Expr} {ta tb : TE} {pos : Pos}
def PC (X : Cx) (op : CmpOp) (a b : Expr) (t : TE) : Prop :=
 ∀ (pins : List (Addr × Obj)) (s : Shared) (σ : St) (H : Hp) (Q : VK), Inv X pins σ H s → t σ H Q →
  wpAny (model X.prog X.w) X.A (eval a X.env) (fun v s₁ => wpAny (model X.prog X.w) X.A (eval b X.env) (fun u s₂ => wpAny (model X.prog X.w) X.A (compareOp op v u) (EP X pins σ Q) X.xe s₂) X.xe s₁) X.xe s
def tB (t : TE) : TT := fun σ H Q => t σ H fun x H1 => ∃ c, x = .bl c ∧ Q c H1
theorem pt_cmp {op : CmpOp} {t : TE} (h : PC X op a b t) (h1 : behindInMarks op b = false := by first | exact nobehind _ (by decide) (by decide) | rfl) : PT X (.Compare a [op] [b] pos) (tB t) := by
 intro pins s σ H Q I hw
 refine wpAny_isTrue_Compare1 (thn (h pins s σ H _ I hw) fun v s1 h1 => thn h1 fun u s2 h2 => thn h2 fun c s3 ⟨x, H1, I1, r1, q1⟩ => ?_) h1
 obtain ⟨d, rfl, q⟩ := q1
 cases r1
 exact wpAny_truthy_bool ⟨H1, I1, q⟩
theorem pt_val {e : Expr} {t : TE} (h : PE X e t) (he : ∀ whole, isTrue e X.env whole = (do let v ← whole; standAt e.pos; holding [v] (truthy v)) := by intro _; rfl) : PT X e (tB t) := by
 intro pins s σ H Q I hw
 refine isTrue_plain (thn (h pins s σ H _ I hw) fun v s1 ⟨x, H1, I1, r1, q1⟩ => ?_) (he _)
 obtain ⟨d, rfl, q⟩ := q1
 cases r1
 exact wpAny_truthy_bool ⟨H1, I1, q⟩
variable {tA tB' : TT} {rest : List Expr}
def tAnd (t u : TT) : TT := fun σ H Q => t σ H fun c H1 => if c = true then u σ H1 Q else Q false H1
def tOr (t u : TT) : TT := fun σ H Q => t σ H fun c H1 => if c = true then Q true H1 else u σ H1 Q
def tNot (t : TT) : TT := fun σ H Q => t σ H fun c H1 => Q (!c) H1
theorem pw_and1 (ha : PT X a tA) : PW X (.BoolOp .And [a] pos) tA := by
 intro wh pins s σ H Q I h
 refine isTrue_and (thn (ha pins s σ H Q I h) fun c s1 e => ?_)
 cases c with
 | true => exact isTrue_and_nil e
 | false => exact e
theorem pw_or1 (ha : PT X a tA) : PW X (.BoolOp .Or [a] pos) tA := by
 intro wh pins s σ H Q I h
 refine isTrue_or (thn (ha pins s σ H Q I h) fun c s1 e => ?_)
 cases c with
 | false => exact isTrue_or_nil e
 | true => exact e
theorem pw_and (ha : PT X a tA) (hb : PW X (.BoolOp .And (b :: rest) pos) tB') : PW X (.BoolOp .And (a :: b :: rest) pos) (tAnd tA tB') := by
 intro wh pins s σ H Q I h
 refine isTrue_and (thn (ha pins s σ H _ I h) fun c s1 ⟨H1, I1, q1⟩ => ?_)
 cases c with
 | true => exact hb wh pins s1 σ H1 Q I1 q1
 | false => exact ⟨H1, I1, q1⟩
theorem pw_or (ha : PT X a tA) (hb : PW X (.BoolOp .Or (b :: rest) pos) tB') : PW X (.BoolOp .Or (a :: b :: rest) pos) (tOr tA tB') := by
 intro wh pins s σ H Q I h
 refine isTrue_or (thn (ha pins s σ H _ I h) fun c s1 ⟨H1, I1, q1⟩ => ?_)
 cases c with
 | true => exact ⟨H1, I1, q1⟩
 | false => exact hb wh pins s1 σ H1 Q I1 q1
theorem pt_not (ha : PT X a tA) : PT X (.UnaryOp .Not a pos) (tNot tA) := by
 intro pins s σ H Q I h
 exact isTrue_not (ha pins s σ H (fun c H1 => Q (!c) H1) I h)
def tAndV (ta tb : TE) : TE := fun σ H Q => ta σ H fun x H1 => ∃ c, x = .bl c ∧ if c = true then tb σ H1 Q else Q (.bl false) H1
def tNotV (ta : TE) : TE := fun σ H Q => ta σ H fun x H1 => ∃ c, x = .bl c ∧ Q (.bl (!c)) H1
theorem pe_one {op} {t : TE} (h : PE X a t) : PE X (.BoolOp op [a] pos) t := fun pins s σ H Q I hw => BoolOp_one (h pins s σ H Q I hw)
theorem pe_and (ha : PE X a ta) (hb : PE X (.BoolOp .And (b :: rest) pos) tb) : PE X (.BoolOp .And (a :: b :: rest) pos) (tAndV ta tb) := by
 intro pins s σ H Q I h
 refine BoolOp_and (thn (ha pins s σ H _ I h) fun v s1 ⟨x, H1, I1, r1, q1⟩ => ?_)
 obtain ⟨c, rfl, q1⟩ := q1
 cases r1
 refine wpAny_truthy_bool ?_
 cases c with
 | true => exact hb pins s1 σ H1 Q I1 q1
 | false => exact ⟨.bl false, H1, I1, rfl, q1⟩
theorem pe_not (ha : PE X a ta) : PE X (.UnaryOp .Not a pos) (tNotV ta) := by
 intro pins s σ H Q I h
 refine UnaryOp_ (thn (ha pins s σ H _ I h) fun v s1 ⟨x, H1, I1, r1, q1⟩ => ?_)
 obtain ⟨c, rfl, q1⟩ := q1
 cases r1
 exact not_of (wpAny_truthy_bool ⟨.bl (!c), H1, I1, rfl, q1⟩)
def tIf (t : TT) (ta tb : TE) : TE := fun σ H Q => t σ H fun c H1 => if c = true then ta σ H1 Q else tb σ H1 Q
theorem pe_ifExp {c : Expr} (hc : PT X c tA) (ha : PE X a ta) (hb : PE X b tb) : PE X (.IfExp c a b pos) (tIf tA ta tb) := by
 intro pins s σ H Q I h
 refine wpAny_IfExp (thn (hc pins s σ H _ I h) fun d s1 ⟨H1, I1, q1⟩ => ?_)
 cases d with
 | true => exact ha pins s1 σ H1 Q I1 q1
 | false => exact hb pins s1 σ H1 Q I1 q1
end
end L2
namespace L2
open PySem PySem.Spec PyProof.Rows
def SqL (K : PySem.W.Frag) (H : Hp) (a : Addr) (xs : List V) : Prop :=
 Rd H a (.lst xs) ∨
  ∃ (o : Obj) (its : Array Value) (n : Nat), K.lookup a = some o ∧ o.cls = .type "list" ∧ o.dict = none ∧ o.data = .seq its n ∧ its.size ≤ sizeLine ∧ Vals xs its.toList
def SqT (K : PySem.W.Frag) (H : Hp) (a : Addr) (xs : List V) : Prop :=
 Rd H a (.tup xs) ∨
  ∃ (o : Obj) (its : Array Value) (n : Nat), K.lookup a = some o ∧ o.cls = .type "tuple" ∧ o.data = .seq its n ∧ its.size ≤ sizeLine ∧ Vals xs its.toList
def absV : Value → Option V
 | .none => some .non
 | .bool b => some (.bl b)
 | .int i _ => some (.int i)
 | .str x _ => some (.str x)
 | .bytes b _ => some (.byt b)
 | .float b _ => some (.flt b)
 | .ref a => some (.ref a)
 | .type n => some (.ty n)
 | _ => none
theorem RelV.abs {x : V} {u : Value} (r : RelV x u) : absV u = some x := by
 cases x with
 | non => cases r; rfl
 | bl _ => cases r; rfl
 | int _ => obtain ⟨t, rfl⟩ := r; rfl
 | str _ => obtain ⟨t, rfl⟩ := r; rfl
 | byt _ => obtain ⟨t, rfl⟩ := r; rfl
 | flt _ => obtain ⟨t, rfl⟩ := r; rfl
 | ref _ => cases r; rfl
 | ty _ => cases r; rfl
theorem RelV.inj {x y : V} {u : Value} (r : RelV x u) (q : RelV y u) : x = y := Option.some.inj (r.abs.symm.trans q.abs)
theorem Vals.inj : ∀ {xs ys : List V} {us : List Value}, Vals xs us → Vals ys us → xs = ys
 | _, _, _, .nil, .nil => rfl
 | _, _, _, .cons r t, .cons r' t' => by rw [r.inj r', Vals.inj t t']
section
variable {X : Cx} {pins : List (Addr × Obj)} {σ : St} {H : Hp} {s : Shared} {a : Addr} {xs ys : List V}
theorem SqL.of {K : PySem.W.Frag} (h : H a = some (.lst xs)) : SqL K H a xs := .inl (.inl h)
theorem SqT.of {K : PySem.W.Frag} (h : H a = some (.tup xs)) : SqT K H a xs := .inl (.inl h)
theorem Inv.list (I : Inv X pins σ H s) (h : SqL X.K H a xs) : ∃ its : List Value, Vals xs its ∧ PlainL s.heap a its.toArray ∧ xs.length ≤ sizeLine := by
 rcases h with h | ⟨o, its, n, hk, hc, hd, hs, hz, r⟩
 ·obtain ⟨z, its, n, r, e⟩ := h.ok I.hok
  exact ⟨its, r, ⟨_, n, e, rfl, rfl, rfl⟩, z⟩
 ·refine ⟨its.toList, r, ⟨o, n, I.kIn a o hk, hc, hd, by simpa using hs⟩, ?_⟩
  have e := r.length
  simp only [Array.length_toList] at e
  omega
theorem Inv.tuple (I : Inv X pins σ H s) (h : SqT X.K H a xs) : ∃ its : List Value, Vals xs its ∧ IsTup s.heap a its.toArray ∧ xs.length ≤ sizeLine := by
 rcases h with h | ⟨o, its, n, hk, hc, hs, hz, r⟩
 ·obtain ⟨z, its, r, p⟩ := h.ok I.hok
  exact ⟨its, r, p, z⟩
 ·refine ⟨its.toList, r, ⟨o, I.kIn a o hk, hc, n, by simpa using hs⟩, ?_⟩
  have e := r.length
  simp only [Array.length_toList] at e
  omega
theorem Inv.list_inj (I : Inv X pins σ H s) (h : SqL X.K H a xs) (h' : SqL X.K H a ys) : xs = ys := by
 obtain ⟨its, r, ⟨o, n, e, _, _, d⟩, _⟩ := I.list h
 obtain ⟨its', r', ⟨o', n', e', _, _, d'⟩, _⟩ := I.list h'
 rw [e] at e'; cases e'
 rw [d] at d'
 injection d' with d1 _
 have : its = its' := by simpa using congrArg Array.toList d1
 subst this
 exact r.inj r'
end
abbrev Cx.wish (X : Cx) (E : Value → Shared → Prop) : Cx := { X with xe := E }
abbrev Cx.nox (X : Cx) : Cx := X.wish fun _ _ => False
theorem Cx.Ok.wish {X : Cx} (ok : X.Ok) (E : Value → Shared → Prop) : (X.wish E).Ok :=
 ⟨ok.mod, ok.kind, ok.glob, ok.blt, ok.above, ok.inj, ok.has, ok.cab, ok.hd, ok.frames, ok.stk, ok.exf, ok.bs, ok.bsz, ok.noex, ok.exfs, ok.funs, ok.frf⟩
theorem Cx.Ok.unwish {X : Cx} {E : Value → Shared → Prop} (ok : (X.wish E).Ok) : X.Ok :=
 ⟨ok.mod, ok.kind, ok.glob, ok.blt, ok.above, ok.inj, ok.has, ok.cab, ok.hd, ok.frames, ok.stk, ok.exf, ok.bs, ok.bsz, ok.noex, ok.exfs, ok.funs, ok.frf⟩
section
variable {X : Cx} {pins : List (Addr × Obj)} {σ : St} {H : Hp} {s : Shared} {E : Value → Shared → Prop}
theorem Inv.wish (I : Inv X pins σ H s) (E : Value → Shared → Prop) : Inv (X.wish E) pins σ H s := ⟨I.ok.wish E, I.os, I.bare, I.base, I.loc, I.cell, I.free, I.freeC, I.pin, I.hok, I.len⟩
theorem Inv.unwish (I : Inv (X.wish E) pins σ H s) : Inv X pins σ H s := ⟨I.ok.unwish, I.os, I.bare, I.base, I.loc, I.cell, I.free, I.freeC, I.pin, I.hok, I.len⟩
theorem SP.unwish {D : Ends} {f : Flow} {s' : Shared} (h : SP (X.wish E) pins D f s') : SP X pins D f s' := by
 cases f with
 | next => obtain ⟨σ', H', I, q⟩ := h; exact ⟨σ', H', I.unwish, q⟩
 | brk => obtain ⟨σ', H', I, q⟩ := h; exact ⟨σ', H', I.unwish, q⟩
 | cont => obtain ⟨σ', H', I, q⟩ := h; exact ⟨σ', H', I.unwish, q⟩
 | ret u => obtain ⟨v, σ', H', I, r, q⟩ := h; exact ⟨v, σ', H', I.unwish, r, q⟩
theorem PSs.nox {st : List Stmt} {t : TS} (h : PSs X.nox st t) : PSs X st t := fun pins s σ H D I hw =>
 wpAny_mono (h pins s σ H D (I.wish _) hw) (fun _ _ q => q.unwish) fun _ _ z => False.elim z
end
section
variable {X : Cx} {st : Stmt} {rest : List Stmt} {t u : TS} {e : Expr} {te : TE} {pos : Pos}
def tNext : TS := fun D σ H => D.nx σ H
def tSeq (t u : TS) : TS := fun D σ H => t { D with nx := u D } σ H
theorem pss_nil : PSs X [] tNext := fun _ _ σ H _ I h => wpAny_execs_nil ⟨σ, H, I, h⟩
theorem pss_cons (h1 : PS X st t) (h2 : PSs X rest u) : PSs X (st :: rest) (tSeq t u) := by
 intro pins s σ H D I h
 refine wpAny_execs_cons (thn (h1 pins s σ H { D with nx := u D } I h) fun f s1 q => ?_)
 cases f with
 | next =>
  obtain ⟨σ', H', I', q⟩ := q
  exact h2 pins s1 σ' H' D I' q
 | ret v => exact q
 | brk => exact q
 | cont => exact q
theorem pss_one (h1 : PS X st t) : PSs X [st] t := by
 intro pins s σ H D I h
 refine wpAny_execs_cons (thn (h1 pins s σ H D I h) fun f s1 q => ?_)
 cases f with
 | next => exact wpAny_execs_nil q
 | ret v => exact q
 | brk => exact q
 | cont => exact q
theorem Inv.quiet {pins : List (Addr × Obj)} {σ : St} {H : Hp} {s : Shared} (I : Inv X pins σ H s) : interactive X.env = false := by simp [interactive, I.ok.kind]
def tDrop (te : TE) : TS := fun D σ H => te σ H fun _ H1 => D.nx σ H1
theorem ps_expr (he : PE X e te) (hs : swapsWith e none pos.line X.env = pure false := by rfl) : PS X (.Expr e pos) (tDrop te) := by
 intro pins s σ H D I h
 exact wpAny_Expr_any (thn (he pins s σ H _ I h) fun v s1 ⟨x, H1, I1, r1, q1⟩ => ⟨σ, H1, I1, q1⟩) I.quiet hs
def tRet (te : TE) : TS := fun D σ H => te σ H D.rt
theorem ps_ret (he : PE X e te) : PS X (.Return (some e) pos) (tRet te) := by
 intro pins s σ H D I h
 exact wpAny_Return_some (thn (he pins s σ H _ I h) fun v s1 ⟨x, H1, I1, r1, q1⟩ => ⟨x, σ, H1, I1, r1, q1⟩)
def tIfS (c : TT) (t u : TS) : TS := fun D σ H => c σ H fun b H1 => if b = true then t D σ H1 else u D σ H1
theorem ps_if {c : Expr} {a b : List Stmt} {tc : TT} (hc : PT X c tc) (ha : PSs X a t) (hb : PSs X b u) : PS X (.If c a b pos) (tIfS tc t u) := by
 intro pins s σ H D I h
 refine wpAny_If (thn (hc pins s σ H _ I h) fun d s1 ⟨H1, I1, q1⟩ => ?_)
 cases d with
 | true => exact ha pins s1 σ H1 D I1 q1
 | false => exact hb pins s1 σ H1 D I1 q1
def tNever : TS := fun _ _ _ => False
theorem ps_never : PS X st tNever := fun _ _ _ _ _ _ h => h.elim
end
abbrev TG := V → St → Hp → (St → Hp → Prop) → Prop
abbrev TGs := List V → St → Hp → (St → Hp → Prop) → Prop
def PG (X : Cx) (target : Expr) (t : TG) : Prop :=
 ∀ (pins : List (Addr × Obj)) (s : Shared) (σ : St) (H : Hp) (v : V) (u : Value) (Q : St → Hp → Prop), Inv X pins σ H s → RelV v u → t v σ H Q →
  wpAny (model X.prog X.w) X.A (assign target X.env u) (fun _ s' => ∃ σ' H', Inv X pins σ' H' s' ∧ Q σ' H') X.xe s
def PGs (X : Cx) (ts : List Expr) (t : TGs) : Prop :=
 ∀ (pins : List (Addr × Obj)) (s : Shared) (σ : St) (H : Hp) (vs : List V) (us : List Value) (Q : St → Hp → Prop), Inv X pins σ H s → Vals vs us → t vs σ H Q →
  wpAny (model X.prog X.w) X.A (assignInOrder ((assignEach ts X.env).map (·.2)) us) (fun _ s' => ∃ σ' H', Inv X pins σ' H' s' ∧ Q σ' H') X.xe s
abbrev TSet := V → V → V → Hp → (Hp → Prop) → Prop
def PSet (X : Cx) (t : TSet) : Prop :=
 ∀ (pins : List (Addr × Obj)) (s : Shared) (σ : St) (H : Hp) (o i v : V) (ov iv u : Value) (Q : Hp → Prop), Inv X pins σ H s → RelV o ov → RelV i iv → RelV v u → t o i v H Q →
  wpAny (model X.prog X.w) X.A (setItem ov iv u) (fun _ s' => ∃ H', Inv X pins σ H' s' ∧ Q H') X.xe s
section
variable {X : Cx} {pos : Pos}
def gName (i : Nat) : TG := fun v σ H Q => Q (σ.set i (some v)) H
theorem pg_name {i : Nat} {x : Str} (hN : X.N.Nodup) (hi : X.N[i]? = some x) (hx : Loc X.env.scope x) (hf : X.fn x = true ∨ X.env.scope.names.lookup x = some .local := by first | exact .inl rfl | exact .inr rfl | assumption) : PG X (.Name x pos) (gName i) := by
 intro pins s σ H v u Q I r h
 exact wpAny_assign_Name (store_ok I hN hi hx r (fun s' I' => ⟨_, H, I', h⟩) hf)
def gNil : TGs := fun vs σ H Q => vs = [] ∧ Q σ H
def gCons (t : TG) (u : TGs) : TGs := fun vs σ H Q => ∃ v r, vs = v :: r ∧ t v σ H fun σ' H' => u r σ' H' Q
theorem pgs_nil : PGs X [] gNil := by
 intro pins s σ H vs us Q I r h
 obtain ⟨e, h⟩ := h
 subst e
 cases r
 exact assignInOrder_nil ⟨σ, H, I, h⟩
theorem pgs_cons {e : Expr} {es : List Expr} {t : TG} {u : TGs} (h1 : PG X e t) (h2 : PGs X es u)
  (hs : (assignEach (e :: es) X.env).map (·.2) = assign e X.env :: (assignEach es X.env).map (·.2) := by rfl) : PGs X (e :: es) (gCons t u) := by
 intro pins s σ H vs us Q I r h
 obtain ⟨v, vr, e1, h⟩ := h
 subst e1
 cases r with
 | cons r rr =>
  rw [hs]
  refine assignInOrder_cons (thn (h1 pins s σ H _ _ _ I r h) fun _ s1 ⟨σ1, H1, I1, q1⟩ => ?_)
  exact h2 pins s1 σ1 H1 _ _ Q I1 rr q1
def gTup (K : PySem.W.Frag) (n : Nat) (t : TGs) : TG := fun v σ H Q => ∃ a xs, v = .ref a ∧ SqT K H a xs ∧ xs.length = n ∧ t xs σ H Q
theorem pg_tup {es : List Expr} {k : Nat} {t : TGs} {n : Nat} (hc : X.calm = true) (h : PGs X es t)
  (hn : (assignEach es X.env).length = n := by rfl) (hst : (assignEach es X.env).findIdx? (·.1) = none := by rfl) : PG X (.Tuple es k pos) (gTup X.K n t) := by
 intro pins s σ H v u Q I r hw
 obtain ⟨a, xs, e1, hq, hl, hw⟩ := hw
 subst e1
 cases r
 obtain ⟨its, rv, ht, hz⟩ := I.tuple hq
 refine assign_Tuple_tuple (I.ok.hd hc) ht (by simp [hn, ← hl, rv.length]) hst fun h' hx => ?_
 have I1 : Inv X pins σ H { s with heap := h' } := I.kept (t' := s.toks) fun b o e => hx b o (Nat.ne_of_lt (Heap.lt_size e)) e
 exact h pins _ σ H xs _ Q I1 (by simpa using rv) hw
def gSub (to ti : TE) (t : TSet) : TG := fun v σ H Q => to σ H fun o H1 => ti σ H1 fun i H2 => t o i v H2 fun H3 => Q σ H3
theorem pg_sub {o i : Expr} {to ti : TE} {t : TSet} (ho : PE X o to) (hi : PE X i ti) (hs : PSet X t)
  (ha : ∀ v, assign (.Subscript o i pos) X.env v = (do
   let ov ← holding [v] (eval o X.env)
   let iv ← holding [v, ov] (eval i X.env)
   standAt pos
   holding [v, ov, iv] (setItem ov iv v)
   release [v, ov, iv] []) := by intro _; rfl) : PG X (.Subscript o i pos) (gSub to ti t) := by
 intro pins s σ H v u Q I r h
 rw [ha]
 refine wpAny_bind (wpAny_holding (thn (ho pins s σ H _ I h) fun ov s1 ⟨x, H1, I1, r1, q1⟩ => ?_))
 refine wpAny_bind (wpAny_holding (thn (hi pins s1 σ H1 _ I1 q1) fun iv s2 ⟨y, H2, I2, r2, q2⟩ => ?_))
 refine wpAny_bind (wpAny_standAt (wpAny_bind (wpAny_holding (thn (hs pins s2 σ H2 x y v ov iv u _ I2 r1 r2 r q2) fun _ s3 ⟨H3, I3, q3⟩ => ?_))))
 exact wpAny_release ⟨σ, H3, I3, q3⟩
def tAsg (te : TE) (g : TG) : TS := fun D σ H => te σ H fun x H1 => g x σ H1 D.nx
theorem ps_asg {tg e : Expr} {te : TE} {g : TG} (he : PE X e te) (hg : PG X tg g) (hs : swapsWithSole [tg] e pos.line X.env = pure false := by rfl) (hw : swappedStores [tg] e X.env = pure none := by rfl)
  (h1 : (assignEach [tg] X.env).map (·.2) = [assign tg X.env] := by rfl) : PS X (.Assign [tg] e pos) (tAsg te g) := by
 intro pins s σ H D I h
 refine wpAny_Assign_stores (thn (he pins s σ H _ I h) fun v s1 ⟨x, H1, I1, r1, q1⟩ => ?_) hs hw
 rw [h1]
 exact thn (hg pins s1 σ H1 x v _ I1 r1 q1) fun _ s2 q => q
theorem ps_set {i : Nat} {x : Str} {e : Expr} {te : TE} {pos' : Pos} (hN : X.N.Nodup) (hi : X.N[i]? = some x) (hx : Loc X.env.scope x) (he : PE X e te) (hs : swapsWith e (some (.Name x pos')) pos.line X.env = pure false := by rfl) (hf : X.fn x = true ∨ X.env.scope.names.lookup x = some .local := by first | exact .inl rfl | exact .inr rfl | assumption) :
  PS X (.Assign [.Name x pos'] e pos) (tAsg te (gName i)) := by
 intro pins s σ H D I h
 refine wpAny_Assign_Name (thn (he pins s σ H _ I h) fun v s1 ⟨y, H1, I1, r1, q1⟩ => ?_) hs
 exact store_ok I1 hN hi hx r1 (fun s2 I2 => ⟨_, H1, I2, q1⟩) hf
end
section
variable {X : Cx} {pos : Pos}
def tWhile (c : TT) (tb : TS) : TS := fun D σ H => ∃ W : Nat → St → Hp → Prop, (∃ m, W m σ H) ∧ ∀ m σ H, W m σ H →
 c σ H fun b H1 => if b = true then ∃ N : St → Hp → Prop, (∀ σ' H', N σ' H' → ∃ m', m' < m ∧ W m' σ' H') ∧ tb { D with nx := N, ct := N, bk := D.nx } σ H1 else D.nx σ H1
theorem ps_while {c : Expr} {body : List Stmt} {tc : TT} {tb : TS} (hp : PassesOwn (model X.prog X.w) X.A X.env X.xe) (hc : PT X c tc) (hb : PSs X body tb) : PS X (.While c body [] pos) (tWhile tc tb) := by
 intro pins s σ H D I h
 obtain ⟨W, ⟨m0, w0⟩, turn⟩ := h
 refine wpAny_While (codeAny_whileLoop (fun n s' => ∃ σ' H', Inv X pins σ' H' s' ∧ W n σ' H') ?_ m0 ⟨σ, H, I, w0⟩)
 rintro n s1 ⟨σ1, H1, I1, w1⟩
 refine wpAny_passesOwn hp (thn (hc pins s1 σ1 H1 _ I1 (turn n σ1 H1 w1)) fun b s2 ⟨H2, I2, q2⟩ => ?_)
 cases b with
 | true =>
  obtain ⟨N, hN, q2⟩ := q2
  rw [if_pos rfl]
  refine wpAny_passesOwn hp (thn (hb pins s2 σ1 H2 _ I2 q2) fun f s3 q3 => ?_)
  cases f with
  | next =>
   obtain ⟨σ3, H3, I3, n3⟩ := q3
   obtain ⟨m', hm, w3⟩ := hN σ3 H3 n3
   exact ⟨m', hm, σ3, H3, I3, w3⟩
  | cont =>
   obtain ⟨σ3, H3, I3, n3⟩ := q3
   obtain ⟨m', hm, w3⟩ := hN σ3 H3 n3
   exact ⟨m', hm, σ3, H3, I3, w3⟩
  | brk => exact q3
  | ret v => exact q3
 | false =>
  rw [if_neg Bool.false_ne_true]
  exact wpAny_execs_nil ⟨σ1, H2, I2, q2⟩
end
structure It where
 go : Nat → Hp → Prop
 yld : Nat → Hp → V → Hp → Prop
 stop : Nat → Hp → Prop
def FpOk (X : Cx) (pins : List (Addr × Obj)) (H : Hp) (b : Addr) : Prop :=
 H b = none ∧ b ≠ X.env.locals ∧ b ∉ X.fs ∧ (b ∈ X.ex ∨ X.s₀.heap.objs.size ≤ b) ∧ (∀ x c, X.env.cells.lookup x = some c → c ≠ b) ∧ ∀ p ∈ X.pn ++ pins, p.1 ≠ b
theorem Inv.fpOk {X : Cx} {pins : List (Addr × Obj)} {σ : St} {H H' : Hp} {s : Shared} {b : Addr} (I : Inv X pins σ H s) (hb : s.heap.objs.size ≤ b) (hn : H' b = none) : FpOk X pins H' b := by
 refine ⟨hn, Nat.ne_of_gt (Nat.lt_of_lt_of_le I.lt hb), I.nofs hb, .inr (Nat.le_trans I.sz hb), fun x c e z => ?_, fun p hp z => ?_⟩
 ·obtain ⟨v, q⟩ := I.cell x c e
  exact absurd (Nat.lt_of_lt_of_le q.lt (by rw [z]; exact hb)) (Nat.lt_irrefl _)
 ·exact absurd (Nat.lt_of_lt_of_le (Heap.lt_size (I.pin p hp).1) (by rw [z]; exact hb)) (Nat.lt_irrefl _)
structure Turn (P : Program) (w : World) (K : PySem.W.Frag) (tg : Expr) (J : It) (fp : List Addr) (it : Addr) (tn : Nat → Heap → Prop) : Prop where
 mem : it ∈ fp
 obj : ∀ i h, tn i h → ∀ b ∈ fp, ∃ o, h.get? b = some o ∧ ∀ v, o.data ≠ .cell v
 keep : ∀ i h h', tn i h → (∀ b ∈ fp, ∀ o, h.get? b = some o → h'.get? b = some o) → tn i h'
 item : ∀ (X : Cx), X.prog = P → X.w = w → X.K = K → X.calm = true → ∀ (i : Nat) (pins : List (Addr × Obj)) (s : Shared) (σ : St) (H : Hp) (E : Value → Shared → Prop), Inv X pins σ H s → (∀ b ∈ fp, FpOk X pins H b) → tn i s.heap → J.go i H →
  wpAny (model P w) X.A (pyNext (.ref it)) (fun r s1 => ∃ u, r = some u ∧
   wpAny (model P w) X.A (letOwnedTupleGo tg (.ref it) u) (fun _ s2 => ∃ x H', Inv X pins σ H' s2 ∧ RelV x u ∧ J.yld i H x H' ∧ tn (i + 1) s2.heap ∧ ∀ b ∈ fp, H' b = none) E s1) E s
 done : ∀ (X : Cx), X.prog = P → X.w = w → X.K = K → X.calm = true → ∀ (i : Nat) (pins : List (Addr × Obj)) (s : Shared) (σ : St) (H : Hp) (E : Value → Shared → Prop), Inv X pins σ H s → (∀ b ∈ fp, FpOk X pins H b) → tn i s.heap → J.stop i H →
  wpAny (model P w) X.A (pyNext (.ref it)) (fun r s1 => r = none ∧ Inv X pins σ H s1) E s
 self : ∀ (A : Around) (i : Nat) (s : Shared) (Q : Value → Shared → Prop) (E : Value → Shared → Prop), tn i s.heap → Q (.ref it) s → wpAny (model P w) A (pyIter (.ref it)) Q E s
abbrev TI := St → Hp → (It → Hp → Prop) → Prop
def PIE (X : Cx) (pins : List (Addr × Obj)) (σ : St) (tg : Expr) (R : It → Hp → Prop) (itv : Value) (s2 : Shared) : Prop :=
 ∃ (it : Addr) (fp : List Addr) (tn : Nat → Heap → Prop) (J : It) (H' : Hp), itv = .ref it ∧ Inv X pins σ H' s2 ∧ Turn X.prog X.w X.K tg J fp it tn ∧ tn 0 s2.heap ∧ (∀ b ∈ fp, FpOk X pins H' b) ∧ R J H'
def PI (X : Cx) (tg iter : Expr) (wi : TI) : Prop :=
 ∀ (pins : List (Addr × Obj)) (s : Shared) (σ : St) (H : Hp) (R : It → Hp → Prop), Inv X pins σ H s → wi σ H R →
  wpAny (model X.prog X.w) X.A (eval iter X.env) (fun v s1 => wpAny (model X.prog X.w) X.A (pyIter v) (PIE X pins σ tg R) X.xe s1) X.xe s
theorem go_of {M : Model} {A : Around} {E : Value → Shared → Prop} {s : Shared} {tg : Expr} {it : Addr} {u : Value} {o : Obj} {n : String} {vs : Array Value} {Q : Unit → Shared → Prop} (ho : s.heap.get? it = some o) (hc : o.cls = .type n) (hd : o.data = .fields vs)
    (hn : ["enumerate", "zip", "dict_itemiterator", "dict_reverseitemiterator", "odict_iterator", "itertools.zip_longest", "itertools.pairwise"].contains n = false) (hQ : Q () s) : wpAny M A (letOwnedTupleGo tg (.ref it) u) Q E s := by
  unfold letOwnedTupleGo
  cases tg <;> first
    | exact wpAny_pure hQ
    | (cases u <;> first
        | exact wpAny_pure hQ
        | (refine wpAny_bind (wpAny_load ho ?_)
           rw [hc, hd]
           show wpAny M A (if (["enumerate", "zip", "dict_itemiterator", "dict_reverseitemiterator", "odict_iterator", "itertools.zip_longest", "itertools.pairwise"].contains n && vs[0]? == some (rawInt _)) = true then _ else _) Q E s
           rw [if_neg (by intro h; rw [hn, Bool.false_and] at h; cases h)]
           exact wpAny_pure hQ))
def Itl (K : PySem.W.Frag) (a : Addr) : It :=
 ⟨fun i H => ∃ xs x, SqL K H a xs ∧ xs[i]? = some x, fun i H x H' => H' = H ∧ ∀ xs, SqL K H a xs → xs[i]? = some x, fun i H => ∃ xs, SqL K H a xs ∧ xs.length ≤ i⟩
def Itr (lo : Int) (n : Nat) : It := ⟨fun i _ => i < n, fun i H x H' => H' = H ∧ x = .int (lo + i), fun i _ => n ≤ i⟩
theorem turn_list {P : Program} {w : World} {K : PySem.W.Frag} {tg : Expr} (a it : Addr) : Turn P w K tg (Itl K a) [it] it (fun i h => h.IsListIter it a i) where
 mem := by simp
 obj := fun i h st b hb => by
  have e : b = it := by simpa using hb
  subst e
  obtain ⟨o, e, c, d⟩ := st
  exact ⟨o, e, fun v z => by rw [d] at z; cases z⟩
 keep := fun i h h' st k => st.at fun o e => k it (by simp) o e
 item := by
  intro X hP hw hK hc i pins s σ H E I hf st hg
  subst hP hw hK
  obtain ⟨xs, x, hq, hx⟩ := hg
  obtain ⟨its, rv, p, hz⟩ := I.list hq
  obtain ⟨u, hu, ru⟩ := rv.get hx
  obtain ⟨f0, f1, f2, f3, f4, f5⟩ := hf it (by simp)
  refine wpAny_pyNext_list_item st p.isList (x := u) (by simpa using hu) fun h' st' sb => ?_
  have I1 : Inv X pins σ H { s with heap := h' } := I.turned (t' := s.toks) (fun b o hb e => (sb.2 b hb).trans e) f0 f1 f3 f4 f5
  obtain ⟨o, e, c, d⟩ := id st'
  exact ⟨u, rfl, go_of (s := { s with heap := h' }) e c d (by decide) ⟨x, H, I1, ru, ⟨rfl, fun ys hy => by rw [I.list_inj hy hq]; exact hx⟩, st', fun b hb => (hf b hb).1⟩⟩
 done := by
  intro X hP hw hK hc i pins s σ H E I hf st hg
  subst hP hw hK
  obtain ⟨xs, hq, hx⟩ := hg
  obtain ⟨its, rv, p, hz⟩ := I.list hq
  obtain ⟨f0, f1, f2, f3, f4, f5⟩ := hf it (by simp)
  have hl := rv.length
  exact wpAny_pyNext_list_end (I.ok.hd hc) st p.isList (by simp; omega) fun h' eb => ⟨rfl, I.turned (t' := s.toks) (fun b o hb e => eb b o hb e) f0 f1 f3 f4 f5⟩
 self := fun _ _ _ _ _ st h => wpAny_pyIter_listiter st h
theorem turn_range {P : Program} {w : World} {K : PySem.W.Frag} {tg : Expr} (it : Addr) (lo : Int) (n : Nat) : Turn P w K tg (Itr lo n) [it] it (fun i h => IsRangeIter h it (lo + (i : Nat) * 1) ((n : Int) - (i : Nat)) 1) where
 mem := by simp
 obj := fun i h st b hb => by
  have e : b = it := by simpa using hb
  subst e
  exact ⟨_, st, fun v z => by
   have z' : Data.fields _ = Data.cell v := z
   cases z'⟩
 keep := fun i h h' st k => k it (by simp) _ st
 item := by
  intro X hP hw hK hc i pins s σ H E I hf st hg
  subst hP hw hK
  obtain ⟨f0, f1, f2, f3, f4, f5⟩ := hf it (by simp)
  have W := Walks.range (prog := X.prog) (w := X.w) (I.ok.hd hc) it lo 1 n
  refine W.item i s _ _ hg st fun v h' tk hv st' kk => ?_
  obtain ⟨t, rfl⟩ := hv
  have I1 : Inv X pins σ H { s with heap := h', toks := tk } := I.turned (fun b o hb e => kk b o (by simpa using hb) e) f0 f1 f3 f4 f5
  refine ⟨_, rfl, go_of (s := { s with heap := h', toks := tk }) (n := "range_iterator") st' rfl rfl (by decide) ⟨.int (lo + i), H, I1, ⟨t, ?_⟩, ⟨rfl, rfl⟩, st', fun b hb => (hf b hb).1⟩⟩
  rw [Int.mul_one]
 done := by
  intro X hP hw hK hc i pins s σ H E I hf st hg
  subst hP hw hK
  obtain ⟨f0, f1, f2, f3, f4, f5⟩ := hf it (by simp)
  exact wpAny_pyNext_range_end (I.ok.hd hc) st (by have : n ≤ i := hg; omega) fun h' eb => ⟨rfl, I.turned (t' := s.toks) (fun b o hb e => eb b o hb e) f0 f1 f3 f4 f5⟩
 self := fun _ _ _ _ _ st h => wpAny_pyIter_rangeiter st h
end L2
namespace L2
open PySem PySem.Spec PyProof.Rows
section
variable {X : Cx} {tg : Expr}
def iList (K : PySem.W.Frag) (tl : TE) : TI := fun σ H R => tl σ H fun x H1 => ∃ a, x = .ref a ∧ (∃ xs, SqL K H1 a xs) ∧ R (Itl K a) H1
theorem pi_list {l : Expr} {tl : TE} (hl : PE X l tl) : PI X tg l (iList X.K tl) := by
 intro pins s σ H R I h
 refine thn (hl pins s σ H _ I h) fun v s1 ⟨x, H1, I1, r1, q1⟩ => ?_
 obtain ⟨a, e, ⟨xs, hq⟩, q⟩ := q1
 subst e
 cases r1
 obtain ⟨its, rv, p, hz⟩ := I1.list hq
 refine wpAny_pyIter_list p.isList ?_
 refine ⟨s1.heap.objs.size, [s1.heap.objs.size], _, _, H1, rfl, I1.kept (t' := s1.toks) fun b o e => Heap.get?_push_of_some _ e, turn_list a _, ⟨_, Heap.get?_push_size _ rfl, rfl, rfl⟩, fun b hb => ?_, q⟩
 have e : b = s1.heap.objs.size := by simpa using hb
 subst e
 exact I1.fpOk (Nat.le_refl _) (I1.hok.fresh (Nat.le_refl _))
theorem range_it {pins : List (Addr × Obj)} {σ : St} {H : Hp} {s : Shared} {R : It → Hp → Prop} {E : Value → Shared → Prop} {lo hi : Int} {t u v : Tok} {tk : Nat} (I : Inv X pins σ H s) (h1 : -(2 ^ 62) ≤ lo) (h2 : lo < 2 ^ 62) (h3 : -(2 ^ 62) ≤ hi) (h4 : hi < 2 ^ 62)
  (q : R (Itr lo (hi - lo).toNat) H) : wpAny (model X.prog X.w) X.A (pyIter (.ref s.heap.objs.size)) (PIE X pins σ tg R) E { s with heap := s.heap.push { cls := .type "range", data := .fields #[.int lo t, .int hi u, .int 1 v] }, toks := tk } := by
 refine wpAny_pyIter_range (IsRange.new ..) (small_one h1 h2 h3 h4) ?_
 have I1 : Inv X pins σ H { s with heap := s.heap.push { cls := .type "range", data := .fields #[.int lo t, .int hi u, .int 1 v] }, toks := tk } := I.kept fun b o e => Heap.get?_push_of_some _ e
 refine ⟨(s.heap.push { cls := .type "range", data := .fields #[.int lo t, .int hi u, .int 1 v] }).objs.size, [(s.heap.push { cls := .type "range", data := .fields #[.int lo t, .int hi u, .int 1 v] }).objs.size], _, _, H, rfl,
  I1.kept (t' := tk) fun b o e => Heap.get?_push_of_some _ e, turn_range _ lo (hi - lo).toNat, ?_, fun b hb => ?_, q⟩
 ·have e1 : lo + ((0 : Nat) : Int) * 1 = lo := by simp
  have e2 : (((hi - lo).toNat : Nat) : Int) - ((0 : Nat) : Int) = Builtin.Range.rangeSize lo hi 1 := by rw [rangeSize_one]; split <;> omega
  show IsRangeIter _ _ (lo + ((0 : Nat) : Int) * 1) ((((hi - lo).toNat : Nat) : Int) - ((0 : Nat) : Int)) 1
  rw [e1, e2]
  exact Heap.get?_push_size _ rfl
 ·have e : b = (s.heap.push { cls := .type "range", data := .fields #[.int lo t, .int hi u, .int 1 v] }).objs.size := by simpa using hb
  subst e
  exact I1.fpOk (Nat.le_refl _) (I1.hok.fresh (Nat.le_refl _))
def iRng1 (ta : TA) : TI := fun σ H R => ta σ H fun vs H1 => ∃ j : Int, vs = [.int j] ∧ -(2 ^ 62) ≤ j ∧ j < 2 ^ 62 ∧ R (Itr 0 j.toNat) H1
def iRng2 (ta : TA) : TI := fun σ H R => ta σ H fun vs H1 => ∃ i j : Int, vs = [.int i, .int j] ∧ (-(2 ^ 62) ≤ i ∧ i < 2 ^ 62 ∧ -(2 ^ 62) ≤ j ∧ j < 2 ^ 62) ∧ R (Itr i (j - i).toNat) H1
theorem pi_range1 {a : Expr} {ta : TA} {p pos : Pos} (hg : Gl X "range") (hm : X.mg "range" = none) (ha : PA X [a] ta) (hs : starEach [a] X.env = [(false, eval a X.env)] := by rfl) : PI X tg (.Call (.Name "range" p) [a] [] pos) (iRng1 ta) := by
 intro pins s σ H R I h
 refine Call_ (ld_blt I hg hm boot_range (PyProof.Rows.callWith_type1 (thn (ha pos pins s σ H _ I h) fun us s1 ⟨vs, H1, I1, r1, q1⟩ => ?_) hs rfl))
 obtain ⟨j, e, q1, q2, q⟩ := q1
 subst e
 cases r1 with
 | cons r rr =>
  cases rr
  obtain ⟨t, rfl⟩ := r
  exact call_range_1 (range_it I1 (by omega) (by omega) q1 q2 (by simpa using q))
theorem pi_range2 {a b : Expr} {ta : TA} {p pos : Pos} (hg : Gl X "range") (hm : X.mg "range" = none) (ha : PA X [a, b] ta) (hs : starEach [a, b] X.env = [(false, eval a X.env), (false, eval b X.env)] := by rfl) (hs2 : starEach [b] X.env = [(false, eval b X.env)] := by rfl) :
  PI X tg (.Call (.Name "range" p) [a, b] [] pos) (iRng2 ta) := by
 intro pins s σ H R I h
 refine Call_ (ld_blt I hg hm boot_range (PyProof.Rows.callWith_type1 (thn (ha pos pins s σ H _ I h) fun us s1 ⟨vs, H1, I1, r1, q1⟩ => ?_) (by rw [hs, hs2]) (by rw [hs2]; rfl)))
 obtain ⟨i, j, e, ⟨q1, q2, q3, q4⟩, q⟩ := q1
 subst e
 cases r1 with
 | cons r rr =>
  cases rr with
  | cons r' rr =>
   cases rr
   obtain ⟨t, rfl⟩ := r
   obtain ⟨t', rfl⟩ := r'
   exact call_range_2 (range_it I1 q1 q2 q3 q4 q)
def tFor (wi : TI) (g : TG) (tb : TS) : TS := fun D σ H => wi σ H fun J H1 => ∃ W : Nat → Nat → St → Hp → Prop, (∃ m, W 0 m σ H1) ∧ ∀ i m σ H, W i m σ H →
 (J.stop i H ∧ D.nx σ H) ∨ (J.go i H ∧ ∃ N : St → Hp → Prop, (∀ σ' H', N σ' H' → ∃ m', m' < m ∧ W (i + 1) m' σ' H') ∧ ∀ x H', J.yld i H x H' → g x σ H' fun σ2 H2 => tb { D with nx := N, ct := N, bk := D.nx } σ2 H2)
def pinsAt (fp : List Addr) (h : Heap) : List (Addr × Obj) := fp.filterMap fun b => (h.get? b).map fun o => (b, o)
theorem mem_pinsAt {fp : List Addr} {h : Heap} {b : Addr} {o : Obj} (hb : b ∈ fp) (e : h.get? b = some o) : (b, o) ∈ pinsAt fp h := List.mem_filterMap.mpr ⟨b, hb, by rw [e]; rfl⟩
theorem of_pinsAt {fp : List Addr} {h : Heap} {p : Addr × Obj} (hp : p ∈ pinsAt fp h) : p.1 ∈ fp ∧ h.get? p.1 = some p.2 := by
 obtain ⟨b, hb, e⟩ := List.mem_filterMap.mp hp
 cases q : h.get? b with
 | none => rw [q] at e; cases e
 | some o =>
  rw [q] at e
  have e' : (b, o) = p := Option.some.inj e
  subst e'
  exact ⟨hb, q⟩
theorem Inv.pinned {pins : List (Addr × Obj)} {σ : St} {H : Hp} {s : Shared} {fp : List Addr} (I : Inv X pins σ H s) (hf : ∀ b ∈ fp, FpOk X pins H b) (ho : ∀ b ∈ fp, ∃ o, s.heap.get? b = some o ∧ ∀ v, o.data ≠ .cell v) : Inv X (pins ++ pinsAt fp s.heap) σ H s :=
 I.pins_of fun p hp => (List.mem_append.mp hp).elim (fun z => I.pin p (List.mem_append_right _ z)) fun z => by
  obtain ⟨hb, e⟩ := of_pinsAt z
  obtain ⟨f0, f1, f2, _⟩ := hf p.1 hb
  obtain ⟨o, e', d⟩ := ho p.1 hb
  rw [e] at e'; cases e'
  exact ⟨e, f0, f1, f2, d⟩
theorem Inv.unpinned {pins pl : List (Addr × Obj)} {σ : St} {H : Hp} {s : Shared} (I : Inv X (pins ++ pl) σ H s) : Inv X pins σ H s := I.pins_of fun p hp => I.pin p (List.mem_append_right _ (List.mem_append_left _ hp))
theorem ps_for {iter : Expr} {body : List Stmt} {wi : TI} {g : TG} {tb : TS} {pos : Pos} (hp : PassesOwn (model X.prog X.w) X.A X.env X.xe) (hc : X.calm = true) (hi : PI X tg iter wi) (hg : PG X tg g) (hb : PSs X body tb)
  (hs : ∀ x, foldedSetIterable iter X.env x = pure x := by intro _; rfl) : PS X (.For tg iter body [] pos) (tFor wi g tb) := by
 intro pins s σ H D I h
 refine wpAny_For (thn (hi pins s σ H _ I h) fun v s1 h1 => thn h1 fun itv s2 h2 => ?_) hs
 obtain ⟨it, fp, tn, J, H2, e, I2, T, st2, f2, W, ⟨m0, w0⟩, turn⟩ := h2
 subst e
 have stat : ∀ {H' : Hp}, (∀ b ∈ fp, H' b = none) → ∀ b ∈ fp, FpOk X pins H' b := fun hn b hb => ⟨hn b hb, (f2 b hb).2⟩
 refine codeAny_forLoop_any (fun n s' => ∃ i σ' H', Inv X pins σ' H' s' ∧ tn i s'.heap ∧ (∀ b ∈ fp, H' b = none) ∧ W i n σ' H') ?_ m0 ⟨0, σ, H2, I2, st2, fun b hb => (f2 b hb).1, w0⟩
 rintro n s3 ⟨i, σ3, H3, I3, st3, fr3, w3⟩
 rcases turn i n σ3 H3 w3 with ⟨stop, qn⟩ | ⟨go, N, hN, step⟩
 ·refine wpAny_passesOwn hp (thn (T.done X rfl rfl rfl hc i pins s3 σ3 H3 X.xe I3 (stat fr3) st3 stop) fun r s4 ⟨hr, I4⟩ => ?_)
  subst hr
  exact wpAny_execs_nil ⟨σ3, H3, I4, qn⟩
 ·refine wpAny_passesOwn hp (thn (T.item X rfl rfl rfl hc i pins s3 σ3 H3 X.xe I3 (stat fr3) st3 go) fun r s4 ⟨u, hr, h4⟩ => ?_)
  subst hr
  refine wpAny_passesOwn hp (thn h4 fun _ s5 ⟨x, H5, I5, r5, y5, st5, fr5⟩ => ?_)
  have I5' := I5.pinned (stat fr5) (T.obj _ _ st5)
  refine wpAny_passesOwn hp (thn (hg _ s5 σ3 H5 x u _ I5' r5 (step x H5 y5)) fun _ s6 ⟨σ6, H6, I6, q6⟩ => ?_)
  refine wpAny_passesOwn hp (thn (hb _ s6 σ6 H6 _ I6 q6) fun f s7 q7 => ?_)
  have again : ∀ {σ7 : St} {H7 : Hp}, Inv X (pins ++ pinsAt fp s5.heap) σ7 H7 s7 → N σ7 H7 → ∃ m, m < n ∧ ∃ i σ' H', Inv X pins σ' H' s7 ∧ tn i s7.heap ∧ (∀ b ∈ fp, H' b = none) ∧ W i m σ' H' := fun {σ7 H7} I7 n7 => by
   obtain ⟨m', hm, w7⟩ := hN σ7 H7 n7
   refine ⟨m', hm, i + 1, σ7, H7, I7.unpinned, T.keep _ _ _ st5 fun b hb o e => (I7.pin (b, o) (List.mem_append_right _ (List.mem_append_right _ (mem_pinsAt hb e)))).1, fun b hb => ?_, w7⟩
   obtain ⟨o, e, d⟩ := T.obj _ _ st5 b hb
   exact (I7.pin (b, o) (List.mem_append_right _ (List.mem_append_right _ (mem_pinsAt hb e)))).2.1
  cases f with
  | next => obtain ⟨σ7, H7, I7, n7⟩ := q7; exact again I7 n7
  | cont => obtain ⟨σ7, H7, I7, n7⟩ := q7; exact again I7 n7
  | brk => obtain ⟨σ7, H7, I7, q7⟩ := q7; exact ⟨σ7, H7, I7.unpinned, q7⟩
  | ret v => obtain ⟨x7, σ7, H7, I7, r7, q7⟩ := q7; exact ⟨x7, σ7, H7, I7.unpinned, r7, q7⟩
end
theorem for_list {K : PySem.W.Frag} {a : Addr} {xs : List V} {g : TG} {tb : TS} {D : Ends} {σ : St} {H : Hp} (Pv : Nat → St → Hp → Prop) (h0 : Pv 0 σ H) (hl : ∀ i σ H, i ≤ xs.length → Pv i σ H → SqL K H a xs)
  (hs : ∀ i x σ H, xs[i]? = some x → Pv i σ H → g x σ H fun σ2 H2 => tb { D with nx := Pv (i + 1), ct := Pv (i + 1), bk := D.nx } σ2 H2) (hd : ∀ σ H, Pv xs.length σ H → D.nx σ H) :
  ∃ W : Nat → Nat → St → Hp → Prop, (∃ m, W 0 m σ H) ∧ ∀ i m σ H, W i m σ H →
   ((Itl K a).stop i H ∧ D.nx σ H) ∨ ((Itl K a).go i H ∧ ∃ N : St → Hp → Prop, (∀ σ' H', N σ' H' → ∃ m', m' < m ∧ W (i + 1) m' σ' H') ∧ ∀ x H', (Itl K a).yld i H x H' → g x σ H' fun σ2 H2 => tb { D with nx := N, ct := N, bk := D.nx } σ2 H2) := by
 refine ⟨fun i m σ H => m = xs.length - i ∧ i ≤ xs.length ∧ Pv i σ H, ⟨xs.length, by simp, Nat.zero_le _, h0⟩, ?_⟩
 rintro i m σ H ⟨rfl, hi, p⟩
 have q := hl i σ H hi p
 by_cases hlt : i < xs.length
 ·refine .inr ⟨⟨xs, xs[i], q, by simp [hlt]⟩, Pv (i + 1), fun σ' H' p' => ⟨xs.length - (i + 1), by omega, rfl, hlt, p'⟩, fun x H' y => ?_⟩
  obtain ⟨e, y⟩ := y
  subst e
  exact hs i x σ _ (y xs q) p
 ·have e : i = xs.length := by omega
  subst e
  exact .inl ⟨⟨xs, q, Nat.le_refl _⟩, hd σ H p⟩
theorem for_range {lo : Int} {n : Nat} {g : TG} {tb : TS} {D : Ends} {σ : St} {H : Hp} (Pv : Nat → St → Hp → Prop) (h0 : Pv 0 σ H)
  (hs : ∀ i σ H, i < n → Pv i σ H → g (.int (lo + i)) σ H fun σ2 H2 => tb { D with nx := Pv (i + 1), ct := Pv (i + 1), bk := D.nx } σ2 H2) (hd : ∀ σ H, Pv n σ H → D.nx σ H) :
  ∃ W : Nat → Nat → St → Hp → Prop, (∃ m, W 0 m σ H) ∧ ∀ i m σ H, W i m σ H →
   ((Itr lo n).stop i H ∧ D.nx σ H) ∨ ((Itr lo n).go i H ∧ ∃ N : St → Hp → Prop, (∀ σ' H', N σ' H' → ∃ m', m' < m ∧ W (i + 1) m' σ' H') ∧ ∀ x H', (Itr lo n).yld i H x H' → g x σ H' fun σ2 H2 => tb { D with nx := N, ct := N, bk := D.nx } σ2 H2) := by
 refine ⟨fun i m σ H => m = n - i ∧ i ≤ n ∧ Pv i σ H, ⟨n, by simp, Nat.zero_le _, h0⟩, ?_⟩
 rintro i m σ H ⟨rfl, hi, p⟩
 by_cases hlt : i < n
 ·refine .inr ⟨hlt, Pv (i + 1), fun σ' H' p' => ⟨n - (i + 1), by omega, rfl, hlt, p'⟩, fun x H' y => ?_⟩
  obtain ⟨e, y⟩ := y
  subst e y
  exact hs i σ _ hlt p
 ·have e : i = n := by omega
  subst e
  exact .inl ⟨Nat.le_refl _, hd σ H p⟩
end L2
namespace L2
open PySem PySem.Spec PyProof.Rows
abbrev R2 := V → V → Hp → VK → Prop
def OpR (X : Cx) (f : Value → Value → Sem Value) (r : R2) : Prop :=
 ∀ (pins : List (Addr × Obj)) (s : Shared) (σ : St) (H : Hp) (x y : V) (v u : Value) (Q : VK), Inv X pins σ H s → RelV x v → RelV y u → r x y H Q →
  wpAny (model X.prog X.w) X.A (f v u) (EP X pins σ Q) X.xe s
def UnR (X : Cx) (f : Value → Sem Value) (r : V → Hp → VK → Prop) : Prop :=
 ∀ (pins : List (Addr × Obj)) (s : Shared) (σ : St) (H : Hp) (x : V) (v : Value) (Q : VK), Inv X pins σ H s → RelV x v → r x H Q →
  wpAny (model X.prog X.w) X.A (f v) (EP X pins σ Q) X.xe s
def CallR (X : Cx) (f : Value) (r : List V → Hp → VK → Prop) : Prop :=
 ∀ (pins : List (Addr × Obj)) (s : Shared) (σ : St) (H : Hp) (xs : List V) (us : List Value) (Q : VK), Inv X pins σ H s → Vals xs us → r xs H Q →
  wpAny (model X.prog X.w) X.A (call f us) (EP X pins σ Q) X.xe s
def tOp (r : R2) (ta tb : TE) : TE := fun σ H Q => ta σ H fun x H1 => tb σ H1 fun y H2 => r x y H2 Q
def tUn (r : V → Hp → VK → Prop) (ta : TE) : TE := fun σ H Q => ta σ H fun x H1 => r x H1 Q
def rI (C : Int → Int → Prop) (g : Int → Int → V) : R2 := fun x y H Q => ∃ i j, x = .int i ∧ y = .int j ∧ C i j ∧ Q (g i j) H
def rI0 (g : Int → Int → V) : R2 := fun x y H Q => ∃ i j, x = .int i ∧ y = .int j ∧ Q (g i j) H
def rU (g : Int → V) : V → Hp → VK → Prop := fun x H Q => ∃ i, x = .int i ∧ Q (g i) H
section
variable {X : Cx} {a b c : Expr} {ta tb tc : TE} {pos : Pos}
theorem binT (ha : PE X a ta) (hb : PE X b tb) {pins : List (Addr × Obj)} {s : Shared} {σ : St} {H : Hp} {R : V → V → Hp → Prop} (I : Inv X pins σ H s)
  (h : ta σ H fun x H1 => tb σ H1 fun y H2 => R x y H2) {Q : Value → Shared → Prop} {f : Value → Value → Sem Value}
  (hf : ∀ v u s2 x y H2, Inv X pins σ H2 s2 → RelV x v → RelV y u → R x y H2 → wpAny (model X.prog X.w) X.A (f v u) Q X.xe s2) :
  wpAny (model X.prog X.w) X.A (eval a X.env) (fun v s₁ => wpAny (model X.prog X.w) X.A (eval b X.env) (fun u s₂ => wpAny (model X.prog X.w) X.A (f v u) Q X.xe s₂) X.xe s₁) X.xe s := by
 refine thn (ha pins s σ H _ I h) fun v s1 ⟨x, H1, I1, r1, q1⟩ => ?_
 refine thn (hb pins s1 σ H1 _ I1 q1) fun u s2 ⟨y, H2, I2, r2, q2⟩ => ?_
 exact hf v u s2 x y H2 I2 r1 r2 q2
theorem pe_op {op : Operator} {r : R2} (ho : OpR X (binaryOp op) r) (ha : PE X a ta) (hb : PE X b tb) : PE X (.BinOp a op b pos) (tOp r ta tb) := by
 intro pins s σ H Q I h
 exact wpAny_BinOp (binT ha hb I h fun v u s2 x y H2 I2 rx ry q => ho pins s2 σ H2 x y v u Q I2 rx ry q)
theorem pe_un {op : UnaryOp} {r : V → Hp → VK → Prop} (ho : UnR X (unaryOp op) r) (ha : PE X a ta) : PE X (.UnaryOp op a pos) (tUn r ta) := by
 intro pins s σ H Q I h
 exact UnaryOp_ (thn (ha pins s σ H _ I h) fun v s1 ⟨x, H1, I1, r1, q1⟩ => ho pins s1 σ H1 x v Q I1 r1 q1)
theorem opI {f : Value → Value → Sem Value} {C : Int → Int → Prop} {g : Int → Int → Int}
  (rule : ∀ (i j : Int) (t u : Tok) (s : Shared) (Q : Value → Shared → Prop) (E : Value → Shared → Prop), C i j → Q (.int (g i j) s.toks) { s with toks := s.toks + 1 } → wpAny (model X.prog X.w) X.A (f (.int i t) (.int j u)) Q E s) :
  OpR X f (rI C fun i j => .int (g i j)) := by
 intro pins s σ H x y v u Q I rx ry h
 obtain ⟨i, j, rfl, rfl, hc, q⟩ := h
 obtain ⟨t, rfl⟩ := rx
 obtain ⟨t', rfl⟩ := ry
 exact rule i j t t' s _ _ hc ⟨.int (g i j), H, I.tok _, ⟨_, rfl⟩, q⟩
theorem opI0 {f : Value → Value → Sem Value} {g : Int → Int → Int}
  (rule : ∀ (i j : Int) (t u : Tok) (s : Shared) (Q : Value → Shared → Prop) (E : Value → Shared → Prop), Q (.int (g i j) s.toks) { s with toks := s.toks + 1 } → wpAny (model X.prog X.w) X.A (f (.int i t) (.int j u)) Q E s) :
  OpR X f (rI0 fun i j => .int (g i j)) := by
 intro pins s σ H x y v u Q I rx ry h
 obtain ⟨i, j, rfl, rfl, q⟩ := h
 obtain ⟨t, rfl⟩ := rx
 obtain ⟨t', rfl⟩ := ry
 exact rule i j t t' s _ _ ⟨.int (g i j), H, I.tok _, ⟨_, rfl⟩, q⟩
theorem opB0 {f : Value → Value → Sem Value} {g : Int → Int → Bool}
  (rule : ∀ (i j : Int) (t u : Tok) (s : Shared) (Q : Value → Shared → Prop) (E : Value → Shared → Prop), Q (.bool (g i j)) s → wpAny (model X.prog X.w) X.A (f (.int i t) (.int j u)) Q E s) :
  OpR X f (rI0 fun i j => .bl (g i j)) := by
 intro pins s σ H x y v u Q I rx ry h
 obtain ⟨i, j, rfl, rfl, q⟩ := h
 obtain ⟨t, rfl⟩ := rx
 obtain ⟨t', rfl⟩ := ry
 exact rule i j t t' s _ _ ⟨.bl (g i j), H, I, rfl, q⟩
def CDiv (i j : Int) : Prop := 0 < j ∧ j < 1073741824
def CPow (i j : Int) : Prop := 0 ≤ j ∧ j ≤ 1000000 ∧ i.natAbs < 2 ^ 64
def CMul (i j : Int) : Prop := (-(2 ^ 64) < i ∧ i < 2 ^ 64) ∨ (-(2 ^ 64) < j ∧ j < 2 ^ 64)
theorem CMul.ok {i j : Int} (h : CMul i j) : IntMulOk i j := by
 rcases h with ⟨h1, h2⟩ | ⟨h1, h2⟩
 ·exact .of_left (intBits_le_64 h1 h2)
 ·exact .of_right (intBits_le_64 h1 h2)
theorem op_add : OpR X (binaryOp .Add) (rI0 fun i j => .int (i + j)) := opI0 fun _ _ _ _ _ _ _ q => add_int q
theorem op_sub : OpR X (binaryOp .Sub) (rI0 fun i j => .int (i - j)) := opI0 fun _ _ _ _ _ _ _ q => sub_int q
theorem op_mul : OpR X (binaryOp .Mult) (rI CMul fun i j => .int (i * j)) := opI fun _ _ _ _ _ _ _ hc q => mul_int q hc.ok
theorem op_fdiv : OpR X (binaryOp .FloorDiv) (rI CDiv fun i j => .int (i / j)) := opI fun i j _ _ _ _ _ hc q => by
 have h1 : (0 : Int) < j := hc.1
 have h2 : j < 1073741824 := hc.2
 exact floordiv_int (by omega) (by rw [Int.fdiv_eq_ediv_of_nonneg i (by omega)]; exact q) (.inl (PyProof.noPylong_small (by omega)))
theorem op_mod : OpR X (binaryOp .Mod) (rI (fun _ j => 0 < j) fun i j => .int (i % j)) := opI fun i j _ _ _ _ _ hc q => by
 have h1 : (0 : Int) < j := hc
 exact mod_int' (by omega) (by rw [Int.fmod_eq_emod_of_nonneg i (by omega)]; exact q)
theorem op_pow : OpR X (binaryOp .Pow) (rI CPow fun i j => .int (i ^ j.toNat)) := opI fun _ _ _ _ _ _ _ hc q => pow_int_small hc.1 hc.2.1 hc.2.2 q
theorem op_shl : OpR X (binaryOp .LShift) (rI CPow fun i j => .int (i * 2 ^ j.toNat)) := opI fun _ _ _ _ _ _ _ hc q => lshift_int_small hc.1 hc.2.1 hc.2.2 q
theorem op_and : OpR X (binaryOp .BitAnd) (rI0 fun i j => .int (Builtin.bitAnd i j)) := opI0 fun _ _ _ _ _ _ _ q => and_int q
theorem unI {f : Value → Sem Value} {g : Int → Int}
  (rule : ∀ (i : Int) (t : Tok) (s : Shared) (Q : Value → Shared → Prop) (E : Value → Shared → Prop), Q (.int (g i) s.toks) { s with toks := s.toks + 1 } → wpAny (model X.prog X.w) X.A (f (.int i t)) Q E s) :
  UnR X f (rU fun i => .int (g i)) := by
 intro pins s σ H x v Q I rx h
 obtain ⟨i, rfl, q⟩ := h
 obtain ⟨t, rfl⟩ := rx
 exact rule i t s _ _ ⟨.int (g i), H, I.tok _, ⟨_, rfl⟩, q⟩
theorem un_neg : UnR X (unaryOp .USub) (rU fun i => .int (-i)) := unI fun _ _ _ _ _ q => neg_int q
end
def scal : V → V → Bool
 | .non, .non => true | .non, .int _ => true | .int _, .non => true | .non, .bl _ => true | .bl _, .non => true | .non, .str _ => true | .str _, .non => true
 | .int _, .int _ => true | .bl _, .bl _ => true | .str _, .str _ => true | .byt _, .byt _ => true
 | .int _, .str _ => true | .str _, .int _ => true | .bl _, .str _ => true | .str _, .bl _ => true
 | _, _ => false
def rEq : R2 := fun x y H Q => scal x y = true ∧ Q (.bl (decide (x = y))) H
def rNe : R2 := fun x y H Q => scal x y = true ∧ Q (.bl (!decide (x = y))) H
theorem dec_int {i j : Int} : decide (V.int i = V.int j) = (i == j) := by
 rw [Bool.eq_iff_iff]
 simp
theorem dec_bl {i j : Bool} : decide (V.bl i = V.bl j) = (i == j) := by
 rw [Bool.eq_iff_iff]
 simp
theorem dec_str {i j : Str} : decide (V.str i = V.str j) = (i == j) := by
 rw [Bool.eq_iff_iff]
 simp
theorem dec_byt {i j : Array UInt8} : decide (V.byt i = V.byt j) = (i.toList == j.toList) := by
 rw [Bool.eq_iff_iff]
 cases i
 cases j
 simp
section
variable {X : Cx} {a b c : Expr} {ta tb tc : TE} {pos : Pos}
theorem fin_bl {pins : List (Addr × Obj)} {σ : St} {H : Hp} {s : Shared} {Q : VK} {k k' : Bool} (I : Inv X pins σ H s) (q : Q (.bl k) H) (e : k = k') : EP X pins σ Q (.bool k') s := by
 subst e
 exact ⟨.bl k, H, I, rfl, q⟩
theorem op_eq : OpR X (compareOp .Eq) rEq := by
 intro pins s σ H x y v u Q I rx ry h
 obtain ⟨hs, q⟩ := h
 cases x with
 | non =>
  cases rx
  cases y with
  | non => cases ry; exact PySem.EqNone.eq_none_none (fin_bl I q (by simp))
  | bl j => cases ry; exact PySem.EqNone.eq_none_bool (fin_bl I q (by simp))
  | int j => obtain ⟨t', rfl⟩ := ry; exact PySem.EqNone.eq_none_int (fin_bl I q (by simp))
  | str j => obtain ⟨t', rfl⟩ := ry; exact PySem.EqNone.eq_none_str (fin_bl I q (by simp))
  | _ => exact absurd (show false = true from hs) Bool.false_ne_true
 | bl i =>
  cases rx
  cases y with
  | non => cases ry; exact PySem.EqNone.eq_bool_none (fin_bl I q (by simp))
  | bl j => cases ry; exact eq_bool (fin_bl I q dec_bl)
  | str j => obtain ⟨t', rfl⟩ := ry; exact PySem.EqMixed.eq_bool_str (fin_bl I q (by simp))
  | _ => exact absurd (show false = true from hs) Bool.false_ne_true
 | int i =>
  obtain ⟨t, rfl⟩ := rx
  cases y with
  | non => cases ry; exact PySem.EqNone.eq_int_none (fin_bl I q (by simp))
  | int j => obtain ⟨t', rfl⟩ := ry; exact eq_int (fin_bl I q dec_int)
  | str j => obtain ⟨t', rfl⟩ := ry; exact PySem.EqMixed.eq_int_str (fin_bl I q (by simp))
  | _ => exact absurd (show false = true from hs) Bool.false_ne_true
 | str i =>
  obtain ⟨t, rfl⟩ := rx
  cases y with
  | non => cases ry; exact PySem.EqNone.eq_str_none (fin_bl I q (by simp))
  | bl j => cases ry; exact PySem.EqMixed.eq_str_bool (fin_bl I q (by simp))
  | int j => obtain ⟨t', rfl⟩ := ry; exact PySem.EqMixed.eq_str_int (fin_bl I q (by simp))
  | str j => obtain ⟨t', rfl⟩ := ry; exact eq_str (fin_bl I q dec_str)
  | _ => exact absurd (show false = true from hs) Bool.false_ne_true
 | byt i =>
  obtain ⟨t, rfl⟩ := rx
  cases y with
  | byt j => obtain ⟨t', rfl⟩ := ry; exact PySem.W.eq_bytes (fin_bl I q dec_byt)
  | _ => exact absurd (show false = true from hs) Bool.false_ne_true
 | _ => cases y <;> exact absurd (show false = true from hs) Bool.false_ne_true
theorem op_ne : OpR X (compareOp .NotEq) rNe := by
 intro pins s σ H x y v u Q I rx ry h
 obtain ⟨hs, q⟩ := h
 cases x with
 | non =>
  cases rx
  cases y with
  | non => cases ry; exact PySem.EqNone.ne_none_none (fin_bl I q (by simp))
  | bl j => cases ry; exact PySem.EqNone.ne_none_bool (fin_bl I q (by simp))
  | int j => obtain ⟨t', rfl⟩ := ry; exact PySem.EqNone.ne_none_int (fin_bl I q (by simp))
  | str j => obtain ⟨t', rfl⟩ := ry; exact PySem.EqNone.ne_none_str (fin_bl I q (by simp))
  | _ => exact absurd (show false = true from hs) Bool.false_ne_true
 | bl i =>
  cases rx
  cases y with
  | non => cases ry; exact PySem.EqNone.ne_bool_none (fin_bl I q (by simp))
  | bl j => cases ry; exact ne_bool (fin_bl I q (congrArg not dec_bl))
  | str j => obtain ⟨t', rfl⟩ := ry; exact PySem.EqMixed.ne_bool_str (fin_bl I q (by simp))
  | _ => exact absurd (show false = true from hs) Bool.false_ne_true
 | int i =>
  obtain ⟨t, rfl⟩ := rx
  cases y with
  | non => cases ry; exact PySem.EqNone.ne_int_none (fin_bl I q (by simp))
  | int j => obtain ⟨t', rfl⟩ := ry; exact ne_int (fin_bl I q (congrArg not dec_int))
  | str j => obtain ⟨t', rfl⟩ := ry; exact PySem.EqMixed.ne_int_str (fin_bl I q (by simp))
  | _ => exact absurd (show false = true from hs) Bool.false_ne_true
 | str i =>
  obtain ⟨t, rfl⟩ := rx
  cases y with
  | non => cases ry; exact PySem.EqNone.ne_str_none (fin_bl I q (by simp))
  | bl j => cases ry; exact PySem.EqMixed.ne_str_bool (fin_bl I q (by simp))
  | int j => obtain ⟨t', rfl⟩ := ry; exact PySem.EqMixed.ne_str_int (fin_bl I q (by simp))
  | str j => obtain ⟨t', rfl⟩ := ry; exact ne_str (fin_bl I q (congrArg not dec_str))
  | _ => exact absurd (show false = true from hs) Bool.false_ne_true
 | byt i =>
  obtain ⟨t, rfl⟩ := rx
  cases y with
  | byt j => obtain ⟨t', rfl⟩ := ry; exact PySem.W.ne_bytes (fin_bl I q (congrArg not dec_byt))
  | _ => exact absurd (show false = true from hs) Bool.false_ne_true
 | _ => cases y <;> exact absurd (show false = true from hs) Bool.false_ne_true
theorem op_lt : OpR X (compareOp .Lt) (rI0 fun i j => .bl (decide (i < j))) := opB0 fun _ _ _ _ _ _ _ q => lt_int q
theorem op_le : OpR X (compareOp .LtE) (rI0 fun i j => .bl (decide (i ≤ j))) := opB0 fun _ _ _ _ _ _ _ q => le_int q
theorem op_gt : OpR X (compareOp .Gt) (rI0 fun i j => .bl (decide (j < i))) := opB0 fun _ _ _ _ _ _ _ q => gt_int q
theorem op_ge : OpR X (compareOp .GtE) (rI0 fun i j => .bl (decide (j ≤ i))) := opB0 fun _ _ _ _ _ _ _ q => ge_int q
theorem op_notN : OpR X (compareOp .IsNot) (fun x y H Q => y = .non ∧ Q (.bl (!decide (x = .non))) H) := by
 intro pins s σ H x y v u Q I rx ry h
 obtain ⟨rfl, q⟩ := h
 cases ry
 refine isnot_none_gen (fin_bl I q ?_)
 cases x <;> first
  | (cases rx; rfl)
  | (obtain ⟨t, rfl⟩ := rx; rfl)
theorem nomark (b : Expr) {op : CmpOp} (h : op ≠ .In := by decide) (h2 : op ≠ .NotIn := by decide) : behindInMarks op b = false := by
 have e1 : (op == CmpOp.In) = false := by cases op <;> first | rfl | exact absurd rfl h
 have e2 : (op == CmpOp.NotIn) = false := by cases op <;> first | rfl | exact absurd rfl h2
 cases b <;> simp [behindInMarks, e1, e2]
theorem pe_cmpR {op : CmpOp} {r : R2} (ho : OpR X (compareOp op) r) (ha : PE X a ta) (hb : PE X b tb) (hm : behindInMarks op b = false) : PE X (.Compare a [op] [b] pos) (tOp r ta tb) := by
 intro pins s σ H Q I h
 exact wpAny_Compare1 (binT ha hb I h fun v u s2 x y H2 I2 rx ry q => ho pins s2 σ H2 x y v u Q I2 rx ry q) hm
def tTest (t : TE) : TT := fun σ H Q => t σ H fun x H' => ∃ k, x = .bl k ∧ Q k H'
theorem pt_cmpR {op : CmpOp} {r : R2} (ho : OpR X (compareOp op) r) (ha : PE X a ta) (hb : PE X b tb) (hm : behindInMarks op b = false) : PT X (.Compare a [op] [b] pos) (tTest (tOp r ta tb)) := by
 intro pins s σ H Q I h
 refine wpAny_isTrue_Compare1 (thn (ha pins s σ H _ I h) fun v s1 ⟨x, H1, I1, r1, q1⟩ => thn (hb pins s1 σ H1 _ I1 q1) fun u s2 ⟨y, H2, I2, r2, q2⟩ =>
  thn (ho pins s2 σ H2 x y v u _ I2 r1 r2 q2) fun c s3 ⟨z, H3, I3, r3, k, e, q3⟩ => ?_) hm
 subst e
 cases r3
 exact wpAny_truthy_bool ⟨H3, I3, q3⟩
def tChain (r r' : R2) (ta tb tc : TE) : TE := fun σ H Q => ta σ H fun x H1 => tb σ H1 fun y H2 => r x y H2 fun z H3 => ∃ k, z = .bl k ∧
 (if k = true then tc σ H3 fun w' H4 => r' y w' H4 Q else Q (.bl false) H3)
theorem pt_chain {op op' : CmpOp} {r r' : R2} (ho : OpR X (compareOp op) r) (ho' : OpR X (compareOp op') r') (ha : PE X a ta) (hb : PE X b tb) (hc : PE X c tc)
  (hm : lastMarks [op, op'] [b, c] = false := by with_unfolding_all rfl) : PT X (.Compare a [op, op'] [b, c] pos) (tTest (tChain r r' ta tb tc)) := by
 intro pins s σ H Q I h
 refine isTrue_chain (thn (ha pins s σ H _ I h) fun v s1 ⟨x, H1, I1, r1, q1⟩ => test_link (thn (hb pins s1 σ H1 _ I1 q1) fun u s2 ⟨y, H2, I2, r2, q2⟩ =>
  thn (ho pins s2 σ H2 x y v u _ I2 r1 r2 q2) fun d s3 ⟨z, H3, I3, r3, k, e, q3⟩ => ?_)) hm
 subst e
 cases r3
 refine wpAny_truthy_bool ?_
 cases k with
 | false =>
  obtain ⟨k', e', q'⟩ := q3
  cases e'
  exact ite_ff ⟨H3, I3, q'⟩
 | true =>
  refine ite_tt (test_last (thn (hc pins s3 σ H3 _ I3 q3) fun w' s4 ⟨z', H4, I4, r4, q4⟩ => thn (ho' pins s4 σ H4 y z' u w' _ I4 r2 r4 q4) fun d' s5 ⟨z2, H5, I5, r5, k2, e2, q5⟩ => ?_))
  subst e2
  cases r5
  exact wpAny_truthy_bool ⟨H5, I5, q5⟩
theorem line63 : (sizeLine : Nat) < 2 ^ 63 := by rw [sizeLine_eq]; decide
theorem vals1 {x : V} {us : List Value} (r : Vals [x] us) : ∃ u, us = [u] ∧ RelV x u := by
 cases r with
 | cons r1 r2 => cases r2; exact ⟨_, rfl, r1⟩
theorem call_abs : CallR X (.builtin "abs") (fun xs H Q => ∃ i, xs = [.int i] ∧ Q (.int (if i < 0 then -i else i)) H) := by
 intro pins s σ H xs us Q I r h
 obtain ⟨i, rfl, q⟩ := h
 obtain ⟨u, rfl, t, rfl⟩ := vals1 r
 exact call_abs_int fun u tk => ⟨.int (if i < 0 then -i else i), H, I.tok _, ⟨_, rfl⟩, q⟩
theorem call_int1 : CallR X (.type "int") (fun xs H Q => (∃ i, xs = [.int i] ∧ Q (.int i) H) ∨ ∃ k, xs = [.bl k] ∧ Q (.int (if k then 1 else 0)) H) := by
 intro pins s σ H xs us Q I r h
 rcases h with ⟨i, rfl, q⟩ | ⟨k, rfl, q⟩
 ·obtain ⟨u, rfl, t, rfl⟩ := vals1 r
  exact call_int_int ⟨.int i, H, I, ⟨_, rfl⟩, q⟩
 ·obtain ⟨u, rfl, r1⟩ := vals1 r
  cases r1
  exact call_int_bool ⟨.int (if k then 1 else 0), H, I.tok _, ⟨_, rfl⟩, q⟩
end
end L2
namespace L2
open PySem PySem.Spec PyProof.Rows
structure ObjM (h : Heap) (x dx C : Addr) (mA : Str → Option Value) : Prop where
 obj : h.get? x = some (PySem.W.instObj C dx)
 ns : h.Ns1 dx mA
 ne : dx ≠ x
theorem lookIn_ns {h : Heap} {dx : Addr} {mA : Str → Option Value} (n : h.Ns1 dx mA) : ∃ od, h.get? dx = some od ∧ ∀ name, PySem.W.lookIn name od = some (mA name) := by
 obtain ⟨o, es, ep, ho, hd, hk, _, hm⟩ := n
 refine ⟨o, ho, fun name => ?_⟩
 have e := hm name
 unfold nsFind findBy at e
 rw [← Array.find?_toList] at e
 unfold PySem.W.lookIn
 rw [hd]
 dsimp only
 split
 ·rename_i y q
  rw [q] at e
  exact congrArg some e
 ·rename_i q
  rw [q] at e
  have a : es.toList.any (·.refKey) = false := by
   rw [List.any_eq_false]
   intro y hy
   obtain ⟨z, t, hkey⟩ := hk y (Array.mem_toList_iff.mp hy)
   simp [DictEntry.refKey, hkey]
  have a' : ¬ es.toList.any (·.refKey) = true := by rw [a]; exact Bool.false_ne_true
  rw [if_neg a']
  exact congrArg some e
theorem ObjM.look {h : Heap} {x dx C : Addr} {mA : Str → Option Value} (I : ObjM h x dx C mA) : ∃ od, PySem.W.InstAt h x (PySem.W.instObj C dx) C (some od) ∧ ∀ name, PySem.W.lookIn name od = some (mA name) :=
 let ⟨od, ho, hl⟩ := lookIn_ns I.ns
 ⟨od, ⟨I.obj, rfl, rfl, ho⟩, hl⟩
section
variable {prog : Program} {w : World} {A : Around} {E : Value → Shared → Prop} {s : Shared} {K : PySem.W.Frag} {x dx C f : Addr} {mA : Str → Option Value} {name : Str} {v : Value}
theorem get_map {expr : Bool} {Q : Value → Shared → Prop} (X : K.In s.heap) (I : ObjM s.heap x dx C mA) (hg : PySem.W.plainGet K C name = true) (hh : PySem.W.hasDictIn K C = true)
  (ha : PySem.W.findIn K (.ref C) name = some none) (hv : mA name = some v) (hv' : PySem.W.handedIn v = true) (h : Q v { s with toks := s.toks + 1 }) :
  wpAny (model prog w) A (getAttr (.ref x) name expr) Q E s := by
 obtain ⟨od, J, hl⟩ := I.look
 exact PySem.W.get_value X J (PySem.W.plainGet_of hg).1 (PySem.W.findObj_own hh ha rfl (by rw [hl, hv])) hv' h
theorem get_meth {pl : Sem Bool} {Q : Value × List Value → Shared → Prop} (X : K.In s.heap) (I : ObjM s.heap x dx C mA) (hg : PySem.W.plainGet K C name = true)
  (hf : PySem.W.findIn K (.ref C) name = some (some (.ref f))) (ht : PySem.W.isFn K (.ref f) = true) (hv : mA name = none) (h : Q (.ref f, [.ref x]) s) :
  wpAny (model prog w) A (getMethod (.ref x) name pl) Q E s := by
 obtain ⟨od, J, hl⟩ := I.look
 exact PySem.W.method_fn X J (PySem.W.plainGet_of hg).1 (PySem.W.plainGet_of hg).2 hf (beq_iff_eq.mp ht) (by show (PySem.W.lookIn name od).map (·.isSome) = some false; rw [hl, hv]; rfl) h
theorem set_map {ns : List Str} {Q : Unit → Shared → Prop} (X : K.In s.heap) (I : ObjM s.heap x dx C mA)
  (hs : PySem.W.findIn K (.ref C) "__setattr__" = some (some (.builtin "object.__setattr__"))) (hp : PySem.W.plainOver K C = true) (ht : PySem.W.takerIn K C name = some none) (hh : PySem.W.hasDictIn K C = true)
  (hw : PySem.Within mA ns) (hsz : ns.length ≤ sizeLine)
  (h : ∀ h', ObjM h' x dx C (fun y => if y = name then some v else mA y) → Heap.SameBut dx s.heap h' → Q () { s with heap := h', toks := s.toks + 2 }) :
  wpAny (model prog w) A (setAttr (.ref x) name v) Q E s := by
 obtain ⟨od, J, hl⟩ := I.look
 refine PySem.W.set_plain X J hs (PySem.W.osa_open (s := { s with toks := s.toks + 1 }) (r := none) X J hp ht fun b => ?_)
 obtain ⟨cd, hc, hd'⟩ := PySem.W.any_some hh
 have hx : s.heap.get? x = some ⟨.ref C, some dx, .plain, #[]⟩ := I.obj
 refine wpAny_bind (wpAny_pure (wpAny_bind (wpAny_bind (wpAny_loadPart hx (wpAny_bind (PySem.W.Looks.here (s := { s with toks := s.toks + 1 }) (PySem.W.looks_clsIn X hc) ?_))))))
 rw [hd']
 refine wpAny_pure (a := some dx) (wpAny_bind (wpAny_pure (wpAny_bind ?_)))
 refine wpAny_nsSet1 (s := { s with toks := s.toks + 1 }) I.ns fun h' hn2 hs2 => ?_
 obtain ⟨oD, esD, epD, hoD, hdD, hcD⟩ := hn2.count (PySem.Within.cons name v hw)
 refine wpAny_bind (wpAny_lookBehind hoD (by rw [hdD]; exact pastItsLine_dict (Nat.le_trans hcD (by rw [List.length_cons]; omega))) ?_)
 exact wpAny_pure (h _ ⟨(hs2.2 _ (Ne.symm I.ne)).trans I.obj, hn2, I.ne⟩ hs2)
theorem make_map {R : Result → Shared → Prop} {vs : List Value} {kw : List (Str × Value)} (X : K.In s.heap) (hm : PySem.W.makesIn K C = true)
  (hi : PySem.W.findIn K (.ref C) "__init__" = some (some (.ref f))) (hf : PySem.W.typeIn K (.ref f) = some (.type "function"))
  (h : codeAny (model prog w) (A.under (.builtin "type.__call__" ⟨.ref C :: vs, kw⟩)) (.call (.ref f) ⟨.ref (s.heap.objs.size + 1) :: vs, kw⟩) (PySem.W.InitBack (s.heap.objs.size + 1) R)
   { s with heap := (s.heap.push PySem.W.emptyDict).push (PySem.W.instObj C s.heap.objs.size) }) :
  codeAny (model prog w) A (.call (.ref C) ⟨vs, kw⟩) R s := by
 obtain ⟨hh, g, d, t, os⟩ := s
 exact PySem.W.make_core (PySem.W.makes_of X hm) (PySem.W.looks_findIn X hi) (fun self => PySem.W.bind_fn X self hf) (.inl rfl) h
end
def putF (f : Str) (v : V) : List (Str × V) → List (Str × V)
 | [] => [(f, v)]
 | (g, x) :: r => if g = f then (g, v) :: r else (g, x) :: putF f v r
theorem lookup_putF (f g : Str) (v : V) : ∀ fs : List (Str × V), (putF f v fs).lookup g = if g = f then some v else fs.lookup g
 | [] => by
  show List.lookup g [(f, v)] = _
  by_cases h : g = f
  ·have hb : (g == f) = true := beq_iff_eq.mpr h
   simp only [List.lookup, hb, if_pos h]
  ·have hb : (g == f) = false := beq_eq_false_iff_ne.mpr h
   simp only [List.lookup, hb, if_neg h]
 | (k, x) :: r => by
  have ih := lookup_putF f g v r
  rw [show putF f v ((k, x) :: r) = (if k = f then (k, v) :: r else (k, x) :: putF f v r) from rfl]
  by_cases hk : k = f
  ·rw [if_pos hk]
   by_cases h : g = k
   ·have hb : (g == k) = true := beq_iff_eq.mpr h
    simp only [List.lookup, hb, if_pos (h.trans hk)]
   ·have hb : (g == k) = false := beq_eq_false_iff_ne.mpr h
    simp only [List.lookup, hb, if_neg (fun e : g = f => h (e.trans hk.symm))]
  ·rw [if_neg hk]
   by_cases h : g = k
   ·have hb : (g == k) = true := beq_iff_eq.mpr h
    simp only [List.lookup, hb, if_neg (fun e : g = f => hk (h.symm.trans e))]
   ·have hb : (g == k) = false := beq_eq_false_iff_ne.mpr h
    simp only [List.lookup, hb]
    exact ih
theorem keys_putF (f : Str) (v : V) : ∀ fs : List (Str × V), f ∈ (putF f v fs).map (·.1) ∧ ∀ g, g ∈ fs.map (·.1) → g ∈ (putF f v fs).map (·.1)
 | [] => ⟨by simp [putF], fun g h => by simp at h⟩
 | (k, x) :: r => by
  obtain ⟨i1, i2⟩ := keys_putF f v r
  rw [show putF f v ((k, x) :: r) = (if k = f then (k, v) :: r else (k, x) :: putF f v r) from rfl]
  by_cases hk : k = f
  ·rw [if_pos hk]
   subst hk
   exact ⟨by simp, fun g h => by simpa using h⟩
  ·rw [if_neg hk]
   refine ⟨?_, fun g h => ?_⟩
   ·rw [List.map_cons]
    exact List.mem_cons_of_mem _ i1
   ·rw [List.map_cons] at h ⊢
    rcases List.mem_cons.mp h with e | e
    ·exact List.mem_cons.mpr (.inl e)
    ·exact List.mem_cons_of_mem _ (i2 g e)
theorem length_putF (f : Str) (v : V) : ∀ fs : List (Str × V), (putF f v fs).length ≤ fs.length + 1
 | [] => by simp [putF]
 | (k, x) :: r => by
  have ih := length_putF f v r
  rw [show putF f v ((k, x) :: r) = (if k = f then (k, v) :: r else (k, x) :: putF f v r) from rfl]
  by_cases hk : k = f
  ·rw [if_pos hk, List.length_cons, List.length_cons]; omega
  ·rw [if_neg hk, List.length_cons, List.length_cons]; omega
theorem RelO.some_of {v : V} {o : Option Value} (r : RelO (some v) o) : ∃ u, o = some u ∧ RelV v u := by
 cases o with
 | none => exact (show False from r).elim
 | some u => exact ⟨u, rfl, r⟩
theorem RelO.none_of {o : Option Value} (r : RelO none o) : o = none := by
 cases o with
 | none => rfl
 | some u => exact (show False from r).elim
theorem handed_of {v : V} {u : Value} (r : RelV v u) : PySem.W.handedIn u = true := by
 cases v with
 | non => cases (show u = Value.none from r); rfl
 | bl b => cases (show u = Value.bool b from r); rfl
 | int i => obtain ⟨t, e⟩ := (show ∃ t, u = Value.int i t from r); cases e; rfl
 | str x => obtain ⟨t, e⟩ := (show ∃ t, u = Value.str x t from r); cases e; rfl
 | byt b => obtain ⟨t, e⟩ := (show ∃ t, u = Value.bytes b t from r); cases e; rfl
 | flt b => obtain ⟨t, e⟩ := (show ∃ t, u = Value.float b t from r); cases e; rfl
 | ref a => cases (show u = Value.ref a from r); rfl
 | ty n => cases (show u = Value.type n from r); rfl
section
variable {P : Program} {w : World} {H H' : Hp} {h h' : Heap} {a C dx : Addr} {fs fs' : List (Str × V)}
theorem ins_get (hok : HOk P w H h) (e : H a = some (.ins C dx fs)) : ∃ mA, ObjM h a dx C mA ∧ (∀ f, RelO (fs.lookup f) (mA f)) ∧ PySem.Within mA (fs.map (·.1)) ∧ fs.length ≤ 1000 ∧ H dx = some (.own a) := by
 obtain ⟨d, z, ne, ob, mA, n, r, q⟩ := (show ObjOk P w H h a (.ins C dx fs) from hok a _ e)
 exact ⟨mA, ⟨ob, n, ne⟩, r, q, z, d⟩
end
structure Cls (K : PySem.W.Frag) (C : Addr) : Prop where
 pg : PySem.W.plainGet K C Str.empty = true
 hd : PySem.W.hasDictIn K C = true
 po : PySem.W.plainOver K C = true
 sa : PySem.W.findIn K (.ref C) "__setattr__" = some (some (.builtin "object.__setattr__"))
theorem Cls.get {K : PySem.W.Frag} {C : Addr} (c : Cls K C) (f : Str) : PySem.W.plainGet K C f = true := c.pg
def NoAttr (K : PySem.W.Frag) (C : Addr) (f : Str) : Prop := PySem.W.findIn K (.ref C) f = some none
theorem NoAttr.taker {K : PySem.W.Frag} {C : Addr} {f : Str} (n : NoAttr K C f) : PySem.W.takerIn K C f = some none := by
 unfold PySem.W.takerIn
 rw [show PySem.W.findIn K (.ref C) f = some none from n]
 rfl
structure Con (K : PySem.W.Frag) (C : Addr) (f : Str) (v : V) (u : Value) : Prop where
 at_ : PySem.W.findIn K (.ref C) f = some (some u)
 rel : RelV v u
 get : PySem.W.specialIn K u "__get__" = some none
 cp : PySem.W.copiedNames.contains f = false
structure Meth (K : PySem.W.Frag) (C : Addr) (m : Str) (f : Addr) : Prop where
 at_ : PySem.W.findIn K (.ref C) m = some (some (.ref f))
 fn : PySem.W.isFn K (.ref f) = true
 kp : PySem.W.keepIn K (.ref f) = true
section
variable {X : Cx} {pins : List (Addr × Obj)} {σ : St} {H : Hp} {s : Shared} {a C dx : Addr} {fs : List (Str × V)} {f : Str} {v : V} {A : Around} {E : Value → Shared → Prop}
theorem getattr_ok {b : Bool} {Q : Value → Shared → Prop} (I : Inv X pins σ H s) (e : H a = some (.ins C dx fs)) (c : Cls X.K C) (n : NoAttr X.K C f) (l : fs.lookup f = some v)
  (h : ∀ u s', Inv X pins σ H s' → RelV v u → Q u s') : wpAny (model X.prog X.w) A (getAttr (.ref a) f b) Q E s := by
 obtain ⟨mA, O, r, _, _, _⟩ := ins_get I.hok e
 obtain ⟨u, hu, ru⟩ := RelO.some_of (v := v) (o := mA f) (by rw [← l]; exact r f)
 exact get_map I.kIn O (c.get f) c.hd n hu (handed_of ru) (h u _ (I.tok _) ru)
theorem getmeth_ok {m : Str} {g : Addr} {pl : Sem Bool} {Q : Value × List Value → Shared → Prop} (I : Inv X pins σ H s) (e : H a = some (.ins C dx fs)) (c : Cls X.K C) (k : Meth X.K C m g) (l : fs.lookup m = none)
  (h : Q (.ref g, [.ref a]) s) : wpAny (model X.prog X.w) A (getMethod (.ref a) m pl) Q E s := by
 obtain ⟨mA, O, r, _, _, _⟩ := ins_get I.hok e
 have hn : mA m = none := RelO.none_of (by rw [← l]; exact r m)
 exact get_meth I.kIn O (c.get m) k.at_ k.fn hn h
theorem setattr_ok {y : V} {u : Value} {Q : Unit → Shared → Prop} (I : Inv X pins σ H s) (e : H a = some (.ins C dx fs)) (c : Cls X.K C) (n : NoAttr X.K C f) (hl : fs.length < 1000) (ry : RelV y u)
  (h : ∀ s', Inv X pins σ (upd H a (.ins C dx (putF f y fs))) s' → Q () s') : wpAny (model X.prog X.w) A (setAttr (.ref a) f u) Q E s := by
 obtain ⟨mA, O, r, wi, _, ho⟩ := ins_get I.hok e
 have hz : (fs.map (·.1)).length ≤ sizeLine := by rw [List.length_map, sizeLine_eq]; omega
 refine set_map I.kIn O c.sa c.po n.taker c.hd wi hz fun h' O' sb => h _ ?_
 have hd : ∃ o, h'.get? dx = some o := let ⟨o, _, _, e', _⟩ := O'.ns; ⟨o, e'⟩
 refine I.write (x := a) (e := dx) (by rw [e]; exact True.intro) (.inr ho) (fun b q hb z => (sb.2 b hb).trans z) hd ?_
 refine ⟨by rw [upd_ne O.ne]; exact ho, ?_, O.ne, O'.obj, _, O'.ns, fun g => ?_, fun g hg => ?_⟩
 ·have := length_putF f y fs; omega
 ·show RelO ((putF f y fs).lookup g) (if g = f then some u else mA g)
  rw [lookup_putF]
  by_cases q : g = f
  ·rw [if_pos q, if_pos q]; exact ry
  ·rw [if_neg q, if_neg q]; exact r g
 ·by_cases q : g = f
  ·rw [q]; exact (keys_putF f y fs).1
  ·refine (keys_putF f y fs).2 g (wi g fun z => hg ?_)
   show (if g = f then some u else mA g) = none
   rw [if_neg q]; exact z
theorem Inv.made (I : Inv X pins σ H s) : Inv X pins σ (upd (upd H s.heap.objs.size (.own (s.heap.objs.size + 1))) (s.heap.objs.size + 1) (.ins C s.heap.objs.size []))
  { s with heap := (s.heap.push PySem.W.emptyDict).push (PySem.W.instObj C s.heap.objs.size) } := by
 have e1 : (s.heap.push PySem.W.emptyDict).get? s.heap.objs.size = some PySem.W.emptyDict := Heap.get?_push_size s.heap rfl
 have e2 : ((s.heap.push PySem.W.emptyDict).push (PySem.W.instObj C s.heap.objs.size)).get? (s.heap.objs.size + 1) = some (PySem.W.instObj C s.heap.objs.size) := by
  have := Heap.get?_push_size (s.heap.push PySem.W.emptyDict) (o := PySem.W.instObj C s.heap.objs.size) rfl
  rwa [Heap.size_push] at this
 have e3 : (s.heap.push PySem.W.emptyDict).Ns s.heap.objs.size (fun _ => none) := ⟨PySem.W.emptyDict, #[], _, e1, rfl, (fun e he => absurd he (by simp)), fun _ => rfl⟩
 have I1 := I.laid (a := s.heap.objs.size) (o := .own (s.heap.objs.size + 1)) (h' := s.heap.push PySem.W.emptyDict) (t' := s.toks) (fun b u q => Heap.get?_push_of_some _ q) (Nat.le_refl _) ⟨_, e1⟩
 refine I1.laid (a := s.heap.objs.size + 1) (o := .ins C s.heap.objs.size []) (t' := s.toks) (fun b u q => Heap.get?_push_of_some _ q) (Nat.le_of_eq (Heap.size_push _ _)) ?_
 have ne : s.heap.objs.size ≠ s.heap.objs.size + 1 := Nat.ne_of_lt (Nat.lt_succ_self _)
 refine ⟨by rw [upd_ne ne, upd_same], Nat.zero_le _, ne, e2, fun _ => none, (Heap.Ns1.of_empty e3).at fun o q => Heap.get?_push_of_some _ q, fun _ => True.intro, fun y hy => absurd rfl hy⟩
theorem attr_of {prog : Program} {w : World} {env : Env} {e : Expr} {f : Str} {pos : Pos} {s : Shared} {Q : Value → Shared → Prop} (hb : attributeBase e f env (eval e env) = eval e env)
  (h : wpAny (model prog w) A (eval e env) (fun o s₁ => wpAny (model prog w) A (getAttr o f true) Q E s₁) E s) : wpAny (model prog w) A (eval (.Attribute e f pos) env) Q E s :=
 Attribute_any_ h (by rw [arm_eval_Attribute, hb])
end
def tFld (K : PySem.W.Frag) (ta : TE) (f : Str) : TE := fun σ H Q => ta σ H fun x H1 => ∃ a C dx fs v, x = .ref a ∧ H1 a = some (.ins C dx fs) ∧ Cls K C ∧ NoAttr K C f ∧ fs.lookup f = some v ∧ Q v H1
def sFld (K : PySem.W.Frag) (ta tv : TE) (f : Str) : TS := fun D σ H => tv σ H fun y H1 => ta σ H1 fun x H2 => ∃ a C dx fs, x = .ref a ∧ H2 a = some (.ins C dx fs) ∧ Cls K C ∧ NoAttr K C f ∧ fs.length < 1000 ∧
 D.nx σ (upd H2 a (.ins C dx (putF f y fs)))
section
variable {X : Cx} {o e value : Expr} {f : Str} {pos pos' tpos : Pos} {ta tv : TE}
theorem pe_fld (he : PE X e ta) (hb : attributeBase e f X.env (eval e X.env) = eval e X.env) : PE X (.Attribute e f pos) (tFld X.K ta f) := by
 intro pins s σ H Q I h
 refine attr_of hb (thn (he pins s σ H _ I h) fun u s1 ⟨x, H1, I1, rx, a, C, dx, fs, v, ex, ea, c, n, l, q⟩ => ?_)
 subst ex
 obtain rfl : u = Value.ref a := rx
 exact getattr_ok I1 ea c n l fun u' s2 I2 ru => ⟨v, H1, I2, ru, q⟩
theorem ps_fld (ha : PE X o ta) (hv : PE X value tv) (hs : swapsWith value (some (.Attribute o f pos')) pos.line X.env = pure false) : PS X (.Assign [.Attribute o f pos'] value pos) (sFld X.K ta tv f) := by
 intro pins s σ H D I h
 refine plainObj_wpAny_Assign_Attribute (thn (hv pins s σ H _ I h) fun u s1 ⟨y, H1, I1, ry, q⟩ => thn (ha pins s1 σ H1 _ I1 q) fun ov s2 ⟨x, H2, I2, rx, a, C, dx, fs, ex, ea, c, n, l, q2⟩ => ?_) hs
 subst ex
 obtain rfl : ov = Value.ref a := rx
 exact setattr_ok I2 ea c n l ry fun s3 I3 => ⟨σ, _, I3, q2⟩
end
section
variable {X : Cx} {pins : List (Addr × Obj)} {σ : St} {H : Hp} {s : Shared} {A : Around} {E : Value → Shared → Prop} {Q : Value → Shared → Prop} {c : Value} {b : Bool}
inductive TyOf (K : PySem.W.Frag) (H : Hp) : V → Value → Prop where
 | non : TyOf K H .non (.type "NoneType")
 | bl (x : Bool) : TyOf K H (.bl x) (.type "bool")
 | int (i : Int) : TyOf K H (.int i) (.type "int")
 | str (x : Str) : TyOf K H (.str x) (.type "str")
 | flt (x : UInt64) : TyOf K H (.flt x) (.type "float")
 | lst {a : Addr} {xs : List V} (e : H a = some (.lst xs)) : TyOf K H (.ref a) (.type "list")
 | frz {a : Addr} {o : Obj} {xs : List V} (e : H a = some (.frz o (.lst xs))) : TyOf K H (.ref a) (.type "list")
 | tup {a : Addr} {xs : List V} (e : H a = some (.tup xs)) : TyOf K H (.ref a) (.type "tuple")
 | dK {a : Addr} {kvs : List (Key × V)} (e : H a = some (.dK kvs)) : TyOf K H (.ref a) (.type "dict")
 | dT {a : Addr} {kvs : List (List Key × V)} (e : H a = some (.dT kvs)) : TyOf K H (.ref a) (.type "dict")
 | ins {a C dx : Addr} {fs : List (Str × V)} (e : H a = some (.ins C dx fs)) (cl : Cls K C) (ha : PySem.W.findIn K (.ref C) "__class__" = some (some (.builtin "object.__class__")))
   (hn : PySem.W.specialIn K (.builtin "object.__class__") "__get__" = some (some (.builtin "getset_descriptor.__get__"))) (htk : PySem.W.takesIn K (.builtin "object.__class__") = some true)
   (hm : PySem.W.mroIn K C (.type "object") = some true) : TyOf K H (.ref a) (.ref C)
theorem isinst_ok {x : V} {u t : Value} (I : Inv X pins σ H s) (rx : RelV x u) (ty : TyOf X.K H x t) (e : PySem.W.kitOne X.K t c = some b) (h : ∀ tk, Q (.bool b) { s with toks := tk }) :
  wpAny (model X.prog X.w) A (call (.builtin "isinstance") [u, c]) Q E s := by
 cases ty with
 | non => cases (show u = Value.none from rx); exact PySem.W.kia_one PySem.W.kitx_none I.kIn True.intro e (fun z => nomatch z) h
 | bl y => cases (show u = Value.bool y from rx); exact PySem.W.kia_one PySem.W.kitx_bool I.kIn True.intro e (fun z => nomatch z) h
 | int i => obtain ⟨t, q⟩ := (show ∃ t, u = Value.int i t from rx); cases q; exact PySem.W.kia_one PySem.W.kitx_int I.kIn True.intro e (fun z => nomatch z) h
 | str y => obtain ⟨t, q⟩ := (show ∃ t, u = Value.str y t from rx); cases q; exact PySem.W.kia_one PySem.W.kitx_str I.kIn True.intro e (fun z => nomatch z) h
 | flt y => obtain ⟨t, q⟩ := (show ∃ t, u = Value.float y t from rx); cases q; exact PySem.W.kia_one PySem.W.kitx_float I.kIn True.intro e (fun z => nomatch z) h
 | @lst a xs ea =>
  cases (show u = Value.ref a from rx)
  obtain ⟨_, _, n, _, h1⟩ := (show ObjOk X.prog X.w H s.heap a (.lst xs) from I.hok a _ ea)
  exact PySem.W.kia_one PySem.W.kitx_list I.kIn ⟨_, h1, rfl⟩ e (fun z => nomatch z) h
 | @frz a ob xs ea =>
  cases (show u = Value.ref a from rx)
  obtain ⟨_, _, _, n, _, h1⟩ := (show ObjOk X.prog X.w H s.heap a (.frz ob (.lst xs)) from I.hok a _ ea)
  exact PySem.W.kia_one PySem.W.kitx_list I.kIn ⟨_, h1, rfl⟩ e (fun z => nomatch z) h
 | @tup a xs ea =>
  cases (show u = Value.ref a from rx)
  obtain ⟨_, _, _, p⟩ := (show ObjOk X.prog X.w H s.heap a (.tup xs) from I.hok a _ ea)
  obtain ⟨o, h1, h2, _⟩ := p
  exact PySem.W.kia_one PySem.W.kitx_tuple I.kIn ⟨o, h1, h2⟩ e (fun z => nomatch z) h
 | @dK a kvs ea =>
  cases (show u = Value.ref a from rx)
  obtain ⟨_, _, vs, _, p⟩ := (show ObjOk X.prog X.w H s.heap a (.dK kvs) from I.hok a _ ea)
  obtain ⟨o, es, ep, h1, h2, _⟩ := p
  exact PySem.W.kia_one PySem.W.kitx_dict I.kIn ⟨o, h1, h2.1⟩ e (fun z => nomatch z) h
 | @dT a kvs ea =>
  cases (show u = Value.ref a from rx)
  obtain ⟨_, _, xs, _, o, es, ep, h1, h2, _⟩ := (show ObjOk X.prog X.w H s.heap a (.dT kvs) from I.hok a _ ea)
  exact PySem.W.kia_one PySem.W.kitx_dict I.kIn ⟨o, h1, h2.1⟩ e (fun z => nomatch z) h
 | @ins a C dx fs ea cl ha hn htk hm =>
  cases (show u = Value.ref a from rx)
  obtain ⟨mA, O, _⟩ := ins_get I.hok ea
  obtain ⟨od, J, _⟩ := O.look
  exact PySem.W.kia_one (PySem.W.kitx_own (cl.get _) cl.hd ha hn htk hm) I.kIn J e (fun z => nomatch z) h
end
end L2
namespace L2
open PySem PySem.Spec PyProof.Rows
structure Room (k : Nat) (A : Around) : Prop where
 hd : A.handled = none
 dp : A.depth + 3 * k + 5 < recursionLimit
 un : A.units + 16 * k + 200 < cLine
theorem Room.mono {j k : Nat} {A : Around} (r : Room k A) (h : j ≤ k) : Room j A := ⟨r.hd, by have := r.dp; omega, by have := r.un; omega⟩
theorem Room.deeper {k : Nat} {A : Around} (r : Room (k + 1) A) (env : Env) : Room k (A.deeper env) :=
 ⟨r.hd, by have := r.dp; show A.depth + 1 + 3 * k + 5 < _; omega, by have := r.un; show A.units + 3 + 16 * k + 200 < _; omega⟩
theorem make_depth {A : Around} {C : Addr} {us : List Value} {kw : List (Str × Value)} : (A.under (.builtin "type.__call__" ⟨.ref C :: us, kw⟩)).depth = A.depth + 1 := by
 first | rfl | simp [Around.under, Code.weight, Code.isCreation, Code.isGuard, Code.isCaller, Code.frames, Code.isFrame, guardIds]
theorem make_units {A : Around} {C : Addr} {us : List Value} {kw : List (Str × Value)} : (A.under (.builtin "type.__call__" ⟨.ref C :: us, kw⟩)).units = A.units + 1 := by
 first | rfl | simp [Around.under, Code.cUnits, Code.frames, Code.isFrame]
theorem Room.make {k : Nat} {A : Around} (r : Room (k + 1) A) (C : Addr) (us : List Value) (kw : List (Str × Value)) : Room k (A.under (.builtin "type.__call__" ⟨.ref C :: us, kw⟩)) :=
 ⟨r.hd, by have := r.dp; rw [make_depth]; omega, by have := r.un; rw [make_units]; omega⟩
theorem Room.depth {k : Nat} {A : Around} (r : Room k A) : A.depth < recursionLimit := by have := r.dp; omega
theorem Room.units {k : Nat} {A : Around} (r : Room k A) : A.units + 64 < cLine := by have := r.un; omega
def tNil : TA := fun _ H Q => Q [] H
def tCons (ta : TE) (tr : TA) : TA := fun σ H Q => ta σ H fun x H1 => tr σ H1 fun xs H2 => Q (x :: xs) H2
section
variable {X : Cx} {e : Expr} {es : List Expr} {te : TE} {t : TA} {pos : Pos}
theorem pa_nil : PA X [] tNil := fun _ _ _ _ H Q I h => Calls.spliced_nil ⟨[], H, I, .nil, h⟩
theorem pa_cons (ha : PE X e te) (hr : PA X es t) (hs : starEach (e :: es) X.env = (false, eval e X.env) :: starEach es X.env := by rfl) : PA X (e :: es) (tCons te t) := by
 intro pos pins s σ H Q I h
 rw [hs]
 show wpAny _ _ (spliced ((false, eval e X.env) :: backTo pos (starEach es X.env))) _ _ s
 refine Calls.spliced_cons (thn (ha pins s σ H _ I h) fun u s1 ⟨x, H1, I1, r1, q1⟩ => ?_)
 exact thn (hr pos pins s1 σ H1 _ I1 q1) fun us s2 ⟨xs, H2, I2, r2, q2⟩ => ⟨x :: xs, H2, I2, .cons r1 r2, q2⟩
def tTup (t : TA) : TE := fun σ H Q => t σ H fun xs H1 => xs.length ≤ sizeLine ∧ ∀ p, H1 p = none → Q (.ref p) (upd H1 p (.tup xs))
def tLst (t : TA) : TE := fun σ H Q => t σ H fun xs H1 => xs.length ≤ sizeLine ∧ ∀ p, H1 p = none → Q (.ref p) (upd H1 p (.lst xs))
theorem pe_tup {x1} (h : PA X es t) : PE X (.Tuple es x1 pos) (tTup t) := by
 intro pins s σ H Q I hq
 refine wpAny_Tuple_spliced (thn (h pos pins s σ H _ I hq) fun us s1 ⟨xs, H1, I1, r, z, q⟩ => ⟨by rw [← r.length]; exact z, ?_⟩)
 have hf : H1 s1.heap.objs.size = none := I1.hok.fresh (Nat.le_refl _)
 refine ⟨.ref s1.heap.objs.size, upd H1 s1.heap.objs.size (.tup xs), I1.laid (t' := s1.toks) (fun b u e => Heap.get?_push_of_some _ e) (Nat.le_refl _) ?_, rfl, q _ hf⟩
 exact ⟨z, us, r, ⟨_, Heap.get?_push_size _ rfl, rfl, _, rfl⟩⟩
theorem pe_lst (h : PA X es t) : PE X (.List es pos) (tLst t) := by
 intro pins s σ H Q I hq
 refine wpAny_List_spliced (thn (h pos pins s σ H _ I hq) fun us s1 ⟨xs, H1, I1, r, z, q⟩ => ⟨by rw [← r.length]; exact z, ?_⟩)
 have hf : H1 s1.heap.objs.size = none := I1.hok.fresh (Nat.le_refl _)
 refine ⟨.ref s1.heap.objs.size, upd H1 s1.heap.objs.size (.lst xs), I1.laid (t' := s1.toks) (fun b u e => Heap.get?_push_of_some _ e) (Nat.le_refl _) ?_, rfl, q _ hf⟩
 exact ⟨z, us, 0, r, Heap.get?_push_size _ rfl⟩
end
abbrev Sp := List V → Hp → VK → XK → Prop
abbrev CXT := List Env → Hp → Shared → XK → Value → Shared → Prop
structure Env0 (P : Program) (w : World) (K : PySem.W.Frag) (mg : Str → Option Value) (base : Heap) (A : Around) (outer : List Env) (s : Shared) (H : Hp) : Prop where
 frames : A.frames = some outer
 mod : Mod K mg base
 bs : ∀ b o, base.get? b = some o → s.heap.get? b = some o ∧ H b = none
 bsz : base.objs.size ≤ s.heap.objs.size
 funs : s.heap.FunFrames base outer
 frf : ∀ b ∈ frs outer, H b = none
 hok : HOk P w H s.heap
 bare : AllBare s.gens
def CE (outer : List Env) (P : Program) (w : World) (H : Hp) (s : Shared) (Q : VK) (u : Value) (s' : Shared) : Prop :=
 ∃ v H', s'.os = s.os ∧ AllBare s'.gens ∧ Un (frs outer) [] H H' s.heap s'.heap ∧ HOk P w H' s'.heap ∧ RelV v u ∧ Q v H'
def CR (CX : CXT) (outer : List Env) (P : Program) (w : World) (H : Hp) (s : Shared) (Q : VK) (E : XK) (r : Result) (s' : Shared) : Prop :=
 match r with
 | .ok (.ret u) => CE outer P w H s Q u s'
 | .ok _ => False
 | .error e => CX outer H s E e s'
structure FnOk (P : Program) (w : World) (K : PySem.W.Frag) (mg : Str → Option Value) (base : Heap) (CX : CXT) (k : Nat) (f : Addr) (fd : FuncData) (ps : List Str) (sp : Sp) : Prop where
 len : ∀ vs H Q E, sp vs H Q E → vs.length = ps.length
 run : ∀ (A : Around) (outer : List Env) (s : Shared) (H : Hp) (args : Args) (us : List Value) (vs : List V) (Q : VK) (E : XK), Room k A → Env0 P w K mg base A outer s H → BindsTo s fd args (ps.zip us) → Vals vs us → sp vs H Q E →
  codeAny (model P w) A (.call (.ref f) args) (CR CX outer P w H s Q E) s
theorem FnOk.mono {P : Program} {w : World} {K : PySem.W.Frag} {mg : Str → Option Value} {base : Heap} {CX : CXT} {j k : Nat} {f : Addr} {fd : FuncData} {ps : List Str} {sp : Sp} (F : FnOk P w K mg base CX j f fd ps sp) (h : j ≤ k) :
  FnOk P w K mg base CX k f fd ps sp := ⟨F.len, fun A outer s H args us vs Q E hr => F.run A outer s H args us vs Q E (hr.mono h)⟩
theorem Env0.make {P : Program} {w : World} {K : PySem.W.Frag} {mg : Str → Option Value} {base : Heap} {A : Around} {outer : List Env} {s : Shared} {H : Hp} (e : Env0 P w K mg base A outer s H) (C : Addr) (us : List Value) (kw : List (Str × Value)) :
  Env0 P w K mg base (A.under (.builtin "type.__call__" ⟨.ref C :: us, kw⟩)) outer s H := ⟨by first | exact e.frames | (simpa [Around.under, Code.envs, Code.isFrame, pushEnvs] using e.frames), e.mod, e.bs, e.bsz, e.funs, e.frf, e.hok, e.bare⟩
section
variable {X : Cx} {pins : List (Addr × Obj)} {σ : St} {H : Hp} {s s' : Shared}
theorem Inv.env0 (I : Inv X pins σ H s) : Env0 X.prog X.w X.K X.mg X.base X.A X.stack s H :=
 ⟨I.ok.frames, I.ok.mod, I.bs, Nat.le_trans I.ok.bsz I.sz, I.stack, I.stkFree, I.hok, I.bare⟩
theorem Inv.after {Q : VK} {u : Value} (I : Inv X pins σ H s) (h : CE X.stack X.prog X.w H s Q u s') : EP X pins σ Q u s' := by
 obtain ⟨v, H', os, bare, un, hok, r, q⟩ := h
 obtain ⟨hh, g, d, t, os'⟩ := s'
 obtain rfl : os' = s.os := os
 exact ⟨v, H', I.call (h' := hh) (g' := g) (d' := d) (t' := t) (ch := []) un hok bare (fun b z => absurd z (by simp)), r, q⟩
end
def tCall (sp : Sp) (dvs : List V) (E : XK) (t : TA) : TE := fun σ H Q => t σ H fun vs H1 => sp (vs ++ dvs) H1 Q E
def tMeth (C : Addr) (m : Str) (sp : Sp) (dvs : List V) (E : XK) (ta : TE) (t : TA) : TE := fun σ H Q => ta σ H fun x H1 => ∃ a dx fs, x = .ref a ∧ H1 a = some (.ins C dx fs) ∧ fs.lookup m = none ∧
 t σ H1 fun vs H2 => sp (x :: (vs ++ dvs)) H2 Q E
def tMake (C : Addr) (sp : Sp) (dvs : List V) (E : XK) (t : TA) : TE := fun σ H Q => t σ H fun vs H1 => ∀ x dx, H1 x = none → H1 dx = none → dx ≠ x →
 sp (.ref x :: (vs ++ dvs)) (upd (upd H1 dx (.own x)) x (.ins C dx [])) (fun v H2 => v = .non ∧ Q (.ref x) H2) E
def Binds (K : PySem.W.Frag) (fd : FuncData) (ps : List Str) (ds : List Value) : Prop :=
 ∀ (s : Shared) (us : List Value), K.In s.heap → (us ++ ds).length = ps.length → BindsTo s fd ⟨us, []⟩ (ps.zip (us ++ ds))
theorem Binds.all {K : PySem.W.Frag} {fd : FuncData} {ps : List Str} (h : ∀ us : List Value, us.length = ps.length → bindArgs fd ⟨us, []⟩ = pure (ps.zip us)) : Binds K fd ps [] := fun s us _ hl => by
 rw [List.append_nil] at hl ⊢
 exact .of_eq (h us hl)
def Passes (CX : CXT) (X : Cx) (E : XK) : Prop := ∀ (pins : List (Addr × Obj)) (σ : St) (H : Hp) (s : Shared) (e : Value) (s' : Shared), Inv X pins σ H s → CX X.stack H s E e s' → X.xe e s'
section
variable {X : Cx} {CX : CXT} {k : Nat} {f C : Addr} {fd : FuncData} {ps : List Str} {sp : Sp} {dvs : List V} {ds : List Value} {E : XK} {x m : Str} {p pos apos : Pos} {e o : Expr} {es : List Expr} {ta : TE} {t : TA}
theorem run_fn {pins : List (Addr × Obj)} {σ : St} {H : Hp} {s : Shared} {Q : VK} {us : List Value} {vs : List V} (F : FnOk X.prog X.w X.K X.mg X.base CX k f fd ps sp) (hr : Room k X.A) (hb : Binds X.K fd ps ds) (hd : Vals dvs ds) (hx : Passes CX X E)
  (I : Inv X pins σ H s) (r : Vals vs us) (h : sp (vs ++ dvs) H Q E) : wpAny (model X.prog X.w) X.A (call (.ref f) us) (EP X pins σ Q) X.xe s := by
 have r2 : Vals (vs ++ dvs) (us ++ ds) := r.append hd
 have hl : (us ++ ds).length = ps.length := by rw [← r2.length]; exact F.len _ _ _ _ h
 refine wpAny_call (codeAny_mono (F.run X.A X.stack s H ⟨us, []⟩ (us ++ ds) (vs ++ dvs) Q E hr I.env0 (hb s us I.kIn hl) r2 h) fun r s' hq => ?_)
 cases r with
 | error e => exact hx pins σ H s e s' I hq
 | ok fl =>
  cases fl with
  | ret u => exact I.after hq
  | next => exact False.elim hq
  | brk => exact False.elim hq
  | cont => exact False.elim hq
theorem pe_call (F : FnOk X.prog X.w X.K X.mg X.base CX k f fd ps sp) (hr : Room k X.A) (hg : Gl X x) (hm : X.mg x = some (.ref f)) (hk : PySem.W.keepIn X.K (.ref f) = true) (hb : Binds X.K fd ps ds) (hd : Vals dvs ds) (hx : Passes CX X E)
  (ha : PA X (e :: es) t) (hdb : (x == ("__debug__" : Str)) = false := by decide) (he : starEach (e :: es) X.env = (false, eval e X.env) :: starEach es X.env := by rfl) (hpl : (backTo pos (starEach es X.env)).any (·.1) = false := by rfl) :
  PE X (.Call (.Name x p) (e :: es) [] pos) (tCall sp dvs E t) := by
 intro pins s σ H Q I h
 refine wpAny_Call_Name_kw (ld_glob I hg hm ?_ hdb)
 refine PySem.W.callWith_K (h₀ := X.base) I.ok.mod.kin hk (thn (ha pos pins s σ H _ I h) fun us s1 ⟨vs, H1, I1, r, q⟩ => ⟨I1.kIn, ?_⟩) he hpl
 exact run_fn F hr hb hd hx I1 r q
theorem pe_meth {pl : Sem Bool} (he : PE X o ta) (c : Cls X.K C) (hm : Meth X.K C m f) (F : FnOk X.prog X.w X.K X.mg X.base CX k f fd ps sp) (hr : Room k X.A) (hb : Binds X.K fd ps ds) (hd : Vals dvs ds) (hx : Passes CX X E) (ha : PA X (e :: es) t)
  (hst : starEach (e :: es) X.env = (false, eval e X.env) :: starEach es X.env := by rfl) (hpl : (backTo pos (starEach es X.env)).any (·.1) = false := by rfl)
  (ht : eval (.Call (.Attribute o m apos) (e :: es) [] pos) X.env = (do
   let ov ← eval o X.env
   standAt apos.atName
   let (f, first) ← holding [ov] (getMethod ov m pl)
   callWith pos f first (backTo pos (starEach (e :: es) X.env)) (backToKw pos (keywordEach [] X.env))) := by rfl) :
  PE X (.Call (.Attribute o m apos) (e :: es) [] pos) (tMeth C m sp dvs E ta t) := by
 intro pins s σ H Q I h
 refine PySem.W.methodCall_KW (pl := pl) (thn (he pins s σ H _ I h) fun u s1 ⟨x, H1, I1, rx, a, dx, fs, ex, ea, l, q⟩ => ?_) ht
 subst ex
 obtain rfl : u = Value.ref a := rx
 refine getmeth_ok I1 ea c hm l ?_
 refine PySem.W.callWith_K (first := [.ref a]) (h₀ := X.base) I.ok.mod.kin hm.kp (thn (ha pos pins s1 σ H1 _ I1 q) fun us s2 ⟨vs, H2, I2, r, q2⟩ => ⟨I2.kIn, ?_⟩) hst hpl
 exact run_fn (us := .ref a :: us) (vs := .ref a :: vs) F hr hb hd hx I2 (.cons rfl r) q2
theorem pe_meth0 {pl : Sem Bool} (he : PE X o ta) (c : Cls X.K C) (hm : Meth X.K C m f) (F : FnOk X.prog X.w X.K X.mg X.base CX k f fd ps sp) (hr : Room k X.A) (hb : Binds X.K fd ps ds) (hd : Vals dvs ds) (hx : Passes CX X E)
  (ht : eval (.Call (.Attribute o m apos) [] [] pos) X.env = (do
   let ov ← eval o X.env
   standAt apos.atName
   let (f, first) ← holding [ov] (getMethod ov m pl)
   callWith pos f first (backTo pos (starEach [] X.env)) (backToKw pos (keywordEach [] X.env))) := by rfl) :
  PE X (.Call (.Attribute o m apos) [] [] pos) (tMeth C m sp dvs E ta tNil) := by
 intro pins s σ H Q I h
 refine PySem.W.methodCall_KW (pl := pl) (thn (he pins s σ H _ I h) fun u s1 ⟨x, H1, I1, rx, a, dx, fs, ex, ea, l, q⟩ => ?_) ht
 subst ex
 obtain rfl : u = Value.ref a := rx
 refine getmeth_ok I1 ea c hm l ?_
 exact PySem.W.callWith_K0 (first := [.ref a]) I1.kIn hm.kp (run_fn (us := [.ref a]) (vs := [.ref a]) F hr hb hd hx I1 (.cons rfl .nil) q)
structure Mk (K : PySem.W.Frag) (C f : Addr) : Prop where
 makes : PySem.W.makesIn K C = true
 init : PySem.W.findIn K (.ref C) "__init__" = some (some (.ref f))
 fn : PySem.W.isFn K (.ref f) = true
 kp : PySem.W.keepIn K (.ref C) = true
theorem run_make {pins : List (Addr × Obj)} {σ : St} {H : Hp} {s : Shared} {Q : VK} {us : List Value} {vs : List V} (M : Mk X.K C f) (F : FnOk X.prog X.w X.K X.mg X.base CX k f fd ps sp) (hr : Room (k + 1) X.A) (hb : Binds X.K fd ps ds) (hd : Vals dvs ds)
  (hx : Passes CX X E) (I : Inv X pins σ H s) (r : Vals vs us)
  (h : ∀ x dx, H x = none → H dx = none → dx ≠ x → sp (.ref x :: (vs ++ dvs)) (upd (upd H dx (.own x)) x (.ins C dx [])) (fun v H2 => v = .non ∧ Q (.ref x) H2) E) :
  wpAny (model X.prog X.w) X.A (call (.ref C) us) (EP X pins σ Q) X.xe s := by
 have hq := h (s.heap.objs.size + 1) s.heap.objs.size (I.hok.fresh (Nat.le_succ _)) (I.hok.fresh (Nat.le_refl _)) (Nat.ne_of_lt (Nat.lt_succ_self _))
 have I2 := Inv.made (C := C) I
 have r2 : Vals (V.ref (s.heap.objs.size + 1) :: (vs ++ dvs)) (Value.ref (s.heap.objs.size + 1) :: (us ++ ds)) := .cons rfl (r.append hd)
 have hl : (Value.ref (s.heap.objs.size + 1) :: us ++ ds).length = ps.length := by
  have e := r2.length
  rw [F.len _ _ _ _ hq] at e
  exact e.symm
 refine wpAny_call (make_map (f := f) I.kIn M.makes M.init (beq_iff_eq.mp M.fn) (codeAny_mono (F.run _ X.stack _ _ ⟨Value.ref (s.heap.objs.size + 1) :: us, []⟩ (Value.ref (s.heap.objs.size + 1) :: (us ++ ds)) _ _ E (hr.make C us [])
  (I2.env0.make C us []) (hb _ (Value.ref (s.heap.objs.size + 1) :: us) I2.kIn hl) r2 hq) fun r s' hq' => ?_))
 cases r with
 | error e => exact hx pins σ _ _ e s' I2 hq'
 | ok fl =>
  cases fl with
  | ret u =>
   obtain ⟨v, H', I3, rv, ev, q3⟩ := I2.after hq'
   subst ev
   exact ⟨rv, ⟨V.ref (s.heap.objs.size + 1), H', I3, rfl, q3⟩⟩
  | next => exact False.elim hq'
  | brk => exact False.elim hq'
  | cont => exact False.elim hq'
theorem pe_make (M : Mk X.K C f) (F : FnOk X.prog X.w X.K X.mg X.base CX k f fd ps sp) (hr : Room (k + 1) X.A) (hg : Gl X x) (hm : X.mg x = some (.ref C)) (hb : Binds X.K fd ps ds) (hd : Vals dvs ds) (hx : Passes CX X E)
  (ha : PA X (e :: es) t) (hdb : (x == ("__debug__" : Str)) = false := by decide) (he : starEach (e :: es) X.env = (false, eval e X.env) :: starEach es X.env := by rfl) (hpl : (backTo pos (starEach es X.env)).any (·.1) = false := by rfl) :
  PE X (.Call (.Name x p) (e :: es) [] pos) (tMake C sp dvs E t) := by
 intro pins s σ H Q I h
 refine wpAny_Call_Name_kw (ld_glob I hg hm ?_ hdb)
 refine PySem.W.callWith_K (h₀ := X.base) I.ok.mod.kin M.kp (thn (ha pos pins s σ H _ I h) fun us s1 ⟨vs, H1, I1, r, q⟩ => ⟨I1.kIn, ?_⟩) he hpl
 exact run_make M F hr hb hd hx I1 r q
end
section
variable {X : Cx} {CX : CXT} {k : Nat} {f C : Addr} {fd : FuncData} {ps ks : List Str} {sp : Sp} {E : XK} {x m : Str} {p pos apos kpos : Pos} {e o : Expr} {es : List Expr} {kws : List Keyword} {te ta : TE} {t tk : TA} {nm : Option Str}
structure KBinds (K : PySem.W.Frag) (fd : FuncData) (ps ks : List Str) (g : List Value → List Value → List Value) (gV : List V → List V → List V) : Prop where
 to : ∀ (s : Shared) (us ws : List Value), K.In s.heap → (g us ws).length = ps.length → BindsTo s fd ⟨us, ks.zip ws⟩ (ps.zip (g us ws))
 rel : ∀ {vs : List V} {us : List Value} {zs : List V} {ws : List Value}, Vals vs us → Vals zs ws → Vals (gV vs zs) (g us ws)
variable {g : List Value → List Value → List Value} {gV : List V → List V → List V}
end
structure FnScope (N P : List Str) (sc : Scope) : Prop where
 kind : sc.kind = .function
 co : sc.isCoroutine = false
 gen : sc.isGenerator = false
 nd : N.Nodup
 pre : N.take P.length = P
 par : ∀ x ∈ P, sc.names.lookup x = some .local ∨ sc.names.lookup x = some .cell
 nofree : ∀ y ∈ sc.names, y.2 ≠ .free
theorem bindL_out {kindOf : Str → Option NameKind} {x : Str} : ∀ {binds : List (Str × Value)} {m : Str → Option Value}, (∀ v, (x, v) ∉ binds) → bindL kindOf binds m x = m x
 | [], _, _ => rfl
 | (n, v) :: r, m, h => by
  unfold bindL
  rw [bindL_out fun w hw => h w (List.mem_cons_of_mem _ hw)]
  split
  ·have : x ≠ n := by rintro rfl; exact h v List.mem_cons_self
   simp [this]
  ·rfl
theorem bindC_out {kindOf : Str → Option NameKind} {x : Str} : ∀ {binds : List (Str × Value)} {m : Str → Option Value}, (∀ v, (x, v) ∉ binds) → bindC kindOf binds m x = m x
 | [], _, _ => rfl
 | (n, v) :: r, m, h => by
  unfold bindC
  rw [bindC_out fun w hw => h w (List.mem_cons_of_mem _ hw)]
  split
  ·rfl
  ·have : x ≠ n := by rintro rfl; exact h v List.mem_cons_self
   simp [this]
theorem bindL_get {kindOf : Str → Option NameKind} {x : Str} {v : Value} : ∀ {P : List Str} {vs : List Value} {i : Nat} {m : Str → Option Value}, P.Nodup → P[i]? = some x → vs[i]? = some v → kindOf x = some .local →
  bindL kindOf (P.zip vs) m x = some v
 | [], _, _, _, _, h, _, _ => by simp at h
 | _ :: _, [], _, _, _, _, h, _ => by simp at h
 | p :: P, w :: vs, 0, m, nd, h1, h2, hk => by
  simp at h1 h2; subst h1; subst h2
  show bindL kindOf ((p, w) :: P.zip vs) m p = _
  unfold bindL
  rw [bindL_out fun v hv => (List.nodup_cons.mp nd).1 (List.of_mem_zip hv).1, if_pos hk]
  simp
 | p :: P, w :: vs, i + 1, m, nd, h1, h2, hk => by
  show bindL kindOf ((p, w) :: P.zip vs) m x = _
  unfold bindL
  exact bindL_get (i := i) (List.nodup_cons.mp nd).2 (by simpa using h1) (by simpa using h2) hk
theorem bindC_get {kindOf : Str → Option NameKind} {x : Str} {v : Value} : ∀ {P : List Str} {vs : List Value} {i : Nat} {m : Str → Option Value}, P.Nodup → P[i]? = some x → vs[i]? = some v → kindOf x ≠ some .local →
  bindC kindOf (P.zip vs) m x = some v
 | [], _, _, _, _, h, _, _ => by simp at h
 | _ :: _, [], _, _, _, _, h, _ => by simp at h
 | p :: P, w :: vs, 0, m, nd, h1, h2, hk => by
  simp at h1 h2; subst h1; subst h2
  show bindC kindOf ((p, w) :: P.zip vs) m p = _
  unfold bindC
  rw [bindC_out fun v hv => (List.nodup_cons.mp nd).1 (List.of_mem_zip hv).1, if_neg hk]
  simp
 | p :: P, w :: vs, i + 1, m, nd, h1, h2, hk => by
  show bindC kindOf ((p, w) :: P.zip vs) m x = _
  unfold bindC
  exact bindC_get (i := i) (List.nodup_cons.mp nd).2 (by simpa using h1) (by simpa using h2) hk
def start (N : List Str) (vs : List V) : St := vs.map some ++ List.replicate (N.length - vs.length) none
def cxOf (CX : CXT) (P : Program) (w : World) (K : PySem.W.Frag) (mg : Str → Option Value) (base : Heap) (N : List Str) (qual : Str) (scope : Scope) (f : Addr) (cd : Value) (A : Around) (outer : List Env) (s : Shared) (H : Hp) (E : XK) : Cx where
 prog := P
 w := w
 K := K
 mg := mg
 base := base
 A := A.deeper (envOfC qual scope s.heap.objs.size f cd)
 N := N
 s₀ := s
 H₀ := H
 env := envOfC qual scope s.heap.objs.size f cd
 outer := outer
 stack := envOfC qual scope s.heap.objs.size f cd :: outer
 ex := []
 calm := true
 fn := fun _ => true
 pn := []
 xe := fun e s' => wpAny (model P w) (A.deeper (envOfC qual scope s.heap.objs.size f cd)) (leaving (envOfC qual scope s.heap.objs.size f cd) e) (fun _ s'' => CX outer H s E e s'') (fun e' s'' => CX outer H s E e' s'') s'
theorem cell_has {sc : Scope} {n : Nat} {x : Str} (h : sc.names.lookup x = some .cell) : ∃ c, (cellsFrom n sc.names []).lookup x = some c := by
 have q := PySem.W.cellsFrom_some sc.names n [] (.inl h)
 exact Option.isSome_iff_exists.mp q
theorem inv_start {CX : CXT} {P : Program} {w : World} {K : PySem.W.Frag} {mg : Str → Option Value} {base : Heap} {N ps : List Str} {qual : Str} {scope : Scope} {f : Addr} {cd : Value} {A : Around} {outer : List Env} {s s1 : Shared} {H : Hp} {E : XK} {us : List Value} {vs : List V}
  (S : FnScope N ps scope) (hd : A.handled = none) (e0 : Env0 P w K mg base A outer s H) (hl : vs.length = ps.length) (r : Vals vs us)
  (x : InCallC s s.heap.objs.size (bindL (envOfC qual scope s.heap.objs.size f cd).kindOf (ps.zip us) fun _ => none) (cellsFrom (s.heap.objs.size + 1) scope.names []) (bindC (envOfC qual scope s.heap.objs.size f cd).kindOf (ps.zip us) fun _ => none) s1) :
  Inv (cxOf CX P w K mg base N qual scope f cd A outer s H E) [] (start N vs) H s1 := by
 have hpl : ps.length ≤ N.length := by have := congrArg List.length S.pre; rw [List.length_take] at this; omega
 obtain ⟨h1, tk, rfl, hk⟩ := x.done
 have noA : ∀ b : Addr, b ∉ (cxOf CX P w K mg base N qual scope f cd A outer s H E).ex := fun b z => absurd (show b ∈ ([] : List Addr) from z) (by simp)
 refine ⟨⟨e0.mod, S.kind, rfl, rfl, Nat.le_refl _, fun y z c h1 h2 => ?_, fun y hy => ?_, fun y c _ h => ?_, fun _ => hd, Around.frames_deeper e0.frames, .inr ⟨rfl, rfl⟩, fun b z => absurd z (noA b), e0.bs, e0.bsz, fun b _ _ => noA b, fun b z => absurd z (noA b), e0.funs, e0.frf⟩,
  rfl, e0.bare, Un.kept hk, ⟨_, x.toInCall.ns, fun i y v h1 h2 h3 => ?_⟩, fun y c h => ⟨_, x.cell y c h⟩, e0.hok.fresh (Nat.le_refl _), fun y c h => ?_, fun p hp => absurd (show p ∈ ([] : List (Addr × Obj)) from hp) (by simp), e0.hok.kept hk, ?_⟩
 ·exact name_of_addr x.apart (PySem.mem_of_lookup h1) (PySem.mem_of_lookup h2)
 ·have hy : scope.names.lookup y = some .cell ∨ scope.names.lookup y = some .free := hy
  rcases hy with hy | hy
  ·exact cell_has hy
  ·exact absurd rfl (S.nofree _ (PySem.mem_of_lookup hy))
 ·exact Nat.le_of_lt (x.above y c (PySem.mem_of_lookup h))
 ·have hi : i < vs.length := by
   unfold start at h2
   by_cases hi : i < vs.length
   ·exact hi
   ·rw [List.getElem?_append_right (by simpa using hi)] at h2
    rw [List.getElem?_replicate] at h2
    split at h2 <;> cases h2
  have ha : vs[i]? = some v := by
   unfold start at h2
   rw [List.getElem?_append_left (by simpa using hi), List.getElem?_map] at h2
   cases e : vs[i]? with
   | none => rw [e] at h2; cases h2
   | some a => rw [e] at h2; cases h2; rfl
  obtain ⟨u, hu, rv⟩ := r.get ha
  have hp : ps[i]? = some y := by
   rw [← S.pre, List.getElem?_take_of_lt (by omega)]; exact h1
  have ndP : ps.Nodup := by rw [← S.pre]; exact S.nd.sublist (List.take_sublist _ _)
  refine ⟨u, rv, ?_⟩
  rcases S.par y (List.mem_of_getElem? hp) with k | k
  ·exact .inl ⟨k, bindL_get ndP hp hu k⟩
  ·obtain ⟨c, e⟩ := cell_has (n := s.heap.objs.size + 1) k
   refine .inr ⟨.inl k, c, e, ?_⟩
   have q := x.cell y c e
   rw [bindC_get ndP hp hu (by show scope.names.lookup y ≠ _; rw [k]; decide)] at q
   exact q
 ·exact e0.hok.fresh (Nat.le_of_lt (x.above y c (PySem.mem_of_lookup h)))
 ·unfold start
  show _ = N.length
  rw [List.length_append, List.length_map, List.length_replicate]
  omega
theorem fn_of {CX : CXT} {P : Program} {w : World} {K : PySem.W.Frag} {mg : Str → Option Value} {base : Heap} {k : Nat} {f : Addr} {name qual : Str} {params : Arguments} {body : List Stmt} {scope : Scope} {dV kV doc pm cdv ct oc : Value} {an od : Option Addr}
  {osl : Array (Option Value)} {N ps : List Str} {sp : Sp} (lk : K.lookup f = some ⟨oc, od, .func (PySem.W.fnOf name qual params body scope dV kV doc pm an cdv ct), osl⟩) (hcd : PySem.W.codeIn K cdv qual = true) (S : FnScope N ps scope)
  (len : ∀ vs H Q E, sp vs H Q E → vs.length = ps.length)
  (hbody : ∀ (A : Around) (outer : List Env) (s : Shared) (H : Hp) (vs : List V) (Q : VK) (E : XK), Room k (A.deeper (envOfC qual scope s.heap.objs.size f cdv)) → sp vs H Q E →
   ∃ t, PSs (cxOf CX P w K mg base N qual scope f cdv A outer s H E) body t ∧ t { nx := fun _ H' => Q .non H', rt := Q } (start N vs) H) :
  FnOk P w K mg base CX (k + 1) f (PySem.W.fnOf name qual params body scope dV kV doc pm an cdv ct) ps sp := by
 refine ⟨len, fun A outer s H args us vs Q E hr e0 hb r hsp => ?_⟩
 have hl := len _ _ _ _ hsp
 have KX : K.In s.heap := e0.mod.kin.keeps fun b o e => (e0.bs b o e).1
 have lim : s.heap.NoLimit := e0.mod.nolimit.keeps fun b o e => (e0.bs b o e).1
 have hkind : ∀ y ∈ ps.zip us, scope.names.lookup y.1 = some .local ∨ (scope.names.lookup y.1 = some .cell ∧ ((cellsFrom (s.heap.objs.size + 1) scope.names []).lookup y.1).isSome = true) := fun ⟨n, v⟩ hy => by
  rcases S.par n (List.of_mem_zip hy).1 with q | q
  ·exact .inl q
  ·exact .inr ⟨q, PySem.W.cellsFrom_some _ _ _ (.inl q)⟩
 refine codeAny_call_function hr.depth (KX _ _ lk) rfl S.co S.gen rfl (PySem.W.codeRec_of KX hcd) (hb _ _ _ _ ?_)
 refine wpAny_newFunctionEnv_cells S.kind hkind fun env he s1 x => ?_
 subst he
 refine ⟨lim.keeps x.toInCall.keep, codeAny_func ?_⟩
 obtain ⟨t, ht, hq⟩ := hbody A outer s H vs Q E (hr.deeper _) hsp
 have I : Inv (cxOf CX P w K mg base N qual scope f cdv A outer s H E) [] (start N vs) H s1 := inv_start S hr.hd e0 hl r x
 refine wpAny_mono (ht [] s1 (start N vs) H _ I hq) (fun fl s' hs => ?_) fun e s' hs => hs
 have fin : ∀ {σ' : St} {H' : Hp} {v : V} {u : Value}, Inv (cxOf CX P w K mg base N qual scope f cdv A outer s H E) [] σ' H' s' → RelV v u → Q v H' → CE outer P w H s Q u s' :=
  fun {σ' H' v u} J rv q => ⟨v, H', J.os, J.bare, J.base, J.hok, rv, q⟩
 cases fl with
 | ret u =>
  obtain ⟨v, σ', H', J, rv, q⟩ := hs
  exact fin J rv q
 | next =>
  obtain ⟨σ', H', J, q⟩ := hs
  exact fin (v := V.non) (u := Value.none) J rfl q
 | brk =>
  obtain ⟨_, _, _, q⟩ := hs
  exact False.elim q
 | cont =>
  obtain ⟨_, _, _, q⟩ := hs
  exact False.elim q
end L2
namespace L2
open PySem PySem.Spec PyProof.Rows
section
variable {X : Cx} {x : Str} {p pos : Pos} {e : Expr} {es : List Expr} {t : TA} {id T : String} {r : List V → Hp → VK → Prop}
def tCB (r : List V → Hp → VK → Prop) (t : TA) : TE := fun σ H Q => t σ H fun vs H1 => r vs H1 Q
theorem pe_callB (hc : CallR X (.builtin id) r) (hg : Gl X x) (hm : X.mg x = none) (hv : bootBuiltins x = some (.builtin id)) (ha : PA X (e :: es) t) (hn : x ≠ "__name__" := by decide) (hdb : (x == ("__debug__" : Str)) = false := by decide)
  (he : starEach (e :: es) X.env = (false, eval e X.env) :: starEach es X.env := by rfl) (hpl : (backTo pos (starEach es X.env)).any (·.1) = false := by rfl) : PE X (.Call (.Name x p) (e :: es) [] pos) (tCB r t) := by
 intro pins s σ H Q I h
 refine wpAny_Call_Name_kw (ld_blt I hg hm hv ?_ hn hdb)
 exact PyProof.Rows.callWith_builtin1 (thn (ha pos pins s σ H _ I h) fun us s1 ⟨vs, H1, I1, r1, q1⟩ => hc pins s1 σ H1 vs us Q I1 r1 q1) he hpl
theorem pe_callTy (hc : CallR X (.type T) r) (hg : Gl X x) (hm : X.mg x = none) (hv : bootBuiltins x = some (.type T)) (ha : PA X (e :: es) t) (hn : x ≠ "__name__" := by decide) (hdb : (x == ("__debug__" : Str)) = false := by decide)
  (he : starEach (e :: es) X.env = (false, eval e X.env) :: starEach es X.env := by rfl) (hpl : (backTo pos (starEach es X.env)).any (·.1) = false := by rfl) : PE X (.Call (.Name x p) (e :: es) [] pos) (tCB r t) := by
 intro pins s σ H Q I h
 refine wpAny_Call_Name_kw (ld_blt I hg hm hv ?_ hn hdb)
 exact PyProof.Rows.callWith_type1 (thn (ha pos pins s σ H _ I h) fun us s1 ⟨vs, H1, I1, r1, q1⟩ => hc pins s1 σ H1 vs us Q I1 r1 q1) he hpl
end
end L2
namespace HT
open PySem PyProof.Rows
section
open PySem.SeqAt
open PySem.AutoSeq1 (wpAny_loadPart')
open PySem.MeetsSeq PySem.MeetsSeq2 PySem.MeetsSeq3
end
section
variable {prog : Program} {w : World} {A : Around} {E : Value → Shared → Prop} {s : Shared}
def sIx (n d : Nat) : Option Int → Nat
 | none => d
 | some v => if v < 0 then (v + (n : Int)).toNat else min v.toNat n
end
end HT
namespace L2
open PySem PySem.Spec PyProof.Rows
abbrev TO := St → Hp → (Option Int → Hp → Prop) → Prop
def PO (X : Cx) (e : Option Expr) (t : TO) : Prop :=
 ∀ (pins : List (Addr × Obj)) (s : Shared) (σ : St) (H : Hp) (Q : Option Int → Hp → Prop), Inv X pins σ H s → t σ H Q →
  wpAny (model X.prog X.w) X.A (evalPart e X.env) (fun u s' => ∃ o H', Inv X pins σ H' s' ∧ IsPart u o ∧ Q o H') X.xe s
def tNoPart : TO := fun _ H Q => Q none H
def tPart (t : TE) : TO := fun σ H Q => t σ H fun x H1 => ∃ i, x = .int i ∧ Q (some i) H1
section
variable {X : Cx} {e : Expr} {te : TE} {lo hi : Option Expr} {tl th : TO} {pos p2 : Pos}
theorem po_none : PO X none tNoPart := by
 intro pins s σ H Q I h
 rw [evalPart_none]
 exact wpAny_pure ⟨none, H, I, .none, h⟩
theorem po_some (h : PE X e te) : PO X (some e) (tPart te) := by
 intro pins s σ H Q I hw
 rw [evalPart_some]
 refine thn (h pins s σ H _ I hw) fun u s1 ⟨x, H1, I1, r1, q1⟩ => ?_
 obtain ⟨i, rfl, q⟩ := q1
 obtain ⟨t, rfl⟩ := r1
 exact ⟨some i, H1, I1, .int i t, q⟩
def SlR (X : Cx) (r : V → Option Int → Option Int → Hp → VK → Prop) : Prop :=
 ∀ (pins : List (Addr × Obj)) (s : Shared) (σ : St) (H : Hp) (x : V) (v vl vu : Value) (lo hi : Option Int) (sl : Addr) (Q : VK), Inv X pins σ H s → RelV x v → s.heap.IsSliceOf sl vl vu .none → IsPart vl lo → IsPart vu hi → r x lo hi H Q →
  ∃ T id, typeLookup (.type T) "__getitem__" = pure (some (.builtin id)) ∧ s.TypeIs v T ∧ wpAny (model X.prog X.w) X.A (getItem v (.ref sl)) (EP X pins σ Q) X.xe s
def tSl (r : V → Option Int → Option Int → Hp → VK → Prop) (te : TE) (tl th : TO) : TE := fun σ H Q => te σ H fun x H1 => tl σ H1 fun l H2 => th σ H2 fun u H3 => r x l u H3 Q
theorem pe_slice {r : V → Option Int → Option Int → Hp → VK → Prop} (hr : SlR X r) (he : PE X e te) (hl : PO X lo tl) (hu : PO X hi th) : PE X (.Subscript e (.Slice lo hi none p2) pos) (tSl r te tl th) := by
 intro pins s σ H Q I h
 refine Subscript_ (thn (he pins s σ H _ I h) fun v s1 ⟨x, H1, I1, r1, q1⟩ => ?_)
 refine wpAny_Slice (thn (hl pins s1 σ H1 _ I1 q1) fun vl s2 ⟨l, H2, I2, pl, q2⟩ => thn (hu pins s2 σ H2 _ I2 q2) fun vu s3 ⟨u, H3, I3, pu, q3⟩ => ?_)
 rw [evalPart_none]
 refine wpAny_pure ?_
 have I4 : Inv X pins σ H3 { s3 with heap := s3.heap.push { cls := .type "slice", data := .fields #[vl, vu, .none] } } := I3.kept (t' := s3.toks) fun b ob q => Heap.get?_push_of_some _ q
 obtain ⟨T, id, hT, ht, hg⟩ := hr pins { s3 with heap := s3.heap.push { cls := .type "slice", data := .fields #[vl, vu, .none] } } σ H3 x v vl vu l u s3.heap.objs.size Q I4 r1 (Heap.IsSliceOf.new ..) pl pu q3
 show wpAny (model X.prog X.w) X.A (subscriptTail e (.Slice lo hi none p2) v (.ref s3.heap.objs.size)) (EP X pins σ Q) X.xe { s3 with heap := s3.heap.push { cls := .type "slice", data := .fields #[vl, vu, .none] } }
 exact tail_any (ops := [.ref s3.heap.objs.size, v]) ht hT hg (by with_unfolding_all rfl)
def cutV (xs : List V) (lo hi : Option Int) : List V := (xs.drop (HT.sIx xs.length 0 lo)).take (HT.sIx xs.length xs.length hi - HT.sIx xs.length 0 lo)
theorem cutV_length (xs : List V) (lo hi : Option Int) : (cutV xs lo hi).length ≤ xs.length := by
 unfold cutV
 rw [List.length_take, List.length_drop]
 omega
end
end L2
namespace L2
open PySem PySem.Spec PyProof.Rows
def ixN (n : Nat) (i : Int) : Option Nat := if 0 ≤ i then (if i < n then some i.toNat else none) else if -(n : Int) ≤ i then some (i + n).toNat else none
def atI {α : Type} (xs : List α) (i : Int) : Option α := (ixN xs.length i).bind fun j => xs[j]?
theorem ixN_seq {n : Nat} {i : Int} {j : Nat} (h : ixN n i = some j) : seqIndex? i n = some j ∧ j < n ∧ -(n : Int) ≤ i ∧ i < n := by
 unfold ixN at h
 by_cases h0 : 0 ≤ i
 ·rw [if_pos h0] at h
  by_cases h1 : i < n
  ·rw [if_pos h1] at h
   have e : i.toNat = j := Option.some.inj h
   exact ⟨by rw [seqIndex_of h0 h1, e], by omega, by omega, h1⟩
  ·rw [if_neg h1] at h; cases h
 ·rw [if_neg h0] at h
  by_cases h1 : -(n : Int) ≤ i
  ·rw [if_pos h1] at h
   have e : (i + n).toNat = j := Option.some.inj h
   exact ⟨by rw [seqIndex_neg (by omega) h1, e], by omega, h1, by omega⟩
  ·rw [if_neg h1] at h; cases h
theorem atI_get {α : Type} {xs : List α} {i : Int} {v : α} (h : atI xs i = some v) : ∃ j, seqIndex? i xs.length = some j ∧ xs[j]? = some v ∧ j < xs.length ∧ -(xs.length : Int) ≤ i ∧ i < xs.length := by
 unfold atI at h
 cases e : ixN xs.length i with
 | none => rw [e] at h; cases h
 | some j =>
  rw [e] at h
  obtain ⟨h1, h2, h3, h4⟩ := ixN_seq e
  exact ⟨j, h1, h, h2, h3, h4⟩
theorem atI_nat {α : Type} {xs : List α} {j : Nat} {v : α} (h : xs[j]? = some v) : atI xs (j : Int) = some v := by
 have hj : j < xs.length := (List.getElem?_eq_some_iff.mp h).1
 have e : ixN xs.length (j : Int) = some j := by
  unfold ixN
  rw [if_pos (by omega), if_pos (by omega)]; simp
 unfold atI; rw [e]; exact h
theorem atI_last {α : Type} (xs : List α) (v : α) : atI (xs ++ [v]) (-1) = some v := by
 have hl : (xs ++ [v]).length = xs.length + 1 := by simp
 have e : ixN (xs ++ [v]).length (-1) = some xs.length := by
  unfold ixN
  rw [hl, if_neg (by decide), if_pos (by omega)]
  congr 1
  omega
 unfold atI
 rw [e]
 show (xs ++ [v])[xs.length]? = some v
 simp
def PlainIx (b : Expr) : Prop := ∀ o i, subscripted b false o i = operate [o, i] (getItem o i)
def IxR (X : Cx) (r : R2) : Prop :=
 ∀ (value slice : Expr) (pins : List (Addr × Obj)) (s : Shared) (σ : St) (H : Hp) (x y : V) (v u : Value) (Q : VK), Inv X pins σ H s → RelV x v → RelV y u → r x y H Q →
  subscripted slice false v u = operate [v, u] (getItem v u) → wpAny (model X.prog X.w) X.A (subscriptTail value slice v u) (EP X pins σ Q) X.xe s
def MtR (X : Cx) (id : String) (r : V → List V → Hp → VK → Prop) : Prop :=
 ∀ (pins : List (Addr × Obj)) (s : Shared) (σ : St) (H : Hp) (x : V) (xs : List V) (v : Value) (us : List Value) (Q : VK), Inv X pins σ H s → RelV x v → Vals xs us → r x xs H Q →
  wpAny (model X.prog X.w) X.A (call (.builtin id) (v :: us)) (EP X pins σ Q) X.xe s
section
variable {X : Cx} {a b : Expr} {ta tb : TE} {pos : Pos}
theorem pe_ix {r : R2} (hr : IxR X r) (ha : PE X a ta) (hb : PE X b tb) (hs : PlainIx b) : PE X (.Subscript a b pos) (tOp r ta tb) := by
 intro pins s σ H Q I h
 exact Subscript_ (binT ha hb I h fun v u s2 x y H2 I2 rx ry q => hr a b pins s2 σ H2 x y v u Q I2 rx ry q (hs _ _))
def rIxL (K : PySem.W.Frag) : R2 := fun x y H Q => ∃ p xs i v, x = .ref p ∧ y = .int i ∧ SqL K H p xs ∧ atI xs i = some v ∧ Q v H
def rIxT (K : PySem.W.Frag) : R2 := fun x y H Q => ∃ p xs i v, x = .ref p ∧ y = .int i ∧ SqT K H p xs ∧ atI xs i = some v ∧ Q v H
theorem ix_list : IxR X (rIxL X.K) := by
 intro value slice pins s σ H x y v u Q I rx ry h hs
 obtain ⟨p, xs, i, z, rfl, rfl, hq, he, q⟩ := h
 cases rx
 obtain ⟨t, rfl⟩ := ry
 obtain ⟨its, r, pl, hz⟩ := I.list hq
 obtain ⟨j, h1, h2, h3, h4, h5⟩ := atI_get he
 obtain ⟨w, ew, rw'⟩ := r.get h2
 have hl := r.length
 have hn := line63
 have fin : EP X pins σ Q w s := ⟨z, H, I, rw', q⟩
 by_cases h0 : 0 ≤ i
 ·have hj : i.toNat = j := by
   rw [seqIndex_of h0 h5] at h1
   exact Option.some.inj h1
  exact item_listR pl.isList h0 (by omega) (by rw [hj]; simpa using ew) fin hs
 ·have hj : (i + (its.toArray.size : Int)).toNat = j := by
   rw [seqIndex_neg (by omega) h4] at h1
   rw [List.size_toArray, ← hl]
   exact Option.some.inj h1
  exact subscriptTail_builtinR (x := w) pl.isList.typeIs slot_list_getitem.lookup
   (wpAny_getItem_list_neg (Q := fun r s' => r = w ∧ EP X pins σ Q r s') pl.isList (by omega) (by rw [List.size_toArray] <;> omega) (by omega) (by rw [hj]; simpa using ew) ⟨rfl, fin⟩) hs
theorem ix_tup : IxR X (rIxT X.K) := by
 intro value slice pins s σ H x y v u Q I rx ry h hs
 obtain ⟨p, xs, i, z, rfl, rfl, hq, he, q⟩ := h
 cases rx
 obtain ⟨t, rfl⟩ := ry
 obtain ⟨its, r, pl, hz⟩ := I.tuple hq
 obtain ⟨j, h1, h2, h3, h4, h5⟩ := atI_get he
 obtain ⟨w, ew, rw'⟩ := r.get h2
 have hl := r.length
 have hn := line63
 have fin : EP X pins σ Q w s := ⟨z, H, I, rw', q⟩
 exact subscriptTail_builtinR (x := w) pl.typeIs slot_tuple_getitem.lookup
  (getItem_tuple (j := j) (Q := fun r s' => r = w ∧ EP X pins σ Q r s') pl (by omega) (by omega) (by rw [List.size_toArray, ← hl]; exact h1) (by simpa using ew) ⟨rfl, fin⟩) hs
theorem mapSeq_set (its : List Value) (n j : Nat) (u : Value) : Obj.mapSeq (·.setIfInBounds j u) { cls := .type "list", data := .seq its.toArray n } = { cls := .type "list", data := .seq (its.set j u).toArray n } := by
 simp [Obj.mapSeq]
theorem Inv.lst {pins : List (Addr × Obj)} {σ : St} {H : Hp} {s : Shared} {p : Addr} {xs : List V} (I : Inv X pins σ H s) (h : H p = some (.lst xs)) :
  ∃ (its : List Value) (n : Nat), Vals xs its ∧ s.heap.get? p = some { cls := .type "list", data := .seq its.toArray n } ∧ xs.length ≤ sizeLine := by
 obtain ⟨z, its, n, r, e⟩ := I.hok p _ h
 exact ⟨its, n, r, e, z⟩
theorem Inv.lstUpd {pins : List (Addr × Obj)} {σ : St} {H : Hp} {s : Shared} {p : Addr} {xs ys : List V} {its its' : List Value} {n n' : Nat} {f : Obj → Obj} (I : Inv X pins σ H s) (h : H p = some (.lst xs))
  (ho : s.heap.get? p = some { cls := .type "list", data := .seq its.toArray n }) (hf : f { cls := .type "list", data := .seq its.toArray n } = { cls := .type "list", data := .seq its'.toArray n' }) (r : Vals ys its') (hz : ys.length ≤ sizeLine) (t : Nat) :
  Inv X pins σ (upd H p (.lst ys)) { s with heap := s.heap.update p f, toks := t } := by
 have e : (s.heap.update p f).get? p = some { cls := .type "list", data := .seq its'.toArray n' } := by
  rw [Heap.get?_update_self f ho (by rw [hf] <;> rfl), hf]
 refine I.write (x := p) (e := p) (by rw [h]; trivial) (.inl rfl) (fun b u hb q => (Heap.get?_update_other _ _ (Ne.symm hb)).trans q) ⟨_, e⟩ ?_
 exact ⟨hz, its', n', r, e⟩
def rSetL : V → V → V → Hp → (Hp → Prop) → Prop := fun o i v H Q => ∃ p xs k j, o = .ref p ∧ i = .int k ∧ H p = some (.lst xs) ∧ ixN xs.length k = some j ∧ Q (upd H p (.lst (xs.set j v)))
theorem set_list : PSet X rSetL := by
 intro pins s σ H o i v ov iv u Q I ro ri rv h
 obtain ⟨p, xs, k, j, rfl, rfl, hp, hj, q⟩ := h
 cases ro
 obtain ⟨t, rfl⟩ := ri
 obtain ⟨its, n, r, ho, hz⟩ := I.lst hp
 obtain ⟨h1, h2, h3, h4⟩ := ixN_seq hj
 have hl := r.length
 have hn := line63
 have I' : Inv X pins σ (upd H p (.lst (xs.set j v))) { s with heap := s.heap.update p (Obj.mapSeq (·.setIfInBounds j u)) } :=
  I.lstUpd hp ho (mapSeq_set its n j u) (r.set rv j) (by rw [List.length_set]; exact hz) s.toks
 by_cases h0 : 0 ≤ k
 ·have hk : k.toNat = j := by
   rw [seqIndex_of h0 h4] at h1
   exact Option.some.inj h1
  exact PySem.W.ki_setAt ho h0 (by omega) (by rw [List.size_toArray, ← hl]; exact h4) (by rw [hk]; exact ⟨_, I', q⟩)
 ·have hk : (k + (its.toArray.size : Int)).toNat = j := by
   rw [seqIndex_neg (by omega) h3] at h1
   rw [List.size_toArray, ← hl]
   exact Option.some.inj h1
  exact PySem.W.ki_setBack ho (by omega) (by rw [List.size_toArray, ← hl]; exact h3) (by omega) (by rw [hk]; exact ⟨_, I', q⟩)
theorem slice_bounds (lo hi : Option Int) (n : Nat) : (sliceBounds lo hi none n).1 = ((HT.sIx n 0 lo : Nat) : Int) ∧ (sliceBounds lo hi none n).2.1 = ((HT.sIx n n hi : Nat) : Int) ∧ (sliceBounds lo hi none n).2.2 = 1 := by
 refine ⟨?_, ?_, rfl⟩
 ·cases lo with
  | none => simp [sliceBounds, HT.sIx]
  | some i =>
   simp only [sliceBounds, HT.sIx, Option.getD_none, show (1 : Int) > 0 by decide, if_true]
   by_cases h : i < 0
   ·simp only [h, if_true] <;> omega
   ·simp only [h, if_false] <;> omega
 ·cases hi with
  | none => simp [sliceBounds, HT.sIx]
  | some i =>
   simp only [sliceBounds, HT.sIx, Option.getD_none, show (1 : Int) > 0 by decide, if_true]
   by_cases h : i < 0
   ·simp only [h, if_true] <;> omega
   ·simp only [h, if_false] <;> omega
theorem slicePick_cut (its : List Value) (lo hi : Option Int) : slicePick its.toArray lo hi none = ((its.drop (HT.sIx its.length 0 lo)).take (HT.sIx its.length its.length hi - HT.sIx its.length 0 lo)).toArray := by
 obtain ⟨h1, h2, h3⟩ := slice_bounds lo hi its.toArray.size
 unfold slicePick
 rw [h1, h2, h3]
 simp only [sliceRange_one, pick_run, List.size_toArray] <;> rfl
def rSlL (K : PySem.W.Frag) : V → Option Int → Option Int → Hp → VK → Prop := fun x lo hi H Q => ∃ a xs, x = .ref a ∧ SqL K H a xs ∧ ∀ p, H p = none → Q (.ref p) (upd H p (.lst (cutV xs lo hi)))
theorem sl_list : SlR X (rSlL X.K) := by
 intro pins s σ H x v vl vu lo hi sl Q I rx hs pl pu h
 obtain ⟨a, xs, rfl, hx, q⟩ := h
 cases rx
 obtain ⟨its, r, ht, hz⟩ := I.list hx
 have hlen := r.length
 refine ⟨"list", _, slot_list_getitem.lookup, ht.isList.typeIs, ?_⟩
 refine wpAny_getItem_list_slice ht.isList hs pl pu .none (by simp) ?_ (by rw [List.size_toArray] <;> omega)
 rw [slicePick_cut, ← hlen]
 refine ⟨.ref s.heap.objs.size, _, I.laid (t' := s.toks) (o := .lst (cutV xs lo hi)) (fun b ob q => Heap.get?_push_of_some _ q) (Nat.le_refl _) ?_, rfl, q _ (I.hok.fresh (Nat.le_refl _))⟩
 exact ⟨Nat.le_trans (cutV_length xs lo hi) hz, _, 0, (r.drop (HT.sIx xs.length 0 lo)).take (HT.sIx xs.length xs.length hi - HT.sIx xs.length 0 lo), Heap.get?_push_size _ rfl⟩
def flatV : V → Bool
 | .non => true
 | .bl _ => true
 | .int _ => true
 | .str _ => true
 | _ => false
def eqV : V → V → Bool
 | .non, .non => true
 | .bl a, .bl b => a == b
 | .bl a, .int b => (if a then 1 else 0) == b
 | .int a, .bl b => a == (if b then 1 else 0)
 | .int a, .int b => a == b
 | .str a, .str b => a == b
 | _, _ => false
theorem eqAt_V {A : Around} {s : Shared} {y x : V} {u v : Value} (ry : RelV y u) (rx : RelV x v) (fy : flatV y = true) (fx : flatV x = true) : SeqAt.EqAt A s u v (eqV y x) := by
 cases y with
 | non =>
  cases ry
  cases x with
  | non => cases rx; exact SeqAt.EqAt.same _
  | bl b => cases rx; exact SeqAt.EqAt.none_bool b
  | int b => obtain ⟨t, rfl⟩ := rx; exact SeqAt.EqAt.none_int b t
  | str b => obtain ⟨t, rfl⟩ := rx; exact SeqAt.EqAt.none_str b t
  | _ => exact absurd (show false = true from fx) Bool.false_ne_true
 | bl a =>
  cases ry
  cases x with
  | non => cases rx; exact SeqAt.EqAt.bool_none a
  | bl b => cases rx; exact SeqAt.EqAt.bool_bool a b
  | int b => obtain ⟨t, rfl⟩ := rx; exact SeqAt.EqAt.bool_int a b t
  | str b => obtain ⟨t, rfl⟩ := rx; exact SeqAt.EqAt.bool_str a b t
  | _ => exact absurd (show false = true from fx) Bool.false_ne_true
 | int a =>
  obtain ⟨t', rfl⟩ := ry
  cases x with
  | non => cases rx; exact SeqAt.EqAt.int_none a t'
  | bl b => cases rx; exact SeqAt.EqAt.int_bool a t' b
  | int b => obtain ⟨t, rfl⟩ := rx; exact SeqAt.EqAt.int_int a t' b t
  | str b => obtain ⟨t, rfl⟩ := rx; exact SeqAt.EqAt.int_str a t' b t
  | _ => exact absurd (show false = true from fx) Bool.false_ne_true
 | str a =>
  obtain ⟨t', rfl⟩ := ry
  cases x with
  | non => cases rx; exact SeqAt.EqAt.str_none a t'
  | bl b => cases rx; exact SeqAt.EqAt.str_bool a t' b
  | int b => obtain ⟨t, rfl⟩ := rx; exact SeqAt.EqAt.str_int a t' b t
  | str b => obtain ⟨t, rfl⟩ := rx; exact SeqAt.EqAt.str_str a t' b t
  | _ => exact absurd (show false = true from fx) Bool.false_ne_true
 | _ => exact absurd (show false = true from fy) Bool.false_ne_true
def eqU (x : V) (u : Value) : Bool := match u with
 | .none => eqV .non x
 | .bool b => eqV (.bl b) x
 | .int i _ => eqV (.int i) x
 | .str z _ => eqV (.str z) x
 | _ => false
theorem eqU_of {x y : V} {u : Value} (r : RelV y u) (f : flatV y = true) : eqU x u = eqV y x := by
 cases y with
 | non => cases r; rfl
 | bl b => cases r; rfl
 | int i => obtain ⟨t, rfl⟩ := r; rfl
 | str z => obtain ⟨t, rfl⟩ := r; rfl
 | _ => exact absurd (show false = true from f) Bool.false_ne_true
theorem any_eqU {x : V} : ∀ {xs : List V} {us : List Value}, Vals xs us → xs.all flatV = true → us.any (eqU x) = xs.any fun y => eqV y x
 | _, _, .nil, _ => rfl
 | y :: xs, u :: us, .cons r t, f => by
  rw [List.all_cons, Bool.and_eq_true] at f
  rw [List.any_cons, List.any_cons, eqU_of r f.1, any_eqU t f.2]
theorem mem_eqAt {A : Around} {s : Shared} {x : V} {v : Value} (rx : RelV x v) (fx : flatV x = true) : ∀ {xs : List V} {us : List Value}, Vals xs us → xs.all flatV = true → ∀ u ∈ us, SeqAt.EqAt A s u v (eqU x u)
 | _, _, .nil, _ => fun u hu => by cases hu
 | y :: xs, u :: us, .cons r t, f => fun u' hu => by
  rw [List.all_cons, Bool.and_eq_true] at f
  rcases List.mem_cons.mp hu with rfl | hu
  ·rw [eqU_of r f.1]; exact eqAt_V r rx f.1 fx
  ·exact mem_eqAt rx fx t f.2 u' hu
def inV (x : V) (xs : List V) : Bool := xs.any fun y => eqV y x
def rIn (K : PySem.W.Frag) (neg : Bool) : R2 := fun x y H Q => ∃ p xs, y = .ref p ∧ (SqL K H p xs ∨ SqT K H p xs) ∧ flatV x = true ∧ xs.all flatV = true ∧ Q (.bl (if neg then !inV x xs else inV x xs)) H
theorem op_in_seq : OpR X (compareOp .In) (rIn X.K false) := by
 intro pins s σ H x y v u Q I rx ry h
 obtain ⟨p, xs, rfl, hq, fx, fs, q⟩ := h
 cases ry
 rcases hq with hq | hq
 ·obtain ⟨its, r, pl, hz⟩ := I.list hq
  refine SeqAt.in_listAt (eqU x) pl.isList (fun w hw => mem_eqAt rx fx r fs w (by simpa using hw)) ⟨.bl _, H, I, rfl, ?_⟩
  rw [show its.toArray.any (eqU x) = its.any (eqU x) by simp, any_eqU r fs]
  exact q
 ·obtain ⟨its, r, pl, hz⟩ := I.tuple hq
  refine SeqAt.in_tupleAt (eqU x) pl (fun w hw => mem_eqAt rx fx r fs w (by simpa using hw)) ⟨.bl _, H, I, rfl, ?_⟩
  rw [show its.toArray.any (eqU x) = its.any (eqU x) by simp, any_eqU r fs]
  exact q
theorem op_notIn_seq : OpR X (compareOp .NotIn) (rIn X.K true) := by
 intro pins s σ H x y v u Q I rx ry h
 obtain ⟨p, xs, rfl, hq, fx, fs, q⟩ := h
 cases ry
 rcases hq with hq | hq
 ·obtain ⟨its, r, pl, hz⟩ := I.list hq
  refine SeqAt.notIn_listAt (eqU x) pl.isList (fun w hw => mem_eqAt rx fx r fs w (by simpa using hw)) ⟨.bl _, H, I, rfl, ?_⟩
  rw [show its.toArray.any (eqU x) = its.any (eqU x) by simp, any_eqU r fs]
  exact q
 ·obtain ⟨its, r, pl, hz⟩ := I.tuple hq
  refine SeqAt.notIn_tupleAt (eqU x) pl (fun w hw => mem_eqAt rx fx r fs w (by simpa using hw)) ⟨.bl _, H, I, rfl, ?_⟩
  rw [show its.toArray.any (eqU x) = its.any (eqU x) by simp, any_eqU r fs]
  exact q
theorem call_len_seq : CallR X (.builtin "len") (fun xs H Q => ∃ p ys, xs = [.ref p] ∧ (SqL X.K H p ys ∨ SqT X.K H p ys) ∧ Q (.int ys.length) H) := by
 intro pins s σ H xs us Q I r h
 obtain ⟨p, ys, rfl, hq, q⟩ := h
 obtain ⟨u, rfl, rx⟩ := vals1 r
 cases rx
 have hn := line63
 rcases hq with hq | hq
 ·obtain ⟨its, r', pl, hz⟩ := I.list hq
  have hlen := r'.length
  exact Calls.call_len_list pl.isList (by simp only [List.size_toArray] <;> omega) ⟨.int ys.length, H, I.tok _, ⟨s.toks + 1, by rw [List.size_toArray, hlen]⟩, q⟩
 ·obtain ⟨its, r', pl, hz⟩ := I.tuple hq
  have hlen := r'.length
  exact len_tuple pl (by simp only [List.size_toArray] <;> omega) ⟨.int ys.length, H, I.tok _, ⟨s.toks + 1, by rw [List.size_toArray, hlen]⟩, q⟩
theorem call_list_of : CallR X (.type "list") (fun xs H Q => ∃ p ys, xs = [.ref p] ∧ (SqL X.K H p ys ∨ SqT X.K H p ys) ∧ ∀ l, H l = none → Q (.ref l) (upd H l (.lst ys))) := by
 intro pins s σ H xs us Q I r h
 obtain ⟨p, ys, rfl, hq, q⟩ := h
 obtain ⟨u, rfl, rx⟩ := vals1 r
 cases rx
 have fin : ∀ (its : List Value), Vals ys its → ys.length ≤ sizeLine → ∀ (h' : Heap) (c' : Nat), (∀ b o', s.heap.get? b = some o' → h'.get? b = some o') →
   h'.get? s.heap.objs.size = some { cls := .type "list", dict := none, data := .seq its.toArray c', slots := #[] } → EP X pins σ Q (.ref s.heap.objs.size) { s with heap := h' } := fun its r' hz h' c' kp e =>
  ⟨.ref s.heap.objs.size, _, I.laid (t' := s.toks) kp (Nat.le_refl _) (show ObjOk X.prog X.w _ h' _ (.lst ys) from ⟨hz, its, c', r', e⟩), rfl, q _ (I.hok.fresh (Nat.le_refl _))⟩
 rcases hq with hq | hq
 ·obtain ⟨its, r', pl, hz⟩ := I.list hq
  have hlen := r'.length
  obtain ⟨o, ho, hc, n, hd⟩ := pl.isList
  exact call_list_seq p (.inl rfl) ho hc hd (fun h' c' kp e => fin its r' hz h' c' kp e) (by simp only [List.size_toArray] <;> omega)
 ·obtain ⟨its, r', pl, hz⟩ := I.tuple hq
  have hlen := r'.length
  obtain ⟨o, ho, hc, n, hd⟩ := pl
  exact call_list_seq p (.inr rfl) ho hc hd (fun h' c' kp e => fin its r' hz h' c' kp e) (by simp only [List.size_toArray] <;> omega)
def tyV (K : PySem.W.Frag) (T : String) (x : V) (H : Hp) : Prop := match x with
 | .str _ => T = "str"
 | .int _ => T = "int"
 | .ref p => (T = "list" ∧ ∃ xs, SqL K H p xs) ∨ (T = "tuple" ∧ ∃ o, K.lookup p = some o ∧ o.cls = .type "tuple" ∧ o.dict = none) ∨
   (T = "dict" ∧ ((∃ kvs, H p = some (.dK kvs)) ∨ ∃ kvs, H p = some (.dT kvs))) ∨ (T = "set" ∧ ∃ S n, H p = some (.set S n))
 | _ => False
theorem tyV_is {pins : List (Addr × Obj)} {σ : St} {H : Hp} {s : Shared} {T : String} {x : V} {v : Value} (I : Inv X pins σ H s) (r : RelV x v) (ty : tyV X.K T x H) :
  s.TypeIs v T ∧ ∀ a, v = .ref a → ∃ ob, s.heap.get? a = some ob ∧ ob.dict = none := by
 cases x with
 | str z =>
  obtain ⟨t, rfl⟩ := r
  cases (show T = "str" from ty)
  exact ⟨typeIs_str s z t, fun _ e => nomatch e⟩
 | int i =>
  obtain ⟨t, rfl⟩ := r
  cases (show T = "int" from ty)
  exact ⟨typeIs_int s i t, fun _ e => nomatch e⟩
 | ref p =>
  cases r
  rcases ty with ⟨rfl, xs, hq⟩ | ⟨rfl, o, hk, hc, hd⟩ | ⟨rfl, hk⟩ | ⟨rfl, S, n, hk⟩
  ·obtain ⟨its, _, pl, _⟩ := I.list hq
   refine ⟨pl.isList.typeIs, fun a e => ?_⟩
   cases e
   obtain ⟨o, n, e, c, hd, _⟩ := pl
   exact ⟨o, e, hd⟩
  ·refine ⟨⟨o, I.kIn p o hk, hc⟩, fun a e => ?_⟩
   cases e
   exact ⟨o, I.kIn _ o hk, hd⟩
  ·have z : ∃ o, s.heap.get? p = some o ∧ o.ExactDict := by
    rcases hk with ⟨kvs, hk⟩ | ⟨kvs, hk⟩
    ·obtain ⟨_, _, _, _, o, _, _, e, ex, _⟩ := I.hok p _ hk
     exact ⟨o, e, ex⟩
    ·obtain ⟨_, _, _, _, o, _, _, e, ex, _⟩ := I.hok p _ hk
     exact ⟨o, e, ex⟩
   obtain ⟨o, e, ex⟩ := z
   refine ⟨⟨o, e, ex.1⟩, fun a e2 => ?_⟩
   cases e2
   exact ⟨o, e, ex.2.1⟩
  ·obtain ⟨o, _, _, _, e, ex, _⟩ := I.hok p _ hk
   refine ⟨⟨o, e, ex.1⟩, fun a e2 => ?_⟩
   cases e2
   exact ⟨o, e, ex.2.1⟩
 | _ => exact False.elim ty
def tBM (K : PySem.W.Frag) (T : String) (r : V → List V → Hp → VK → Prop) (to : TE) (t : TA) : TE := fun σ H Q => to σ H fun x H1 => tyV K T x H1 ∧ t σ H1 fun xs H2 => r x xs H2 Q
variable {o e : Expr} {es : List Expr} {to : TE} {t : TA} {name : Str} {apos cpos : Pos} {T id : String} {r : V → List V → Hp → VK → Prop}
theorem pe_bm (pa : PlainAttrs T) (slot : Slot T name id) (hty : typeOf (.builtin id) = pure (.type "method_descriptor")) (hm : MtR X id r) (ho : PE X o to) (ha : PA X (e :: es) t)
  (hbase : attributeBase o name X.env (eval o X.env) = eval o X.env := by rfl)
  (hfew : ((backTo cpos (starEach (e :: es) X.env)).all (fun x => !x.1) && (backToKw cpos (keywordEach [] X.env)).all (fun x => x.1.isSome)
   && decide ((e :: es).length + ([] : List Keyword).length + (if ([] : List Keyword).isEmpty then 0 else 1) < 30)) = true := by rfl)
  (hline : (apos.endLine == cpos.line) = true := by rfl) (hs : starEach (e :: es) X.env = (false, eval e X.env) :: starEach es X.env := by rfl) (hplain : (backTo cpos (starEach es X.env)).any (·.1) = false := by rfl) :
  PE X (.Call (.Attribute o name apos) (e :: es) [] cpos) (tBM X.K T r to t) := by
 intro pins s σ H Q I h
 refine wpAny_Call_method_late hbase hfew hline rfl (thn (ho pins s σ H _ I h) fun v s1 ⟨x, H1, I1, r1, ty, q1⟩ => ?_)
 obtain ⟨h1, h2⟩ := tyV_is I1 r1 ty
 refine ⟨T, id, pa, slot, hty, h1, h2, ?_⟩
 have hA := ha cpos pins s1 σ H1 _ I1 q1
 rw [hs] at hA ⊢
 refine Calls.callWith_builtin (by show (false || (backTo cpos (starEach es X.env)).any (·.1)) = false; rw [hplain] <;> rfl) (Calls.evalArgs_plain ?_)
 exact thn hA fun us s2 ⟨vs, H2, I2, r2, q2⟩ => hm pins s2 σ H2 x vs v us Q I2 r1 r2 q2
end
end L2
namespace L2
open PySem PySem.Spec PyProof.Rows
def MtM (X : Cx) (id : String) (r : V → List V → Hp → VK → Prop) : Prop :=
 ∀ (pins : List (Addr × Obj)) (s : Shared) (σ : St) (H : Hp) (x : V) (xs : List V) (v : Value) (us : List Value) (Q : VK), Inv X pins σ H s → RelV x v → Vals xs us → r x xs H Q →
  wpAny (model X.prog X.w) X.A (call (.builtin id) (v :: us)) (EP X pins σ Q) X.xe s
theorem Vals.one : ∀ {x : V} {us : List Value}, Vals [x] us → ∃ u, us = [u] ∧ RelV x u
 | _, _, .cons r .nil => ⟨_, rfl, r⟩
theorem Vals.two : ∀ {x y : V} {us : List Value}, Vals [x, y] us → ∃ u v, us = [u, v] ∧ RelV x u ∧ RelV y v
 | _, _, _, .cons r (.cons q .nil) => ⟨_, _, rfl, r, q⟩
theorem Vals.eraseIdx : ∀ {xs : List V} {us : List Value} (i : Nat), Vals xs us → Vals (xs.eraseIdx i) (us.eraseIdx i)
 | _, _, _, .nil => .nil
 | _, _, 0, .cons _ t => t
 | _, _, i + 1, .cons r t => .cons r (Vals.eraseIdx i t)
theorem Vals.reverse {xs : List V} {us : List Value} (h : Vals xs us) : Vals xs.reverse us.reverse := by
 induction h with
 | nil => exact .nil
 | cons r t ih => rw [List.reverse_cons, List.reverse_cons]; exact Vals.append ih (.cons r .nil)
theorem len_erase {α : Type} : ∀ (l : List α) (i : Nat), (l.eraseIdx i).length ≤ l.length
 | [], _ => Nat.le_refl _
 | _ :: _, 0 => Nat.le_succ _
 | _ :: r, i + 1 => Nat.succ_le_succ (len_erase r i)
section
variable {X : Cx} {pins : List (Addr × Obj)} {σ : St} {H : Hp} {s : Shared} {l b : Addr} {xs ys zs : List V}
theorem Inv.lset {its its' : List Value} {n : Nat} {f : Array Value → Array Value} {t' : Nat} (I : Inv X pins σ H s) (hH : H l = some (.lst xs))
  (e : s.heap.get? l = some { cls := .type "list", data := .seq its.toArray n }) (hf : f its.toArray = its'.toArray) (hv : Vals ys its') (hz : ys.length ≤ sizeLine) :
  Inv X pins σ (upd H l (.lst ys)) { s with heap := s.heap.update l (Obj.mapSeq f), toks := t' } := by
 have q := PySem.IsL.update e f
 rw [hf] at q
 refine I.write (x := l) (e := l) (by rw [hH]; exact trivial) (.inl rfl) (fun b' u hb hu => (Heap.get?_update_other s.heap (Obj.mapSeq f) (Ne.symm hb)).trans hu) ⟨_, q⟩ ?_
 exact ⟨hz, its', _, hv, q⟩
theorem Inv.lnew {its : List Value} {t' : Nat} (I : Inv X pins σ H s) (hv : Vals ys its) (hz : ys.length ≤ sizeLine) :
  Inv X pins σ (upd H s.heap.objs.size (.lst ys)) { s with heap := s.heap.push { cls := .type "list", data := .seq its.toArray }, toks := t' } :=
 I.laid (fun _ _ q => Heap.get?_push_of_some _ q) (Nat.le_refl _) ⟨hz, its, 0, hv, Heap.get?_push_size _ rfl⟩
theorem Inv.fresh (I : Inv X pins σ H s) : H s.heap.objs.size = none := I.hok.fresh (Nat.le_refl _)
theorem Inv.lstM (I : Inv X pins σ H s) (hH : H l = some (.lst xs)) : xs.length ≤ sizeLine ∧ ∃ (its : List Value) (n : Nat), Vals xs its ∧ xs.length = its.length ∧ s.heap.get? l = some { cls := .type "list", data := .seq its.toArray n } := by
 obtain ⟨z, its, n, r, e⟩ := I.hok l _ hH
 exact ⟨z, its, n, r, r.length, e⟩
end
section
variable {X : Cx}
def rAppend : V → List V → Hp → VK → Prop := fun x vs H Q => ∃ l xs y, x = .ref l ∧ vs = [y] ∧ H l = some (.lst xs) ∧ xs.length < sizeLine ∧ Q .non (upd H l (.lst (xs ++ [y])))
theorem mt_append : MtM X "list.append" rAppend := by
 intro pins s σ H x vs v us Q I rx rv h
 obtain ⟨l, xs, y, rfl, rfl, hH, hz, q⟩ := h
 cases rx
 obtain ⟨u, rfl, ru⟩ := rv.one
 obtain ⟨z, its, n, r, hl, e⟩ := I.lstM hH
 refine call_meets F.slot_list_append ⟨_, e, rfl⟩ F.entry_list_append (F.args_list_append_2 _ _) (PySem.list_append l its.toArray n u (by rw [List.size_toArray]; omega)) ⟨e, ?_⟩
 refine ⟨.non, _, I.lset (its' := its ++ [u]) hH e (by simp) (r.append (.cons ru .nil)) ?_, rfl, q⟩
 rw [List.length_append, List.length_singleton]
 omega
def rPopAt : V → List V → Hp → VK → Prop := fun x vs H Q => ∃ l xs i k y, x = .ref l ∧ vs = [.int i] ∧ H l = some (.lst xs) ∧ -(2 ^ 63) ≤ i ∧ i < 2 ^ 63 ∧ seqIndex? i xs.length = some k ∧ xs[k]? = some y ∧ Q y (upd H l (.lst (xs.eraseIdx k)))
theorem mt_popAt : MtM X "list.pop" rPopAt := by
 intro pins s σ H x vs v us Q I rx rv h
 obtain ⟨l, xs, i, k, y, rfl, rfl, hH, h1, h2, hk, hy, q⟩ := h
 cases rx
 obtain ⟨u, rfl, ru⟩ := rv.one
 obtain ⟨t, rfl⟩ := ru
 obtain ⟨z, its, n, r, hl, e⟩ := I.lstM hH
 obtain ⟨w, hw, rw'⟩ := r.get hy
 refine call_meets F.slot_list_pop ⟨_, e, rfl⟩ F.entry_list_pop (F.args_list_pop_2 _ _)
  (MeetsSeq.list_pop_at l its.toArray n i t k w (fitsIndex_both h1 h2) (by rw [List.size_toArray, ← hl]; exact hk) (by rw [← Array.getElem?_toList]; exact hw) (by rw [List.size_toArray]; omega)) ⟨e, ?_⟩
 refine ⟨y, _, I.lset (its' := its.eraseIdx k) hH e ?_ (r.eraseIdx k) ?_, rw', q⟩
 ·show its.toArray.eraseIdxIfInBounds k = (its.eraseIdx k).toArray
  rw [List.eraseIdxIfInBounds_toArray]
 ·have := len_erase xs k
  omega
def rCat : R2 := fun x y H Q => ∃ l b xs zs, x = .ref l ∧ y = .ref b ∧ H l = some (.lst xs) ∧ H b = some (.lst zs) ∧ xs.length + zs.length ≤ sizeLine ∧ ∀ p, H p = none → Q (.ref p) (upd H p (.lst (xs ++ zs)))
theorem op_cat : OpR X (binaryOp .Add) rCat := by
 intro pins s σ H x y v u Q I rx ry h
 obtain ⟨l, b, xs, zs, rfl, rfl, hH, hB, hz, q⟩ := h
 cases rx
 cases ry
 obtain ⟨z, its, n, r, hl, e⟩ := I.lstM hH
 obtain ⟨z2, its2, n2, r2, hl2, e2⟩ := I.lstM hB
 refine PySem.P.add_list e e2 ?_ (by rw [List.size_toArray, List.size_toArray]; omega)
 have ea : its.toArray ++ its2.toArray = (its ++ its2).toArray := by simp
 rw [ea]
 exact ⟨.ref _, _, I.lnew (t' := s.toks) (r.append r2) (by rw [List.length_append]; omega), rfl, q _ I.fresh⟩
end
section
variable {prog : Program} {w : World} {A : Around} {E : Value → Shared → Prop} {s : Shared}
set_option maxRecDepth 100000 in
end
section
variable {X : Cx}
end
end L2
namespace L2
open PySem PySem.Spec PyProof.Rows
section
variable {κ : Type} [DecidableEq κ]
def valV (kvs : List (κ × V)) (k : κ) : Option V := (kvs.find? fun kv => decide (kv.1 = k)).map (·.2)
def putK (kvs : List (κ × V)) (k : κ) (v : V) : List (κ × V) :=
 if (kvs.any fun kv => decide (kv.1 = k)) = true then kvs.map (fun kv => if kv.1 = k then (kv.1, v) else kv) else kvs ++ [(k, v)]
theorem valV_pos {p : κ × V} {r : List (κ × V)} {k : κ} (e : p.1 = k) : valV (p :: r) k = some p.2 := by simp [valV, List.find?_cons, e]
theorem valV_neg {p : κ × V} {r : List (κ × V)} {k : κ} (e : ¬ p.1 = k) : valV (p :: r) k = valV r k := by simp [valV, List.find?_cons, e]
theorem valV_any (k : κ) : ∀ kvs : List (κ × V), (kvs.any fun kv => decide (kv.1 = k)) = (valV kvs k).isSome
 | [] => rfl
 | p :: r => by
  rw [List.any_cons]
  by_cases e : p.1 = k
  ·simp only [valV_pos e, decide_eq_true e, Bool.true_or, Option.isSome_some]
  ·rw [valV_neg e, decide_eq_false e, Bool.false_or]; exact valV_any k r
theorem valV_map (k j : κ) (y : V) : ∀ kvs : List (κ × V), valV (kvs.map fun kv => if kv.1 = k then (kv.1, y) else kv) j = (valV kvs j).map fun x => if j = k then y else x
 | [] => rfl
 | p :: r => by
  have ih := valV_map k j y r
  rw [List.map_cons]
  by_cases h : p.1 = k
  ·rw [if_pos h]
   by_cases e : p.1 = j
   ·rw [valV_pos (p := (p.1, y)) e, valV_pos e, Option.map_some, if_pos (e.symm.trans h)]
   ·rw [valV_neg (p := (p.1, y)) e, valV_neg e, ih]
  ·rw [if_neg h]
   by_cases e : p.1 = j
   ·rw [valV_pos (p := p) e, valV_pos e, Option.map_some, if_neg (fun z => h (e.trans z))]
   ·rw [valV_neg (p := p) e, valV_neg e, ih]
theorem valV_snoc (k j : κ) (y : V) : ∀ kvs : List (κ × V), valV kvs k = none → valV (kvs ++ [(k, y)]) j = if j = k then some y else valV kvs j
 | [], _ => by
  by_cases e : k = j
  ·rw [if_pos e.symm]; exact valV_pos (p := (k, y)) e
  ·rw [if_neg (fun z => e z.symm)]; exact valV_neg (p := (k, y)) e
 | p :: r, hn => by
  rw [List.cons_append]
  have hk : ¬ p.1 = k := fun z => by rw [valV_pos z] at hn; cases hn
  rw [valV_neg hk] at hn
  have ih := valV_snoc k j y r hn
  by_cases e : p.1 = j
  ·rw [valV_pos e, valV_pos e, if_neg (fun z => hk (e.trans z))]
  ·rw [valV_neg e, valV_neg e, ih]
theorem valV_put (kvs : List (κ × V)) (k j : κ) (y : V) : valV (putK kvs k y) j = if j = k then some y else valV kvs j := by
 unfold putK
 by_cases a : (kvs.any fun kv => decide (kv.1 = k)) = true
 ·rw [if_pos a, valV_map]
  rw [valV_any] at a
  by_cases e : j = k
  ·obtain ⟨x, hx⟩ := Option.isSome_iff_exists.mp a
   rw [if_pos e, e, hx, Option.map_some, if_pos rfl]
  ·rw [if_neg e]
   cases valV kvs j with
   | none => rfl
   | some x => rw [Option.map_some, if_neg e]
 ·rw [if_neg a]
  refine valV_snoc k j y kvs ?_
  rw [valV_any] at a
  cases q : valV kvs k with
  | none => rfl
  | some x => rw [q] at a; exact (a rfl).elim
theorem length_putK (kvs : List (κ × V)) (k : κ) (v : V) : (putK kvs k v).length ≤ kvs.length + 1 := by
 unfold putK
 split
 ·rw [List.length_map]; omega
 ·rw [List.length_append, List.length_cons, List.length_nil]; omega
theorem putK_new {kvs : List (κ × V)} {k : κ} (v : V) (h : valV kvs k = none) : putK kvs k v = kvs ++ [(k, v)] := by
 unfold putK
 rw [valV_any, h]
 exact if_neg (by decide)
theorem RelO.isSome_eq {o : Option V} {u : Option Value} (r : RelO o u) : o.isSome = u.isSome := by
 cases o with
 | none => cases u with
  | none => rfl
  | some _ => exact (show False from r).elim
 | some _ => cases u with
  | none => exact (show False from r).elim
  | some _ => rfl
theorem KV.val {kvs : List (κ × V)} {vs : List (κ × Value)} (r : KV kvs vs) (k : κ) : RelO (valV kvs k) (valueAt vs k) := by
 unfold KV at r
 induction r with
 | nil => exact True.intro
 | @cons p q ps qs h t ih =>
  obtain ⟨h1, h2⟩ := h
  by_cases e : p.1 = k
  ·have e' : q.1 = k := h1.symm.trans e
   have b : valueAt (q :: qs) k = some q.2 := by simp [valueAt, List.find?_cons, e']
   rw [valV_pos e, b]; exact h2
  ·have e' : ¬ q.1 = k := fun z => e (h1.trans z)
   have b : valueAt (q :: qs) k = valueAt qs k := by simp [valueAt, List.find?_cons, e']
   rw [valV_neg e, b]; exact ih
theorem KV.any {kvs : List (κ × V)} {vs : List (κ × Value)} (r : KV kvs vs) (k : κ) : (kvs.any fun kv => decide (kv.1 = k)) = vs.any fun kv => decide (kv.1 = k) := by
 unfold KV at r
 induction r with
 | nil => rfl
 | cons h t ih => rw [List.any_cons, List.any_cons, ih, h.1]
theorem KV.repl {kvs : List (κ × V)} {vs : List (κ × Value)} (r : KV kvs vs) (k : κ) {y : V} {u : Value} (ry : RelV y u) :
  KV (kvs.map fun kv => if kv.1 = k then (kv.1, y) else kv) (vs.map fun kv => if kv.1 = k then (kv.1, u) else kv) := by
 unfold KV at r ⊢
 induction r with
 | nil => exact .nil
 | @cons p q ps qs h t ih =>
  rw [List.map_cons, List.map_cons]
  refine .cons ?_ ih
  obtain ⟨h1, h2⟩ := h
  by_cases e : p.1 = k
  ·rw [if_pos e, if_pos (h1.symm.trans e)]; exact ⟨h1, ry⟩
  ·rw [if_neg e, if_neg (fun z => e (h1.trans z))]; exact ⟨h1, h2⟩
theorem KV.put {kvs : List (κ × V)} {vs : List (κ × Value)} (r : KV kvs vs) (k : κ) {y : V} {u : Value} (ry : RelV y u) : KV (putK kvs k y) (stored vs k u) := by
 unfold putK stored
 rw [r.any k]
 by_cases e : (vs.any fun kv => decide (kv.1 = k)) = true
 ·rw [if_pos e, if_pos e]; exact r.repl k ry
 ·rw [if_neg e, if_neg e]; exact Paired.snoc r ⟨rfl, ry⟩
theorem KV.length {kvs : List (κ × V)} {vs : List (κ × Value)} (r : KV kvs vs) : kvs.length = vs.length := Paired.length r
end
theorem kV_is {P : Program} {w : World} {k : Key} {u : Value} (r : RelV (kV k) u) : (mixKind P w).is k u = true := by
 cases k with
 | inl i => obtain ⟨t, e⟩ := (show ∃ t, u = Value.int i t from r); subst e; exact mixKind_int P w i t
 | inr x => obtain ⟨t, e⟩ := (show ∃ t, u = Value.str x t from r); subst e; exact mixKind_str P w x t
theorem items_are {P : Program} {w : World} : ∀ {ks : List Key} {us : List Value}, Vals (ks.map kV) us → ItemsAre (mixKind P w) ks us
 | [], _, r => by rw [List.map_nil] at r; cases r; exact .nil
 | k :: ks, _, r => by
  rw [List.map_cons] at r
  cases r with
  | cons h t => exact .cons (kV_is h) (items_are t)
abbrev KT (H : Hp) : List (List Key × V) → List (List Key × Addr × Value) → Prop := Paired fun p q => p.1 = q.1 ∧ H q.2.1 = some (.tup (p.1.map kV)) ∧ RelV p.2 q.2.2
theorem KT.val {H : Hp} {kvs : List (List Key × V)} {xs : List (List Key × Addr × Value)} (r : KT H kvs xs) (k : List Key) : RelO (valV kvs k) ((atKey xs k).map (·.2)) := by
 induction r with
 | nil => exact True.intro
 | @cons p q ps qs h t ih =>
  obtain ⟨h1, _, h2⟩ := h
  by_cases e : p.1 = k
  ·have e' : q.1 = k := h1.symm.trans e
   have b : atKey (q :: qs) k = some q.2 := by simp [atKey, List.find?_cons, e']
   rw [valV_pos e, b]; exact h2
  ·have e' : ¬ q.1 = k := fun z => e (h1.trans z)
   have b : atKey (q :: qs) k = atKey qs k := by simp [atKey, List.find?_cons, e']
   rw [valV_neg e, b]; exact ih
theorem KT.repl {H : Hp} {kvs : List (List Key × V)} {xs : List (List Key × Addr × Value)} (r : KT H kvs xs) (k : List Key) {y : V} {u : Value} (ry : RelV y u) :
  KT H (kvs.map fun kv => if kv.1 = k then (kv.1, y) else kv) (xs.map (putAt k u)) := by
 induction r with
 | nil => exact .nil
 | @cons p q ps qs h t ih =>
  rw [List.map_cons, List.map_cons]
  refine .cons ?_ ih
  obtain ⟨h1, h2, h3⟩ := h
  unfold putAt
  by_cases e : p.1 = k
  ·rw [if_pos e, if_pos (h1.symm.trans e)]; exact ⟨h1, h2, ry⟩
  ·rw [if_neg e, if_neg (fun z => e (h1.trans z))]; exact ⟨h1, h2, h3⟩
theorem KT.put {H : Hp} {kvs : List (List Key × V)} {xs : List (List Key × Addr × Value)} (r : KT H kvs xs) (k : List Key) {b : Addr} {y : V} {u : Value} (hb : H b = some (.tup (k.map kV))) (ry : RelV y u) :
  KT H (putK kvs k y) (storedH xs k b u) := by
 have e : (kvs.any fun kv => decide (kv.1 = k)) = (atKey xs k).isSome := by
  rw [valV_any, (r.val k).isSome_eq, Option.isSome_map]
 unfold putK storedH
 rw [e]
 by_cases q : (atKey xs k).isSome = true
 ·rw [if_pos q, if_pos q]; exact r.repl k ry
 ·rw [if_neg q, if_neg q]; exact Paired.snoc r ⟨rfl, hb, ry⟩
theorem KT.keeps {H H' : Hp} {kvs : List (List Key × V)} {xs : List (List Key × Addr × Value)} (r : KT H kvs xs) (ht : ∀ b ys, H b = some (.tup ys) → H' b = some (.tup ys)) : KT H' kvs xs :=
 Paired.mapP r fun _ _ z => ⟨z.1, ht _ _ z.2.1, z.2.2⟩
section
variable {P : Program} {w : World} {H : Hp} {h : Heap} {a : Addr}
theorem rd_of {u : HO} (ok : HOk P w H h) (e : Rd H a u) : ObjOk P w H h a u := e.ok ok
theorem dk_rd {kvs : List (Key × V)} (ok : HOk P w H h) (e : Rd H a (.dK kvs)) : kvs.length ≤ sizeLine ∧ (a == sysModules) = false ∧ ∃ vs, KV kvs vs ∧ h.DictOf (mixKind P w) a vs :=
 show ObjOk P w H h a (.dK kvs) from rd_of ok e
theorem dk_of {kvs : List (Key × V)} (ok : HOk P w H h) (e : H a = some (.dK kvs)) : kvs.length ≤ sizeLine ∧ (a == sysModules) = false ∧ ∃ vs, KV kvs vs ∧ h.DictOf (mixKind P w) a vs := dk_rd ok (.inl e)
theorem key_of {ks : List Key} (ok : HOk P w H h) (e : H a = some (.tup (ks.map kV))) : (tupleKind (mixKind P w)).is h ks a := by
 obtain ⟨_, its, r, o, h1, h2, n, h3⟩ := (show ObjOk P w H h a (.tup (ks.map kV)) from ok a _ e)
 exact ⟨o, its.toArray, n, h1, h2, h3, by simpa using items_are r⟩
theorem dt_rd {kvs : List (List Key × V)} (ok : HOk P w H h) (e : Rd H a (.dT kvs)) : kvs.length ≤ sizeLine ∧ (a == sysModules) = false ∧
  ∃ xs, KT H kvs xs ∧ h.DictOfH (tupleKind (mixKind P w)) a xs := by
 obtain ⟨z, y, xs, r, o, es, ep, h1, h2, h3, h4, h5⟩ := (show ObjOk P w H h a (.dT kvs) from rd_of ok e)
 refine ⟨z, y, xs, r, o, es, ep, h1, h2, h3, h4, fun x hx => ?_, h5⟩
 have all : ∀ {l : List (List Key × V)} {m : List (List Key × Addr × Value)}, KT H l m → ∀ x ∈ m, (tupleKind (mixKind P w)).is h x.1 x.2.1 := by
  intro l m q
  induction q with
  | nil => intro x hx; exact nomatch hx
  | @cons p q ps qs hq t ih =>
   intro x hx
   rcases List.mem_cons.mp hx with e | hx
   ·subst e
    exact key_of ok (by rw [← hq.1]; exact hq.2.1)
   ·exact ih x hx
 exact all r x hx
theorem dt_of {kvs : List (List Key × V)} (ok : HOk P w H h) (e : H a = some (.dT kvs)) : kvs.length ≤ sizeLine ∧ (a == sysModules) = false ∧
  ∃ xs, KT H kvs xs ∧ h.DictOfH (tupleKind (mixKind P w)) a xs := dt_rd ok (.inl e)
end
def DGet (H : Hp) (a : Addr) (y : V) (r : Option V) : Prop :=
 (∃ kvs k, Rd H a (.dK kvs) ∧ y = kV k ∧ r = valV kvs k) ∨ ∃ kvs k b, Rd H a (.dT kvs) ∧ y = .ref b ∧ H b = some (.tup (k.map kV)) ∧ r = valV kvs k
def DPut (H : Hp) (a : Addr) (y v : V) (H' : Hp) : Prop :=
 (∃ kvs k, H a = some (.dK kvs) ∧ y = kV k ∧ kvs.length < sizeLine ∧ H' = upd H a (.dK (putK kvs k v))) ∨
 ∃ kvs k b, H a = some (.dT kvs) ∧ y = .ref b ∧ H b = some (.tup (k.map kV)) ∧ kvs.length < sizeLine ∧ H' = upd H a (.dT (putK kvs k v))
theorem DGet.k {H : Hp} {a : Addr} {kvs : List (Key × V)} {k : Key} (e : H a = some (.dK kvs)) : DGet H a (kV k) (valV kvs k) := .inl ⟨kvs, k, .inl e, rfl, rfl⟩
theorem DGet.t {H : Hp} {a b : Addr} {kvs : List (List Key × V)} {k : List Key} (e : H a = some (.dT kvs)) (eb : H b = some (.tup (k.map kV))) : DGet H a (.ref b) (valV kvs k) := .inr ⟨kvs, k, b, .inl e, rfl, eb, rfl⟩
theorem DPut.k {H : Hp} {a : Addr} {kvs : List (Key × V)} {k : Key} {v : V} (e : H a = some (.dK kvs)) (hl : kvs.length < sizeLine) : DPut H a (kV k) v (upd H a (.dK (putK kvs k v))) := .inl ⟨kvs, k, e, rfl, hl, rfl⟩
theorem DPut.t {H : Hp} {a b : Addr} {kvs : List (List Key × V)} {k : List Key} {v : V} (e : H a = some (.dT kvs)) (eb : H b = some (.tup (k.map kV))) (hl : kvs.length < sizeLine) :
  DPut H a (.ref b) v (upd H a (.dT (putK kvs k v))) := .inr ⟨kvs, k, b, e, rfl, eb, hl, rfl⟩
section
variable {X : Cx} {pins : List (Addr × Obj)} {σ : St} {H : Hp} {s : Shared} {a : Addr} {y v : V} {u r : Value} {o : Option V} {A : Around} {E : Value → Shared → Prop}
theorem Inv.big (I : Inv X pins σ H s) : sysModules < s.heap.objs.size := by
 have h : mainGlobals < s.heap.objs.size := (I.mod.glob.keeps I.bk).lt
 exact Nat.lt_trans (by decide) h
theorem d_getItem {Q : Value → Shared → Prop} (hu : A.units + 1 < cLine) (I : Inv X pins σ H s) (g : DGet H a y (some v)) (ry : RelV y u) (h : ∀ w' s', Inv X pins σ H s' → RelV v w' → Q w' s') :
  wpAny (model X.prog X.w) A (getItem (.ref a) u) Q E s := by
 rcases g with ⟨kvs, k, e, ey, l⟩ | ⟨kvs, k, b, e, ey, eb, l⟩
 ·subst ey
  obtain ⟨z, hd, vs, rel, dd⟩ := dk_rd I.hok e
  obtain ⟨w', hw, rw'⟩ := RelO.some_of (v := v) (o := valueAt vs k) (by rw [l]; exact rel.val k)
  exact wpAny_getItem_of (kV_is ry) dd.mapOf hw (h w' _ (I.tok _) rw')
 ·subst ey
  cases (show u = Value.ref b from ry)
  obtain ⟨z, hd, xs, rel, dd⟩ := dt_rd I.hok e
  obtain ⟨w', hw, rw'⟩ := RelO.some_of (v := v) (o := (atKey xs k).map (·.2)) (by rw [l]; exact rel.val k)
  obtain ⟨p, hp, hp2⟩ := Option.map_eq_some_iff.mp hw
  refine wpAny_getItem_heap (tupleKind_room_in1 hu) (key_of I.hok eb) dd hp ?_
  rw [hp2]
  exact h w' _ (I.tok _) rw'
theorem d_in {Q : Value → Shared → Prop} (hu : A.units + 1 < cLine) (I : Inv X pins σ H s) (g : DGet H a y o) (ry : RelV y u) (h : ∀ s', Inv X pins σ H s' → Q (.bool o.isSome) s') :
  wpAny (model X.prog X.w) A (compareOp .In u (.ref a)) Q E s := by
 rcases g with ⟨kvs, k, e, ey, l⟩ | ⟨kvs, k, b, e, ey, eb, l⟩
 ·subst ey
  obtain ⟨z, hd, vs, rel, dd⟩ := dk_rd I.hok e
  refine wpAny_in_of (kV_is ry) hd dd.mapOf ?_
  rw [← (rel.val k).isSome_eq, ← l]
  exact h _ (I.tok _)
 ·subst ey
  cases (show u = Value.ref b from ry)
  obtain ⟨z, hd, xs, rel, dd⟩ := dt_rd I.hok e
  refine wpAny_in_heap (tupleKind_room_in1 hu) (key_of I.hok eb) hd dd ?_
  have q := (rel.val k).isSome_eq
  rw [Option.isSome_map] at q
  rw [← q, ← l]
  exact h _ (I.tok _)
theorem d_notIn {Q : Value → Shared → Prop} (hu : A.units + 1 < cLine) (I : Inv X pins σ H s) (g : DGet H a y o) (ry : RelV y u) (h : ∀ s', Inv X pins σ H s' → Q (.bool (!o.isSome)) s') :
  wpAny (model X.prog X.w) A (compareOp .NotIn u (.ref a)) Q E s := by
 rcases g with ⟨kvs, k, e, ey, l⟩ | ⟨kvs, k, b, e, ey, eb, l⟩
 ·subst ey
  obtain ⟨z, hd, vs, rel, dd⟩ := dk_rd I.hok e
  refine wpAny_notIn_of (kV_is ry) hd dd.mapOf ?_
  rw [← (rel.val k).isSome_eq, ← l]
  exact h _ (I.tok _)
 ·subst ey
  cases (show u = Value.ref b from ry)
  obtain ⟨z, hd, xs, rel, dd⟩ := dt_rd I.hok e
  refine wpAny_notIn_heap (tupleKind_room_in1 hu) (key_of I.hok eb) hd dd ?_
  have q := (rel.val k).isSome_eq
  rw [Option.isSome_map] at q
  rw [← q, ← l]
  exact h _ (I.tok _)
theorem d_write {h' : Heap} {t' : Nat} {ob : HO} (I : Inv X pins σ H s) (mu : Mut (H a)) (hs : Heap.SameBut a s.heap h') (he : ∃ q, h'.get? a = some q) (new : ObjOk X.prog X.w (upd H a ob) h' a ob) :
  Inv X pins σ (upd H a ob) { s with heap := h', toks := t' } :=
 I.write (x := a) (e := a) mu (.inl rfl) (fun b q hb z => (hs.2 b hb).trans z) he new
theorem dk_new {P : Program} {w : World} {H' : Hp} {h' : Heap} {kvs : List (Key × V)} {vs : List (Key × Value)} (z : kvs.length ≤ sizeLine) (hd : (a == sysModules) = false) (rel : KV kvs vs) (dd : h'.DictOf (mixKind P w) a vs) :
  ObjOk P w H' h' a (.dK kvs) := ⟨z, hd, vs, rel, dd⟩
theorem d_setItem {H' : Hp} {Q : Unit → Shared → Prop} (hu : A.units + 1 < cLine) (I : Inv X pins σ H s) (g : DPut H a y v H') (ry : RelV y u) (rv : RelV v r) (h : ∀ s', Inv X pins σ H' s' → Q () s') :
  wpAny (model X.prog X.w) A (setItem (.ref a) u r) Q E s := by
 rcases g with ⟨kvs, k, e, ey, l, eH⟩ | ⟨kvs, k, b, e, ey, eb, l, eH⟩
 ·subst ey eH
  obtain ⟨z, hd, vs, rel, dd⟩ := dk_of I.hok e
  have hz : vs.length ≤ sizeLine := by rw [← rel.length]; exact z
  have hl : (putK kvs k v).length ≤ sizeLine := by have := length_putK kvs k v; omega
  refine wpAny_setItem_pairs (hsz := hz) (kV_is ry) dd fun h' dd' hs => h _ ?_
  have he : ∃ q, h'.get? a = some q := let ⟨q, _, _, hq, _⟩ := dd'; ⟨q, hq⟩
  exact d_write I (by rw [e]; exact True.intro) hs he (dk_new hl hd (rel.put k rv) dd')
 ·subst ey eH
  cases (show u = Value.ref b from ry)
  obtain ⟨z, hd, xs, rel, dd⟩ := dt_of I.hok e
  have hz : xs.length ≤ sizeLine := by rw [← Paired.length rel]; exact z
  have hl : (putK kvs k v).length ≤ sizeLine := by have := length_putK kvs k v; omega
  refine wpAny_setItem_heap (hsz := hz) (tupleKind_room_in1 hu) (key_of I.hok eb) dd fun h' dd' hs => h _ ?_
  obtain ⟨q, es, ep, hq, h2, h3, h4, _, h5⟩ := dd'
  refine d_write I (by rw [e]; exact True.intro) hs ⟨q, hq⟩ ⟨hl, hd, _, (rel.put k eb rv).keeps fun c ys ec => ?_, q, es, ep, hq, h2, h3, h4, h5⟩
  rw [upd_ne (ne_of ec e (fun z => nomatch z))]
  exact ec
end
section
variable {X : Cx} {pins : List (Addr × Obj)} {σ : St} {H : Hp} {s : Shared} {a : Addr} {kvs : List (Key × V)} {k : Key} {u : Value} {A : Around} {E : Value → Shared → Prop}
theorem d_len {Q : Value → Shared → Prop} (I : Inv X pins σ H s) (e : Rd H a (.dK kvs)) (h : ∀ t s', Inv X pins σ H s' → Q (.int kvs.length t) s') : wpAny (model X.prog X.w) A (call (.builtin "len") [.ref a]) Q E s := by
 obtain ⟨z, hd, vs, rel, dd⟩ := dk_rd I.hok e
 refine call_len_dict hd dd (by rw [← rel.length]; rw [sizeLine_eq] at z; omega) ?_
 rw [← rel.length]
 exact h _ _ (I.tok _)
end
def NoSl (i : Expr) : Prop := ∀ ov iv, subscripted i false ov iv = operate [ov, iv] (getItem ov iv)
theorem subD_of {prog : Program} {w : World} {A : Around} {E : Value → Shared → Prop} {s : Shared} {env : Env} {value slice : Expr} {pos : Pos} {T id : String} {Q : Value → Shared → Prop}
  (hl : typeLookup (.type T) "__getitem__" = pure (some (.builtin id))) (hs : NoSl slice)
  (h : wpAny (model prog w) A (eval value env) (fun o s₁ => wpAny (model prog w) A (eval slice env) (fun i s₂ => s₂.TypeIs o T ∧ wpAny (model prog w) A (getItem o i) Q E s₂) E s₁) E s) :
  wpAny (model prog w) A (eval (.Subscript value slice pos) env) Q E s := by
 refine Subscript_ (wpAny_mono h (fun o s₁ h₁ => wpAny_mono h₁ (fun i s₂ h₂ => ?_) fun _ _ x => x) fun _ _ x => x)
 obtain ⟨hT, h₂⟩ := h₂
 unfold subscriptTail
 refine wpAny_bind ?_
 rw [getitemInPython_of_ne hT.not_modules]
 refine wpAny_bind (wpAny_specialOf hT hl ?_)
 have fin : wpAny (model prog w) A (subscripted slice false o i) (fun r s₃ => wpAny (model prog w) A (letTemporaryGo value o r >>= fun _ => pure r) Q E s₃) E s₂ := by
  rw [hs o i]
  exact wpAny_operating (wpAny_mono h₂ (fun r s₃ h₃ => wpAny_bind (wpAny_letTemporaryGo (wpAny_pure h₃))) fun _ _ x => x)
 first
  | exact wpAny_pure (wpAny_bind fin)
  | exact wpAny_bind (wpAny_pure (wpAny_bind fin))
  | exact wpAny_bind fin
theorem dict_typeIs {X : Cx} {pins : List (Addr × Obj)} {σ : St} {H : Hp} {s : Shared} {a : Addr} {y : V} {o : Option V} (I : Inv X pins σ H s) (g : DGet H a y o) : s.TypeIs (.ref a) "dict" := by
 rcases g with ⟨kvs, k, e, _, _⟩ | ⟨kvs, k, b, e, _, _, _⟩
 ·obtain ⟨_, _, vs, _, dd⟩ := dk_rd I.hok e
  exact dd.typeIs
 ·obtain ⟨_, _, xs, _, dd⟩ := dt_rd I.hok e
  exact dd.typeIs
def tDGet (td ty : TE) : TE := fun σ H Q => td σ H fun x H1 => ty σ H1 fun y H2 => ∃ a v, x = .ref a ∧ DGet H2 a y (some v) ∧ Q v H2
def tDIn (ty td : TE) : TE := fun σ H Q => ty σ H fun y H1 => td σ H1 fun x H2 => ∃ a o, x = .ref a ∧ DGet H2 a y o ∧ Q (.bl o.isSome) H2
def tDNotIn (ty td : TE) : TE := fun σ H Q => ty σ H fun y H1 => td σ H1 fun x H2 => ∃ a o, x = .ref a ∧ DGet H2 a y o ∧ Q (.bl (!o.isSome)) H2
def sDPut (td ty tv : TE) : TS := fun D σ H => tv σ H fun v H1 => td σ H1 fun x H2 => ty σ H2 fun y H3 => ∃ a H4, x = .ref a ∧ DPut H3 a y v H4 ∧ D.nx σ H4
section
variable {X : Cx} {o i e value : Expr} {pos pos' tpos : Pos} {td ty tv : TE}
theorem pe_dget (hu : X.A.units + 1 < cLine) (ho : PE X o td) (hi : PE X i ty) (hs : NoSl i) : PE X (.Subscript o i pos) (tDGet td ty) := by
 intro pins s σ H Q I h
 refine subD_of PySem.F.slot_dict_getitem.lookup hs (thn (ho pins s σ H _ I h) fun u s1 ⟨x, H1, I1, rx, q1⟩ => thn (hi pins s1 σ H1 _ I1 q1) fun iv s2 ⟨y, H2, I2, ry, a, v, ex, g, q2⟩ => ?_)
 subst ex
 obtain rfl : u = Value.ref a := rx
 exact ⟨dict_typeIs I2 g, d_getItem hu I2 g ry fun w' s3 I3 rw' => ⟨v, H2, I3, rw', q2⟩⟩
theorem pc_din (hu : X.A.units + 1 < cLine) (hi : PE X i ty) (ho : PE X o td) : PC X .In i o (tDIn ty td) := by
 intro pins s σ H Q I h
 refine thn (hi pins s σ H _ I h) fun iv s1 ⟨y, H1, I1, ry, q1⟩ => thn (ho pins s1 σ H1 _ I1 q1) fun u s2 ⟨x, H2, I2, rx, a, ov, ex, g, q2⟩ => ?_
 subst ex
 obtain rfl : u = Value.ref a := rx
 exact d_in hu I2 g ry fun s3 I3 => ⟨.bl ov.isSome, H2, I3, rfl, q2⟩
theorem pc_dnotin (hu : X.A.units + 1 < cLine) (hi : PE X i ty) (ho : PE X o td) : PC X .NotIn i o (tDNotIn ty td) := by
 intro pins s σ H Q I h
 refine thn (hi pins s σ H _ I h) fun iv s1 ⟨y, H1, I1, ry, q1⟩ => thn (ho pins s1 σ H1 _ I1 q1) fun u s2 ⟨x, H2, I2, rx, a, ov, ex, g, q2⟩ => ?_
 subst ex
 obtain rfl : u = Value.ref a := rx
 exact d_notIn hu I2 g ry fun s3 I3 => ⟨.bl (!ov.isSome), H2, I3, rfl, q2⟩
theorem ps_dput (hu : X.A.units + 1 < cLine) (ho : PE X o td) (hi : PE X i ty) (hv : PE X value tv) (hs : swapsWith value (some (.Subscript o i pos')) pos.line X.env = pure false) :
  PS X (.Assign [.Subscript o i pos'] value pos) (sDPut td ty tv) := by
 intro pins s σ H D I h
 refine wpAny_Assign_Subscript (thn (hv pins s σ H _ I h) fun r s1 ⟨v, H1, I1, rv, q1⟩ => thn (ho pins s1 σ H1 _ I1 q1) fun u s2 ⟨x, H2, I2, rx, q2⟩ => thn (hi pins s2 σ H2 _ I2 q2) fun iv s3 ⟨y, H3, I3, ry, a, H4, ex, g, q3⟩ => ?_) hs
 subst ex
 obtain rfl : u = Value.ref a := rx
 exact d_setItem hu I3 g ry rv fun s4 I4 => ⟨σ, H4, I4, q3⟩
end
theorem dk_empty {P : Program} {w : World} {H : Hp} (h : Heap) (hb : sysModules < h.objs.size) : ObjOk P w H (h.push { cls := .type "dict", data := .dict #[] }) h.objs.size (.dK []) :=
 ⟨Nat.zero_le _, beq_eq_false_iff_ne.mpr (Ne.symm (Nat.ne_of_lt hb)), [], .nil, Heap.DictOf.new h⟩
theorem dt_empty {P : Program} {w : World} {H : Hp} (h : Heap) (hb : sysModules < h.objs.size) : ObjOk P w H (h.push { cls := .type "dict", data := .dict #[] }) h.objs.size (.dT []) :=
 ⟨Nat.zero_le _, beq_eq_false_iff_ne.mpr (Ne.symm (Nat.ne_of_lt hb)), [], .nil, _, #[], 0, Heap.get?_push_size _ rfl, ⟨rfl, rfl, rfl⟩, rfl, rfl, List.nodup_nil⟩
def tDNewK : TE := fun _ H Q => ∀ p, H p = none → Q (.ref p) (upd H p (.dK []))
def tDNewT : TE := fun _ H Q => ∀ p, H p = none → Q (.ref p) (upd H p (.dT []))
section
variable {X : Cx} {pos : Pos}
theorem pe_dnewK : PE X (.Dict [] [] pos) tDNewK := fun pins s σ H Q I h =>
 wpAny_Dict_empty ⟨.ref s.heap.objs.size, _, I.laid (a := s.heap.objs.size) (o := .dK []) (t' := s.toks) (fun _ _ q => Heap.get?_push_of_some _ q) (Nat.le_refl _) (dk_empty s.heap I.big), rfl, h _ (I.hok.fresh (Nat.le_refl _))⟩
theorem pe_dnewT : PE X (.Dict [] [] pos) tDNewT := fun pins s σ H Q I h =>
 wpAny_Dict_empty ⟨.ref s.heap.objs.size, _, I.laid (a := s.heap.objs.size) (o := .dT []) (t' := s.toks) (fun _ _ q => Heap.get?_push_of_some _ q) (Nat.le_refl _) (dt_empty s.heap I.big), rfl, h _ (I.hok.fresh (Nat.le_refl _))⟩
end
structure M1 (X : Cx) (o : Expr) (m : Str) (apos : Pos) (e : Expr) (cpos : Pos) : Prop where
 base : attributeBase o m X.env (eval o X.env) = eval o X.env
 few : ((backTo cpos (starEach [e] X.env)).all (fun x => !x.1) && (backToKw cpos (keywordEach [] X.env)).all (fun x => x.1.isSome)
  && decide (([e] : List Expr).length + ([] : List Keyword).length + (if ([] : List Keyword).isEmpty then 0 else 1) < 30)) = true
 line : (apos.endLine == cpos.line) = true
 trees : backTo cpos (starEach [e] X.env) = [(false, eval e X.env)]
structure M2 (X : Cx) (o : Expr) (m : Str) (apos : Pos) (e f : Expr) (cpos : Pos) : Prop where
 base : attributeBase o m X.env (eval o X.env) = eval o X.env
 few : ((backTo cpos (starEach [e, f] X.env)).all (fun x => !x.1) && (backToKw cpos (keywordEach [] X.env)).all (fun x => x.1.isSome)
  && decide (([e, f] : List Expr).length + ([] : List Keyword).length + (if ([] : List Keyword).isEmpty then 0 else 1) < 30)) = true
 line : (apos.endLine == cpos.line) = true
 trees : backTo cpos (starEach [e, f] X.env) = [(false, eval e X.env), (false, eval f X.env)]
section
variable {X : Cx} {pins : List (Addr × Obj)} {σ : St} {H : Hp} {s : Shared} {a : Addr} {y d : V} {u r : Value} {o : Option V} {A : Around} {E : Value → Shared → Prop}
end
section
variable {X : Cx} {o e f : Expr} {apos cpos : Pos} {td ty tx : TE}
end
section
variable {X : Cx} {pins : List (Addr × Obj)} {σ : St} {H : Hp} {s : Shared} {a : Addr} {kvs : List (Key × V)} {A : Around} {E : Value → Shared → Prop}
end
section
variable {X : Cx} {pins : List (Addr × Obj)} {σ : St} {H : Hp} {s : Shared} {a : Addr} {y : V} {u : Value} {A : Around} {E : Value → Shared → Prop}
end
end L2
namespace Att
open PySem PySem.W PySem.Calls PyProof.Rows
theorem ints_of_wellAll {P : Params} {h : Heap} : ∀ (ns : List Int) (vs : List Value), WellAll P h vs (ns.map WData.int) → IntsAre vs ns := by
 intro ns
 induction ns with
 | nil =>
  intro vs w
  rw [List.map_nil] at w
  cases w
  exact .nil
 | cons n ns ih =>
  intro vs w
  rw [List.map_cons] at w
  cases w with
  | cons a b =>
   cases a
   exact .cons _ _ (ih _ b)
theorem script_of {l : OpenLaw} {n : Nat} (hn : l.most = some n) {P : Params} {h : Heap} {args : List WData} {vals : List Value}
  (hpre : l.row.toRowW.claim.pre args = true) (hwl : WellAll P h vals args) :
  ∃ a vs ns, vals = [Value.ref a] ∧ args = [WData.list (ns.map WData.int)] ∧ h.get? a = some { cls := .type "list", data := .seq vs.toArray } ∧ IntsAre vs ns ∧ ns.length ≤ n := by
 have hsh : WShape.hasAll [] args [.list .int] = true := (pre_splitW hpre).1
 have hc : l.pre.holds [] { args := args } = true := (pre_splitW hpre).2
 obtain ⟨d, r, rfl, h1, h2⟩ := hasAllW_cons hsh
 obtain rfl := hasAllW_nil h2
 obtain ⟨xs, rfl, h3⟩ := hasW_list h1
 obtain ⟨ns, rfl⟩ := items_int h3
 have hlen : ns.length ≤ n := by
  unfold OpenLaw.pre at hc
  have h4 : (WTm.not (.lt (.lit (.int (n : Int))) (.len (.arg 0)))).holds [] { args := [.list (ns.map .int)] } = true := by
   have h4 := (holds_andW hc).1
   rw [hn] at h4
   exact h4
  have h5 := condW_of h4 (w_not (w_lt w_lit (w_len_list (w_arg rfl))))
  rw [List.length_map] at h5
  refine Nat.le_of_not_lt fun q => ?_
  have q' : (n : Int) < ((ns.length : Nat) : Int) := by omega
  first
   | (rw [decide_eq_true q'] at h5; exact absurd h5 (by decide))
   | (simp at h5; omega)
 cases hwl with
 | cons w1 w2 =>
  cases w2
  cases w1 with
  | list ho hall => exact ⟨_, _, ns, rfl, rfl, ho, ints_of_wellAll ns _ hall, hlen⟩
theorem post_true (l : OpenLaw) (args : List WData) : l.row.toRowW.claim.post args (.bool true) args = true :=
 postW_of (r := l.row.toRowW) (X := (true == true))
  (show WShape.has [] (.bool true) .bool = true by first | rfl | decide | simp [WShape.has, WShape.arms, WShape.armsAll])
  (show (WTm.eq .res (.lit (.bool true))).value [] { args := args, res := some (.bool true), after := args } = some (.bool (true == true)) from w_eq_bool (w_res rfl) w_lit) rfl
theorem attach_call {l : OpenLaw} {n : Nat} {q : Program} {loose : List Str} {XP : (Str → Option Value) → Heap → Prop} {YP : World → Heap → Prop} {d : DefRec}
  (hn : l.most = some n) (hdf : d.params.defaults = [])
  (call : ∀ (w : World) (s₀ s₁ : Shared) (mg mb : Str → Option Value) (fa : Addr) (o : Obj) (pm cd doc : Value) (a : Addr) (vs : List Value) (ns : List Int),
   Ground q loose [] XP w s₀ mg mb s₁.heap → YP w s₁.heap →
   s₁.heap.get? fa = some o → o.data = .func (docDef d.name d.params d.body d.scope pm cd doc) → s₁.heap.CodeRec cd d.name → mg d.name = some (.ref fa) →
   s₁.heap.get? a = some { cls := .type "list", data := .seq vs.toArray } → IntsAre vs ns → ns.length ≤ n → s₁.gens = #[] →
   codeAny (model l.prog w) callerA (.call (.ref fa) ⟨[.ref a], []⟩) (fun r s' => r = .ok (.ret (.bool true)) ∧ OldK s₁.heap s'.heap ∧ s'.os = s₁.os ∧ AllBare s'.gens) s₁) :
  WalkO q loose XP YP l.row.toRowW d [] (fun f vs => PySem.call f vs) := by
 intro w s₀ s₁ mg mb G Y fa o pm cd doc dV kV ho hd hcd hD hmg hg args vals as hpre hlay hrd hwl hlo
 obtain rfl : dV = .none := Dflts.none hD hdf
 obtain rfl : kV = .none := Dflts.noKw hD
 obtain ⟨a, vs, ns, rfl, rfl, hobj, hints, hlen⟩ := script_of hn hpre hwl
 refine enter_call (codeAny_mono (call w s₀ s₁ mg mb fa o pm cd doc a vs ns G Y ho (fd_plain hd) hcd hmg hobj hints hlen hg) fun r s' hq => ?_)
 obtain ⟨rfl, h2, h3, h4⟩ := hq
 exact ⟨.inl ⟨.bool true, .bool true, [], rfl, fun _ => rfl, .bool true, post_true l _, fun _ => ⟨List.Pairwise.nil, fun _ hm => (nomatch hm)⟩⟩, h2, h3, h4⟩
section
variable {prog : Program} {w : World} {A : Around} {E : Value → Shared → Prop} {s : Shared} {K : Frag}
end
end Att
namespace L2
open PySem PySem.Spec PyProof.Rows
theorem vals_ints : ∀ {vs : List Value} {ns : List Int}, IntsAre vs ns → Vals (ns.map V.int) vs
 | _, _, .nil => .nil
 | _, _, .cons n t h => .cons ⟨t, rfl⟩ (vals_ints h)
def Only (H : Hp) : Prop := ∀ b, H b = none ∨ ∃ o xs, H b = some (.frz o (.lst xs))
theorem law_call {P : Program} {w : World} {K : PySem.W.Frag} {mg mb : Str → Option Value} {CX : CXT} {k : Nat} {fa a : Addr} {fd : FuncData} {x : Str} {sp : Sp} {s₁ : Shared} {vs : List Value} {ns : List Int}
  (KX : K.In s₁.heap) (hns : s₁.heap.Ns mainGlobals mg) (hb : s₁.heap.Ns builtinsNs mb) (hbb : ∀ x : Str, x ≠ "__name__" → mb x = bootBuiltins x) (hlim : s₁.heap.NoLimit) (hg : s₁.gens = #[])
  (ha : s₁.heap.get? a = some { cls := .type "list", data := .seq vs.toArray }) (hi : IntsAre vs ns) (hl : ns.length ≤ sizeLine) (hr : Room k callerA)
  (F : ∀ base : Heap, K.In base → base.Ns mainGlobals mg → FnOk P w K mg base CX k fa fd [x] sp) (hbind : ∀ (s : Shared) (u : Value), BindsTo s fd ⟨[u], []⟩ [(x, u)])
  (hsp : ∀ H : Hp, Only H → SqL K H a (ns.map V.int) → sp [.ref a] H (fun v _ => v = .bl true) fun _ _ _ => False)
  (hCX : ∀ H e s', CX [] H s₁ (fun _ _ _ => False) e s' → False) :
  codeAny (model P w) callerA (.call (.ref fa) ⟨[.ref a], []⟩) (fun r s' => r = .ok (.ret (.bool true)) ∧ OldK s₁.heap s'.heap ∧ s'.os = s₁.os ∧ AllBare s'.gens) s₁ := by
 have rv := vals_ints hi
 have lenV := hi.length
 have core : ∀ H : Hp, Only H → SqL K H a (ns.map V.int) → HOk P w H s₁.heap → (∀ b, H b ≠ none → b = a) → (H a ≠ none → K.lookup a = none) →
   codeAny (model P w) callerA (.call (.ref fa) ⟨[.ref a], []⟩) (fun r s' => r = .ok (.ret (.bool true)) ∧ OldK s₁.heap s'.heap ∧ s'.os = s₁.os ∧ AllBare s'.gens) s₁ := by
  intro H hO hS hok hA hK
  have base_of : ∀ {b : Addr} {o : Obj}, s₁.heap.get? b = some o → H b = none → (hidT s₁.heap H).get? b = some o := fun e n => hidT_get e n
  have noA : ∀ {b : Addr} {o : Obj} {es : Array DictEntry} {ep : Nat}, s₁.heap.get? b = some o → o.data = .dict es ep → H b = none := fun {b o es ep} e d => by
   cases q : H b with
   | none => rfl
   | some u =>
    have e' : b = a := hA b (by rw [q]; simp)
    subst e'
    rw [ha] at e; cases e
    have d' : Data.seq vs.toArray _ = Data.dict es ep := d
    cases d'
  have nsK : ∀ {b : Addr} {m : Str → Option Value}, s₁.heap.Ns b m → (hidT s₁.heap H).Ns b m := fun {b m} ⟨o, es, ep, e, d, r⟩ => ⟨o, es, ep, base_of e (noA e d), d, r⟩
  have hKb : K.In (hidT s₁.heap H) := fun b o e => base_of (KX b o e) (by
   cases q : H b with
   | none => rfl
   | some u =>
    have e' : b = a := hA b (by rw [q]; simp)
    subst e'
    rw [hK (by rw [q]; simp)] at e; cases e)
  have hM : Mod K mg (hidT s₁.heap H) := ⟨hKb, nsK hns, ⟨mb, nsK hb, hbb⟩, let ⟨mc, h1, h2⟩ := hlim; ⟨mc, nsK h1, h2⟩⟩
  have e0 : Env0 P w K mg (hidT s₁.heap H) callerA [] s₁ H := ⟨rfl, hM, fun b o e => of_hidT e, Nat.le_of_eq (hidT_size _ _), trivial, fun b hb => absurd (show b ∈ ([] : List Addr) from hb) (by simp), hok, .of_eq hg⟩
  refine codeAny_mono ((F _ hKb (nsK hns)).run callerA [] s₁ H ⟨[.ref a], []⟩ [.ref a] [.ref a] _ _ hr e0 (hbind s₁ (.ref a)) (.cons rfl .nil) (hsp H hO hS)) fun r s' h => ?_
  cases r with
  | error e => exact (hCX H e s' h).elim
  | ok fl =>
   cases fl with
   | next => exact False.elim h
   | brk => exact False.elim h
   | cont => exact False.elim h
   | ret u =>
    obtain ⟨v, H', os, bare, un, hok', r', q⟩ := h
    have q' : v = .bl true := q
    subst q'
    obtain rfl : u = Value.bool true := r'
    refine ⟨rfl, OldK.of_keep fun b o e => ?_, os, bare⟩
    cases q : H b with
    | none => exact un.keep b o e q (by intro z; exact absurd (show b ∈ ([] : List Addr) from z) (by simp)) (by simp)
    | some u =>
     rcases hO b with z | ⟨ob, xs, z⟩
     ·rw [q] at z; cases z
     ·have z2 := un.frzs b ob _ z
      obtain ⟨e1, _⟩ := hok b _ z
      obtain ⟨e2, _⟩ := hok' b _ z2
      rw [e] at e1; cases e1
      exact e2
 cases hk : K.lookup a with
 | some o =>
  have e := KX a o hk
  rw [ha] at e
  cases e
  refine core (fun _ => none) (fun _ => .inl rfl) (.inr ⟨_, vs.toArray, _, hk, rfl, rfl, rfl, by rw [List.size_toArray, lenV]; exact hl, by simpa using rv⟩) (fun b u z => by have z' : (none : Option HO) = some u := z; cases z') (fun b z => absurd rfl z) fun z => absurd rfl z
 | none =>
  refine core (fun b => if b = a then some (.frz { cls := .type "list", data := .seq vs.toArray } (.lst (ns.map V.int))) else none) (fun b => ?_) (.inl (.inr ⟨{ cls := .type "list", data := .seq vs.toArray }, if_pos rfl⟩)) (fun b u z => ?_) (fun b z => ?_) fun _ => hk
  ·by_cases hb : b = a
   ·exact .inr ⟨_, _, if_pos hb⟩
   ·exact .inl (if_neg hb)
  ·by_cases hb : b = a
   ·have z' := (if_pos hb).symm.trans z
    cases z'
    subst hb
    exact ⟨ha, by rw [List.length_map]; exact hl, vs, _, rv, ha⟩
   ·have z' := (if_neg hb).symm.trans z
    cases z'
  ·by_cases hb : b = a
   ·exact hb
   ·exact absurd (if_neg hb) z
end L2
namespace L2
open PySem PySem.Spec PyProof.Rows
theorem walk_of {l : PySem.W.OpenLaw} {n k : Nat} {q : Program} {loose : List Str} {XP : (Str → Option Value) → Heap → Prop} {YP : World → Heap → Prop} {d : DefRec} {K : Params → PySem.W.Frag} {CX : World → CXT} {sp : World → Sp} {x : Str}
  (hn : l.most = some n) (hn2 : n ≤ sizeLine) (hdf : d.params.defaults = []) (hr : Room k callerA)
  (hY : ∀ (w : World) (h : Heap), YP w h → (K w.params).In h)
  (F : ∀ (w : World) (mg : Str → Option Value) (fa : Addr) (h : Heap), (K w.params).In h → h.Ns mainGlobals mg → mg d.name = some (.ref fa) →
   ∃ fd : FuncData, (∀ (s : Shared) (u : Value), BindsTo s fd ⟨[u], []⟩ [(x, u)]) ∧
    ∀ base : Heap, (K w.params).In base → base.Ns mainGlobals mg → FnOk l.prog w (K w.params) mg base (CX w) k fa fd [x] (sp w))
  (hsp : ∀ (w : World) (H : Hp) (a : Addr) (ns : List Int), ns.length ≤ n → Only H → SqL (K w.params) H a (ns.map V.int) → sp w [.ref a] H (fun v _ => v = .bl true) fun _ _ _ => False)
  (hCX : ∀ (w : World) (H : Hp) (s : Shared) (e : Value) (s' : Shared), CX w [] H s (fun _ _ _ => False) e s' → False) :
  PySem.W.WalkO q loose XP YP l.row.toRowW d [] (fun f vs => PySem.call f vs) := by
 refine Att.attach_call hn hdf fun w s₀ s₁ mg mb fa o pm cd doc a vs ns G Y ho hd hcd hmg hobj hints hlen hg => ?_
 have KX := hY w _ Y
 obtain ⟨fd, hb, hF⟩ := F w mg fa _ KX G.T.g hmg
 exact law_call KX G.T.g G.T.b G.T.builtins G.T.nolimit hg hobj hints (Nat.le_trans hlen hn2) hr hF hb (fun H hO hS => hsp w H a ns hlen hO hS) fun H e s' => hCX w H s₁ e s'
end L2
namespace L2
open PySem PySem.Spec PyProof.Rows
def inClass (s : Stmt) (j : Nat) : Stmt := match s with
 | .ClassDef _ _ _ body _ _ _ _ _ _ _ => body.getD j (.Pass ⟨0, 0, 0, 0⟩)
 | _ => .Pass ⟨0, 0, 0, 0⟩
def defArgs (s : Stmt) : Arguments := match s with
 | .FunctionDef _ a _ _ _ _ _ _ _ _ => a
 | _ => { posonlyargs := [], args := [], vararg := none, kwonlyargs := [], kw_defaults := [], kwarg := none, defaults := [] }
def defBody (s : Stmt) : List Stmt := match s with
 | .FunctionDef _ _ b _ _ _ _ _ _ _ => b
 | _ => []
def defScope (s : Stmt) : Scope := match s with
 | .FunctionDef _ _ _ _ _ _ sc _ _ _ => sc
 | _ => { kind := .function, names := [], isGenerator := false, isCoroutine := false }
abbrev CX0 : CXT := fun _ _ _ _ _ _ => False
abbrev E0 : XK := fun _ _ _ => False
theorem pass0 {X : Cx} : Passes CX0 X E0 := fun _ _ _ _ _ _ _ h => h.elim
structure Fun (K : PySem.W.Frag) (x qual : Str) (st : Stmt) (f : Addr) (fd : FuncData) : Prop where
 ex : ∃ (oc : Value) (od : Option Addr) (kV doc pm : Value) (an : Option Addr) (cdv ct : Value) (osl : Array (Option Value)),
  fd = PySem.W.fnOf x qual (defArgs st) (defBody st) (defScope st) .none kV doc pm an cdv ct ∧ K.lookup f = some ⟨oc, od, .func fd, osl⟩ ∧ PySem.W.codeIn K cdv qual = true
 kp : PySem.W.keepIn K (.ref f) = true
section
variable {P : Program} {w : World} {K : PySem.W.Frag} {mg : Str → Option Value} {base : Heap}
theorem Fun.ok {x qual : Str} {st : Stmt} {f : Addr} {fd : FuncData} {N ps : List Str} {k : Nat} {sp : Sp} (F : Fun K x qual st f fd) (S : FnScope N ps (defScope st)) (len : ∀ vs H Q E, sp vs H Q E → vs.length = ps.length)
  (hbody : ∀ (cdv : Value) (A : Around) (outer : List Env) (s : Shared) (H : Hp) (vs : List V) (Q : VK) (E : XK), Room k (A.deeper (envOfC qual (defScope st) s.heap.objs.size f cdv)) → sp vs H Q E →
   ∃ t, PSs (cxOf CX0 P w K mg base N qual (defScope st) f cdv A outer s H E).nox (defBody st) t ∧ t { nx := fun _ H' => Q .non H', rt := Q } (start N vs) H) : FnOk P w K mg base CX0 (k + 1) f fd ps sp := by
 obtain ⟨oc, od, kV, doc, pm, an, cdv, ct, osl, rfl, lk, hcd⟩ := F.ex
 refine fn_of lk hcd S len fun A outer s H vs Q E hr hsp => ?_
 obtain ⟨t, h, q⟩ := hbody cdv A outer s H vs Q E hr hsp
 exact ⟨t, h.nox, q⟩
theorem Fun.binds {x qual : Str} {st : Stmt} {f : Addr} {fd : FuncData} {ps : List Str} (F : Fun K x qual st f fd)
  (h : ∀ (kV doc pm : Value) (an : Option Addr) (cdv ct : Value) (us : List Value), us.length = ps.length → bindArgs (PySem.W.fnOf x qual (defArgs st) (defBody st) (defScope st) .none kV doc pm an cdv ct) ⟨us, []⟩ = pure (ps.zip us)) : Binds K fd ps [] := by
 obtain ⟨oc, od, kV, doc, pm, an, cdv, ct, osl, rfl, lk, hcd⟩ := F.ex
 exact .all (h kV doc pm an cdv ct)
theorem fun_mk {x qual : Str} {st : Stmt} {f : Addr} {oc : Value} {od an : Option Addr} {osl : Array (Option Value)} {kV doc pm cdv ct : Value} (l : K.lookup f = some ⟨oc, od, .func (PySem.W.fnOf x qual (defArgs st) (defBody st) (defScope st) .none kV doc pm an cdv ct), osl⟩)
  (c : PySem.W.codeIn K cdv qual = true) (k : PySem.W.keepIn K (.ref f) = true) : Fun K x qual st f (PySem.W.fnOf x qual (defArgs st) (defBody st) (defScope st) .none kV doc pm an cdv ct) := ⟨⟨oc, od, kV, doc, pm, an, cdv, ct, osl, rfl, l, c⟩, k⟩
end
theorem hu_of {A : Around} {k : Nat} (hr : Room k A) : A.units + 1 < cLine := Nat.lt_of_le_of_lt (Nat.add_le_add_left (by decide : 1 ≤ 64) _) hr.units
theorem small1000 {n : Nat} (h : n ≤ 1000) : n < sizeLine := Nat.lt_of_le_of_lt h (by decide)
section
variable {X : Cx}
theorem pv (i : Nat) {x : Str} {pos : Pos} (hN : X.N[i]? = some x := by rfl) (hv : Vis X.env.scope x := by first | exact Or.inl rfl | exact Or.inr (Or.inl rfl) | exact Or.inr (Or.inr rfl)) (hd : (x == ("__debug__" : Str)) = false := by decide)
  (hcd : (x == ("__classdict__" : Str)) = false := by decide) : PE X (.Name x pos) (tVar i) := pe_var hN hv hd hcd
theorem call_lenD : CallR X (.builtin "len") (fun xs H Q => ∃ a kvs, xs = [V.ref a] ∧ H a = some (.dK kvs) ∧ Q (.int kvs.length) H) := by
 intro pins s σ H xs us Q I r h
 obtain ⟨a, kvs, rfl, ha, q⟩ := h
 obtain ⟨u, rfl, ru⟩ := vals1 r
 cases ru
 exact d_len I (.inl ha) fun t s' I' => ⟨.int kvs.length, H, I', ⟨t, rfl⟩, q⟩
end
theorem iteF {A B : Prop} (h : B) : if false = true then A else B := by
 rw [if_neg Bool.false_ne_true]
 exact h
theorem iteT {A B : Prop} (h : A) : if true = true then A else B := by
 rw [if_pos rfl]
 exact h
theorem ite2 {c A B : Prop} [Decidable c] (h1 : c → A) (h2 : ¬ c → B) : if c then A else B := by
 by_cases h : c
 ·rw [if_pos h]
  exact h1 h
 ·rw [if_neg h]
  exact h2 h
def Same (H H' : Hp) : Prop := ∀ b o, H b = some o → H' b = some o
theorem Same.trans {H H1 H2 : Hp} (a : Same H H1) (b : Same H1 H2) : Same H H2 := fun c o h => b c o (a c o h)
theorem Same.seq {K : PySem.W.Frag} {H H' : Hp} {a : Addr} {xs : List V} (e : Same H H') (h : SqL K H a xs) : SqL K H' a xs := by
 rcases h with (h | ⟨o, h⟩) | h
 ·exact .inl (.inl (e _ _ h))
 ·exact .inl (.inr ⟨o, e _ _ h⟩)
 ·exact .inr h
section
variable {κ : Type} [DecidableEq κ]
end
end L2
set_option maxHeartbeats 4000000
namespace L2
open PySem PySem.Spec PyProof.Rows
def closL (cells : List (Str × Addr)) : List (Str × NameKind) → List (Str × Addr) → List (Str × Addr)
 | [], cs => cs
 | (n, k) :: r, cs => if (k == NameKind.free) = true then closL cells r ((n, (cells.lookup n).getD 0) :: cs) else closL cells r cs
theorem closL_mem {cells : List (Str × Addr)} : ∀ {names : List (Str × NameKind)} {cs : List (Str × Addr)}, (∀ x ∈ names, x.2 = .free → ∃ c, cells.lookup x.1 = some c) → (∀ p ∈ cs, cells.lookup p.1 = some p.2) →
  ∀ p ∈ closL cells names cs, cells.lookup p.1 = some p.2
 | [], _, _, h, p, hp => h p hp
 | (n, k) :: r, cs, hn, h, p, hp => by
  unfold closL at hp
  have hr : ∀ x ∈ r, x.2 = .free → ∃ c, cells.lookup x.1 = some c := fun x hx => hn x (List.mem_cons_of_mem _ hx)
  by_cases hk : (k == NameKind.free) = true
  ·rw [if_pos hk] at hp
   refine closL_mem hr (fun q hq => ?_) p hp
   rcases List.mem_cons.mp hq with e | hq
   ·obtain ⟨c, hc⟩ := hn (n, k) List.mem_cons_self (by simpa using hk)
    have hc' : cells.lookup n = some c := hc
    subst e
    show cells.lookup n = some ((cells.lookup n).getD 0)
    rw [hc']; rfl
   ·exact h q hq
  ·rw [if_neg hk] at hp
   exact closL_mem hr h p hp
theorem closL_keeps {cells : List (Str × Addr)} {p : Str × Addr} : ∀ {names : List (Str × NameKind)} {cs : List (Str × Addr)}, p ∈ cs → p ∈ closL cells names cs
 | [], _, h => h
 | (n, k) :: r, cs, h => by
  unfold closL
  split
  ·exact closL_keeps (List.mem_cons_of_mem _ h)
  ·exact closL_keeps h
theorem closL_has {cells : List (Str × Addr)} {x : Str} : ∀ {names : List (Str × NameKind)} {cs : List (Str × Addr)}, (x, NameKind.free) ∈ names → ∃ c, (x, c) ∈ closL cells names cs
 | [], _, h => nomatch h
 | (n, k) :: r, cs, h => by
  unfold closL
  rcases List.mem_cons.mp h with e | h
  ·cases e
   rw [if_pos (show (NameKind.free == NameKind.free) = true from rfl)]
   exact ⟨_, closL_keeps List.mem_cons_self⟩
  ·split
   ·exact closL_has h
   ·exact closL_has h
theorem lookup_of_mem {α β : Type} [BEq α] [LawfulBEq α] {x : α} {c : β} : ∀ {l : List (α × β)}, (x, c) ∈ l → ∃ d, l.lookup x = some d
 | [], h => nomatch h
 | (y, d) :: r, h => by
  rw [List.lookup_cons]
  cases e : x == y with
  | true => exact ⟨d, rfl⟩
  | false =>
   rcases List.mem_cons.mp h with z | h
   ·cases z; rw [beq_self_eq_true] at e; cases e
   ·exact lookup_of_mem h
theorem closureFor_closL {scope : Scope} {env : Env} (h : ∀ x ∈ scope.names, x.2 = .free → ∃ c, env.cells.lookup x.1 = some c) : closureFor scope env = pure (closL env.cells scope.names []) := by
 have key : ∀ (names : List (Str × NameKind)) (cs : List (Str × Addr)), (∀ x ∈ names, x.2 = .free → ∃ c, env.cells.lookup x.1 = some c) →
   (forIn names cs fun x r => if (x.2 == NameKind.free) = true then (do let c ← cellOf env x.1; pure (ForInStep.yield ((x.1, c) :: r))) else pure (ForInStep.yield r) : Sem (List (Str × Addr))) = pure (closL env.cells names cs) := by
  intro names
  induction names with
  | nil => intro cs _; rfl
  | cons x r ih =>
   intro cs hn
   obtain ⟨n, k⟩ := x
   rw [List.forIn_cons]
   unfold closL
   have hr : ∀ x ∈ r, x.2 = .free → ∃ c, env.cells.lookup x.1 = some c := fun x hx => hn x (List.mem_cons_of_mem _ hx)
   by_cases hk : (k == NameKind.free) = true
   ·obtain ⟨c, hc⟩ := hn (n, k) List.mem_cons_self (by simpa using hk)
    have hc' : env.cells.lookup n = some c := hc
    have e : cellOf env n = pure c := by unfold cellOf; rw [hc']
    dsimp only
    rw [if_pos hk, if_pos hk, e, pure_bind, pure_bind, hc']
    exact ih _ hr
   ·dsimp only
    rw [if_neg hk, if_neg hk, pure_bind]
    exact ih _ hr
 have e := key scope.names [] h
 simp only [closureFor, bind_pure]
 exact e
theorem lookup_relabel {env : Env} {x : Str} : ∀ (names : List (Str × NameKind)),
  (names.map fun (n, k) => if (k == NameKind.free && env.scope.kind == .function && env.kindOf n == some .cell) then (n, NameKind.cell) else (n, k)).lookup x =
   (names.lookup x).map fun k => if (k == NameKind.free && env.scope.kind == .function && env.kindOf x == some .cell) then NameKind.cell else k
 | [] => rfl
 | (n, k) :: r => by
  have ih := lookup_relabel (env := env) (x := x) r
  show List.lookup x ((if (k == NameKind.free && env.scope.kind == .function && env.kindOf n == some .cell) = true then (n, NameKind.cell) else (n, k)) :: _) = _
  cases hx : x == n with
  | true =>
   have e : x = n := eq_of_beq hx
   subst e
   by_cases hc : (k == NameKind.free && env.scope.kind == .function && env.kindOf x == some .cell) = true
   ·rw [if_pos hc]; simp only [List.lookup_cons, hx, Option.map_some, hc, if_true]
   ·rw [if_neg hc]; simp only [List.lookup_cons, hx, Option.map_some, hc]; rfl
  | false =>
   by_cases hc : (k == NameKind.free && env.scope.kind == .function && env.kindOf n == some .cell) = true
   ·rw [if_pos hc]; simp only [List.lookup_cons, hx]; exact ih
   ·rw [if_neg hc]; simp only [List.lookup_cons, hx]; exact ih
def hid (xs : List Str) (y : Str) : Str := if xs.contains y then y ++ ("#" : Str) else y
def blkN (xs N : List Str) : List Str := xs ++ N.map (hid xs)
structure BlkScope (X : Cx) (xs : List Str) (sc : Scope) : Prop where
 kind : sc.kind = .function
 nocell : ∀ y ∈ sc.names, y.2 ≠ .cell
 locs : ∀ y ∈ sc.names, y.2 = .local → sc.names.lookup y.1 = some .local
 own : ∀ y ∈ sc.names, y.2 = .local → y.1 ∈ xs ∨ y.1 = (".0" : Str)
 free : ∀ y ∈ sc.names, y.2 = .free → X.env.kindOf y.1 = some .cell ∨ X.env.kindOf y.1 = some .free
 nohid : ∀ y ∈ X.N, sc.names.lookup (y ++ ("#" : Str)) = none
 nodot : (".0" : Str) ∉ X.N
def blk (X : Cx) (pins : List (Addr × Obj)) (xs : List Str) (sc : Scope) (C : Addr) (fp : List Addr) (s3 : Shared) (H3 : Hp) : Cx where
 prog := X.prog
 w := X.w
 K := X.K
 mg := X.mg
 base := X.base
 A := X.A
 N := blkN xs X.N
 s₀ := s3
 H₀ := H3
 env := compEnvC sc (closL X.env.cells sc.names []) C X.env
 outer := X.stack
 stack := X.stack
 ex := fp
 fn := fun _ => false
 calm := true
 pn := X.pn ++ pins
 xe := fun _ _ => False
def blkσ (xs : List Str) (σ : St) : St := List.replicate xs.length none ++ σ
theorem mem_of_lookup' {α β : Type} [BEq α] [LawfulBEq α] {x : α} {c : β} : ∀ {l : List (α × β)}, l.lookup x = some c → (x, c) ∈ l
 | [], h => nomatch h
 | (y, d) :: r, h => by
  rw [List.lookup_cons] at h
  cases e : x == y with
  | true => rw [e] at h; cases h; rw [eq_of_beq e]; exact List.mem_cons_self
  | false => rw [e] at h; exact List.mem_cons_of_mem _ (mem_of_lookup' h)
section
variable {X : Cx} {pins : List (Addr × Obj)} {xs : List Str} {sc : Scope} {σ : St} {H : Hp} {s : Shared}
theorem BlkScope.cells (B : BlkScope X xs sc) (ok : X.Ok) : ∀ y ∈ sc.names, y.2 = .free → ∃ c, X.env.cells.lookup y.1 = some c := fun y hy e => ok.has y.1 (B.free y hy e)
theorem BlkScope.sub (B : BlkScope X xs sc) (ok : X.Ok) {y : Str} {c : Addr} (h : (closL X.env.cells sc.names []).lookup y = some c) : X.env.cells.lookup y = some c :=
 closL_mem (cells := X.env.cells) (names := sc.names) (cs := []) (B.cells ok) (fun p hp => nomatch hp) (y, c) (mem_of_lookup' h)
theorem BlkScope.kindF (B : BlkScope X xs sc) {y : Str} (h : Vis (relabel sc X.env) y) : sc.names.lookup y = some .local ∨ sc.names.lookup y = some .free := by
 have e : (relabel sc X.env).names.lookup y = (sc.names.lookup y).map _ := lookup_relabel (env := X.env) (x := y) sc.names
 cases q : sc.names.lookup y with
 | none =>
  rw [q] at e
  rcases h with h | h | h <;> rw [e] at h <;> cases h
 | some k =>
  cases k with
  | «local» => exact .inl rfl
  | free => exact .inr rfl
  | cell => exact absurd rfl (B.nocell _ (mem_of_lookup' q))
  | globalImplicit => rw [q] at e; rcases h with h | h | h <;> rw [e] at h <;> cases h
  | globalExplicit => rw [q] at e; rcases h with h | h | h <;> rw [e] at h <;> cases h
theorem BlkScope.kindC (B : BlkScope X xs sc) {y : Str} (h : sc.names.lookup y = some .free) : (relabel sc X.env).names.lookup y = some .cell ∨ (relabel sc X.env).names.lookup y = some .free := by
 have e : (relabel sc X.env).names.lookup y = (sc.names.lookup y).map _ := lookup_relabel (env := X.env) (x := y) sc.names
 rw [h] at e
 by_cases hc : ((NameKind.free == NameKind.free) && X.env.scope.kind == .function && X.env.kindOf y == some .cell) = true
 ·left; rw [e]; show some (if _ then _ else _) = _; rw [if_pos hc]
 ·right; rw [e]; show some (if _ then _ else _) = _; rw [if_neg hc]
theorem BlkScope.ofC (B : BlkScope X xs sc) {y : Str} (h : (relabel sc X.env).names.lookup y = some .cell ∨ (relabel sc X.env).names.lookup y = some .free) : sc.names.lookup y = some .free := by
 have v : Vis (relabel sc X.env) y := .inr h
 rcases B.kindF v with q | q
 ·have e : (relabel sc X.env).names.lookup y = (sc.names.lookup y).map _ := lookup_relabel (env := X.env) (x := y) sc.names
  rw [q] at e
  rcases h with h | h <;> rw [e] at h <;> cases h
 ·exact q
theorem blk_start {fp : List Addr} {h1 : Heap} {tk : Nat} {m : Str → Option Value} (hcalm : X.calm = true) (B : BlkScope X xs sc) (I : Inv X pins σ H s) (hf : ∀ b ∈ fp, FpOk X pins H b) (hfl : ∀ b ∈ fp, b < s.heap.objs.size)
  (hn : h1.Ns (s.heap.objs.size + 1) m) (hk : ∀ b o, (s.heap.push { cls := .type "list", data := .seq ([] : List Value).toArray }).get? b = some o → h1.get? b = some o) :
  Inv (blk X pins xs sc (s.heap.objs.size + 1) fp { s with heap := s.heap.push { cls := .type "list", data := .seq ([] : List Value).toArray } } (upd H s.heap.objs.size (.lst []))) [] (blkσ xs σ)
   (upd H s.heap.objs.size (.lst [])) { s with heap := h1, toks := tk } := by
 have hsz : (s.heap.push { cls := .type "list", data := .seq ([] : List Value).toArray }).objs.size = s.heap.objs.size + 1 := Heap.size_push ..
 have lt : ∀ b o, s.heap.get? b = some o → b < s.heap.objs.size := fun b o e => Heap.lt_size e
 have updF : ∀ b, b < s.heap.objs.size → upd H s.heap.objs.size (.lst []) b = H b := fun b hb => upd_ne (Nat.ne_of_lt hb)
 have cl : ∀ x c, X.env.cells.lookup x = some c → c < s.heap.objs.size := fun x c e => by obtain ⟨v, q⟩ := I.cell x c e; exact q.lt
 have frlt : ∀ b ∈ frs X.stack, b < s.heap.objs.size := fun b hb => by
  rcases List.mem_cons.mp (I.stkSub b hb) with e | z
  ·rw [e]; exact I.lt
  ·exact Nat.lt_of_not_le fun z' => I.nofs z' z
 have pushK : ∀ b o, s.heap.get? b = some o → (s.heap.push { cls := .type "list", data := .seq ([] : List Value).toArray }).get? b = some o := fun b o e => Heap.get?_push_of_some _ e
 have hk0 : ∀ b o, s.heap.get? b = some o → h1.get? b = some o := fun b o e => hk b o (pushK b o e)
 have fresh : ∀ b, s.heap.objs.size ≤ b → H b = none := fun b hb => I.hok.fresh hb
 refine ⟨⟨I.ok.mod, B.kind, I.ok.glob, I.ok.blt, ?_, fun x y c h1 h2 => ?_, fun x hx => ?_, fun x c hx => ?_, fun _ => I.ok.hd hcalm, I.ok.frames, .inl rfl, fun b hb => ⟨?_, fun x c e => ?_⟩, fun b o e => ⟨?_, ?_⟩, ?_, fun b o e hb => ?_, fun b hb hfr => ?_, ?_, fun b hb => ?_⟩,
  rfl, I.bare, Un.kept hk, ⟨m, hn, fun i x v e1 e2 e3 => ?_⟩, fun x c e => ?_, ?_, fun x c e => ?_, fun p hp => ?_, ?_, ?_⟩
 ·show (s.heap.push { cls := .type "list", data := .seq ([] : List Value).toArray }).objs.size ≤ s.heap.objs.size + 1
  rw [hsz]; exact Nat.le_refl _
 ·exact I.ok.inj x y c (B.sub I.ok h1) (B.sub I.ok h2)
 ·have q := B.ofC (y := x) hx
  obtain ⟨c, hc⟩ := closL_has (cells := X.env.cells) (cs := []) (mem_of_lookup' q)
  exact lookup_of_mem hc
 ·exact absurd hx (by show ¬ (false = true); decide)
 ·exact Nat.ne_of_lt (Nat.lt_succ_of_lt (hfl b hb))
 ·exact (hf b hb).2.2.2.2.1 x c (B.sub I.ok e)
 ·exact pushK b o (I.bk b o e)
 ·show upd H s.heap.objs.size (.lst []) b = none
  rw [updF b (lt b o (I.bk b o e))]; exact (I.bs b o e).2
 ·show X.base.objs.size ≤ (s.heap.push { cls := .type "list", data := .seq ([] : List Value).toArray }).objs.size
  rw [hsz]; exact Nat.le_succ_of_le (Nat.le_trans I.ok.bsz I.sz)
 ·rcases (hf b hb).2.2.2.1 with z | z
  ·exact I.ok.noex b o e z
  ·have := Heap.lt_size e
   exact absurd (Nat.lt_of_lt_of_le this (Nat.le_trans I.ok.bsz z)) (Nat.lt_irrefl _)
 ·rcases List.mem_cons.mp (I.stkSub b hfr) with e | z
  ·exact (hf b hb).2.1 e
  ·exact (hf b hb).2.2.1 z
 ·exact Heap.FunFrames.of_keeps (fun b o e _ => ⟨o, pushK b o e, rfl⟩) I.stack
 ·show upd H s.heap.objs.size (.lst []) b = none
  rw [updF b (frlt b hb)]; exact I.stkFree b hb
 ·have hi : xs.length ≤ i := by
   rcases Nat.lt_or_ge i xs.length with z | z
   ·unfold blkσ at e2
    rw [List.getElem?_append_left (by simpa using z), List.getElem?_replicate, if_pos z] at e2
    cases e2
   ·exact z
  have e2' : σ[i - xs.length]? = some (some v) := by
   unfold blkσ at e2
   rw [List.getElem?_append_right (by simpa using hi), List.length_replicate] at e2
   exact e2
  have e1' : (X.N.map (hid xs))[i - xs.length]? = some x := by
   have q : (blkN xs X.N)[i]? = some x := e1
   unfold blkN at q
   rw [List.getElem?_append_right hi] at q
   exact q
  rw [List.getElem?_map] at e1'
  cases eN : X.N[i - xs.length]? with
  | none => rw [eN] at e1'; cases e1'
  | some y =>
   rw [eN] at e1'
   have ey : hid xs y = x := Option.some.inj e1'
   have hy : y ∈ X.N := List.mem_of_getElem? eN
   have kf := B.kindF (y := x) e3
   unfold hid at ey
   by_cases hc : xs.contains y = true
   ·rw [if_pos hc] at ey
    rw [← ey, B.nohid y hy] at kf
    rcases kf with z | z <;> cases z
   ·rw [if_neg hc] at ey
    subst ey
    rcases kf with z | z
    ·rcases B.own (y, .local) (mem_of_lookup' z) rfl with q | q
     ·exact absurd (List.contains_iff_mem.mpr q) hc
     ·exact absurd (show (".0" : Str) ∈ X.N from q ▸ hy) B.nodot
    ·have kk := B.free (y, .free) (mem_of_lookup' z) rfl
     obtain ⟨m0, hn0, hl0⟩ := I.loc
     obtain ⟨u, ru, lk⟩ := hl0 _ y v eN e2' (.inr kk)
     refine ⟨u, ru, ?_⟩
     rcases lk with ⟨kl, _⟩ | ⟨_, c, ec, zc⟩
     ·rcases kk with kk | kk
      ·rw [show X.env.kindOf y = some .local from kl] at kk; cases kk
      ·rw [show X.env.kindOf y = some .local from kl] at kk; cases kk
     ·obtain ⟨c1, hc1⟩ := closL_has (cells := X.env.cells) (cs := []) (mem_of_lookup' z)
      obtain ⟨c2, hc2⟩ := lookup_of_mem hc1
      have hc3 := B.sub I.ok hc2
      rw [ec] at hc3
      cases hc3
      obtain ⟨oc, hoc, hdc⟩ := zc
      exact .inr ⟨B.kindC z, c, hc2, oc, hk0 c oc hoc, hdc⟩
 ·obtain ⟨v, oc, hoc, hdc⟩ := I.cell x c (B.sub I.ok e)
  exact ⟨v, oc, hk0 c oc hoc, hdc⟩
 ·show upd H s.heap.objs.size (.lst []) (s.heap.objs.size + 1) = none
  rw [upd_ne (Nat.succ_ne_self _)]; exact fresh _ (Nat.le_succ _)
 ·have e' := B.sub I.ok e
  rw [updF c (cl x c e')]; exact I.freeC x c e'
 ·have hp' : p ∈ X.pn ++ pins := by
   rcases List.mem_append.mp hp with z | z
   ·exact z
   ·exact nomatch z
  obtain ⟨q1, q2, q3, q4, q5⟩ := I.pin p hp'
  refine ⟨hk0 _ _ q1, by rw [updF _ (lt _ _ q1)]; exact q2, ?_, fun z => ?_, q5⟩
  ·exact Nat.ne_of_lt (Nat.lt_succ_of_lt (lt _ _ q1))
  ·rcases List.mem_cons.mp (I.stkSub _ z) with e | z
   ·exact q3 e
   ·exact q4 z
 ·refine I.hok.laid hk0 (Nat.le_refl _) ?_
  exact ⟨Nat.zero_le _, [], 0, .nil, hk _ _ (Heap.get?_push_size _ rfl)⟩
 ·show (blkσ xs σ).length = (blkN xs X.N).length
  unfold blkσ blkN
  rw [List.length_append, List.length_append, List.length_replicate, List.length_map, I.len]
theorem blk_end {fp : List Addr} {s' : Shared} {σ' : St} {H' : Hp} (I : Inv X pins σ H s) (hf : ∀ b ∈ fp, FpOk X pins H b)
  (J : Inv (blk X pins xs sc (s.heap.objs.size + 1) fp { s with heap := s.heap.push { cls := .type "list", data := .seq ([] : List Value).toArray } } (upd H s.heap.objs.size (.lst []))) [] σ' H' s') :
  Inv X pins σ H' s' := by
 have u1 : Un (frs X.stack) fp H (upd H s.heap.objs.size (.lst [])) s.heap (s.heap.push { cls := .type "list", data := .seq ([] : List Value).toArray }) :=
  Un.laid (fun b o e => Heap.get?_push_of_some _ e) (Nat.le_refl _) (I.hok.fresh (Nat.le_refl _))
 have u2 : Un (frs X.stack) fp (upd H s.heap.objs.size (.lst [])) H' (s.heap.push { cls := .type "list", data := .seq ([] : List Value).toArray }) s'.heap := J.base
 exact I.call' (s' := s') (ch := fp) J.os (u1.trans u2) J.hok J.bare fun b hb => ⟨(hf b hb).2.2.2.1, (hf b hb).2.1, (hf b hb).2.2.2.2.1, (hf b hb).2.2.2.2.2⟩
theorem blk_gone {fp : List Addr} {s' s'' : Shared} {σ' σ2 : St} {H' H2 : Hp} {h' : Heap} (I : Inv X pins σ H s)
  (hC : H2 (s.heap.objs.size + 1) = none) (I2 : Inv X pins σ2 H2 s'') (hs : Heap.SameBut (s.heap.objs.size + 1) s''.heap h') : Inv X pins σ2 H2 { s'' with heap := h' } := by
 have hL : s.heap.objs.size + 1 ≠ X.env.locals := Nat.ne_of_gt (Nat.lt_succ_of_lt I.lt)
 refine I2.turned (t' := s''.toks) (it := s.heap.objs.size + 1) (fun b o hb e => (hs.2 b hb).trans e) hC hL (.inr (Nat.le_succ_of_le I.sz)) (fun x c e => ?_) fun p hp => ?_
 ·obtain ⟨v, q⟩ := I.cell x c e
  exact Nat.ne_of_lt (Nat.lt_succ_of_lt q.lt)
 ·exact Nat.ne_of_lt (Nat.lt_succ_of_lt (Heap.lt_size (I.pin p hp).1))
end
def PIf (X : Cx) (ifs : List Expr) (t : TT) : Prop :=
 ∀ (pins : List (Addr × Obj)) (s : Shared) (σ : St) (H : Hp) (Q : Bool → Hp → Prop), Inv X pins σ H s → t σ H Q →
  wpAny (model X.prog X.w) X.A (forIn ifs true fun c r => if r = true then do let ok ← isTrue c X.env (eval c X.env); pure (ForInStep.yield ok) else pure (ForInStep.yield r)) (TP X pins σ Q) X.xe s
def tTrue : TT := fun _ H Q => Q true H
theorem pif_nil {X : Cx} : PIf X [] tTrue := fun _ _ _ H _ I h => wpAny_tests_nil ⟨H, I, h⟩
theorem pif_one {X : Cx} {c : Expr} {t : TT} (h : PT X c t) : PIf X [c] t := fun pins s σ H Q I q => wpAny_tests_one (h pins s σ H Q I q)
def tTurns (J : It) (g : TG) (tc : TT) (te : TE) (D : Addr) (Q : Hp → Prop) (σ : St) (H : Hp) : Prop :=
 ∃ W : Nat → Nat → St → Hp → Prop, (∃ m, W 0 m σ H) ∧ ∀ i m σ H, W i m σ H →
  (J.stop i H ∧ Q H) ∨ (J.go i H ∧ ∃ N : St → Hp → Prop, (∀ σ' H', N σ' H' → ∃ m', m' < m ∧ W (i + 1) m' σ' H') ∧ ∀ x H', J.yld i H x H' → g x σ H' fun σ2 H2 => tc σ2 H2 fun b H3 =>
   if b = true then te σ2 H3 fun v H4 => ∃ ys, H4 D = some (.lst ys) ∧ ys.length < sizeLine ∧ N σ2 (upd H4 D (.lst (ys ++ [v]))) else N σ2 H3)
theorem comp_loop {P : Program} {w : World} {K : PySem.W.Frag} {Y : Cx} (hP : Y.prog = P) (hw : Y.w = w) (hK : Y.K = K) {tg iter elt : Expr} {ifs : List Expr} {scope : Scope} {pos : Pos} {J : It} {fp : List Addr} {it D : Addr} {tn : Nat → Heap → Prop} {g : TG} {tc : TT} {te : TE}
  {Q : Hp → Prop} {R : Result → Shared → Prop} {s : Shared} {σ : St} {H : Hp}
  (hcalm : Y.calm = true) (hx : Y.xe = fun _ _ => False) (T : Turn P w K tg J fp it tn) (hg : PG Y tg g) (hc : PIf Y ifs tc) (he : PE Y elt te) (I : Inv Y [] σ H s) (st : tn 0 s.heap) (hf : ∀ b ∈ fp, FpOk Y [] H b) (h : tTurns J g tc te D Q σ H)
  (hR : ∀ σ' H' s', Inv Y [] σ' H' s' → Q H' → R (.ok .next) s') :
  codeAny (model P w) Y.A (.compLoop (.ListComp elt [⟨tg, iter, ifs, 0⟩] scope pos) 0 (.ref it) (.ref D) Y.env) R s := by
 subst hP hw hK
 obtain ⟨W, ⟨m0, w0⟩, turn⟩ := h
 have stat : ∀ {H' : Hp}, (∀ b ∈ fp, H' b = none) → ∀ b ∈ fp, FpOk Y [] H' b := fun hn b hb => ⟨hn b hb, (hf b hb).2⟩
 have no : ∀ {α : Type} {t : Sem α} {Qa : α → Shared → Prop} {E : Value → Shared → Prop} {s : Shared}, wpAny (model Y.prog Y.w) Y.A t Qa Y.xe s → wpAny (model Y.prog Y.w) Y.A t Qa E s := fun z => wpAny_mono z (fun _ _ q => q) fun _ _ q => by rw [hx] at q; exact q.elim
 refine codeAny_loop rfl (fun n s' => ∃ i σ' H', Inv Y [] σ' H' s' ∧ tn i s'.heap ∧ (∀ b ∈ fp, H' b = none) ∧ W i n σ' H') ?_ m0 ⟨0, σ, H, I, st, fun b hb => (hf b hb).1, w0⟩
 rintro n s3 ⟨i, σ3, H3, I3, st3, fr3, w3⟩
 show wpAny _ Y.A ((compTurn (.ListComp elt [⟨tg, iter, ifs, 0⟩] scope pos) 0 (.ref it) (.ref D) Y.env).onRaise (fun x => do noteFrame x Y.env; theTreesLotGoes x)) _ _ s3
 refine wpAny_noted ?_
 rw [compTurn_list]
 refine wpAny_bind (wpAny_standAt (wpAny_bind ?_))
 rcases turn i n σ3 H3 w3 with ⟨stop, qn⟩ | ⟨go, N, hN, step⟩
 ·refine wpAny_mono (T.done Y rfl rfl rfl hcalm i [] s3 σ3 H3 _ I3 (stat fr3) st3 stop) (fun r s4 ⟨hr, I4⟩ => ?_) fun _ _ q => q
  subst hr
  exact wpAny_pure (hR σ3 H3 s4 I4 qn)
 ·refine wpAny_mono (T.item Y rfl rfl rfl hcalm i [] s3 σ3 H3 _ I3 (stat fr3) st3 go) (fun r s4 ⟨u, hr, h4⟩ => ?_) fun _ _ q => q
  subst hr
  refine wpAny_bind (wpAny_mono h4 (fun _ s5 ⟨x, H5, I5, r5, y5, st5, fr5⟩ => ?_) fun _ _ q => q)
  have I5' := I5.pinned (stat fr5) (T.obj _ _ st5)
  have again : ∀ {s7 : Shared} {σ7 : St} {H7 : Hp}, Inv Y ([] ++ pinsAt fp s5.heap) σ7 H7 s7 → N σ7 H7 → ∃ m, m < n ∧ ∃ i σ' H', Inv Y [] σ' H' s7 ∧ tn i s7.heap ∧ (∀ b ∈ fp, H' b = none) ∧ W i m σ' H' := fun {s7 σ7 H7} I7 n7 => by
   obtain ⟨m', hm, w7⟩ := hN σ7 H7 n7
   refine ⟨m', hm, i + 1, σ7, H7, I7.unpinned, T.keep _ _ _ st5 fun b hb o e => (I7.pin (b, o) (List.mem_append_right _ (List.mem_append_right _ (mem_pinsAt hb e)))).1, fun b hb => ?_, w7⟩
   obtain ⟨o, e, d⟩ := T.obj _ _ st5 b hb
   exact (I7.pin (b, o) (List.mem_append_right _ (List.mem_append_right _ (mem_pinsAt hb e)))).2.1
  refine wpAny_bind (no (thn (hg _ s5 σ3 H5 x u _ I5' r5 (step x H5 y5)) fun _ s6 ⟨σ6, H6, I6, q6⟩ => ?_))
  refine wpAny_bind (no (thn (hc _ s6 σ6 H6 _ I6 q6) fun ok s7 ⟨H7, I7, q7⟩ => ?_))
  cases ok with
  | false => exact wpAny_pure ⟨rfl, again I7 q7⟩
  | true =>
   refine wpAny_bind (wpAny_bind (no (thn (he _ s7 σ6 H7 _ I7 q7) fun v s8 ⟨y, H8, I8, r8, ys, eD, hz, n8⟩ => ?_)))
   refine wpAny_bind (no (thn (mt_append _ s8 σ6 H8 (.ref D) [y] (.ref D) [v] (fun _ H9 => N σ6 H9) I8 rfl (.cons r8 .nil) ⟨D, ys, y, rfl, rfl, eD, hz, n8⟩) fun _ s9 ⟨_, H9, I9, _, n9⟩ => ?_))
   exact wpAny_pure (wpAny_pure ⟨rfl, again I9 n9⟩)
section
variable {X : Cx}
def tComp (xs : List Str) (wi : TI) (g : TG) (tc : TT) (te : TE) : TE := fun σ H Q => wi σ H fun J H1 => ∀ D, H1 D = none → tTurns J g tc te D (fun H' => Q (.ref D) H') (blkσ xs σ) (upd H1 D (.lst []))
theorem comp_core {tg iter elt : Expr} {ifs : List Expr} {sc : Scope} {pos pos' : Pos} {xs : List Str} {wi : TI} {g : TG} {tc : TT} {te : TE} {use : Option (Value → Sem Unit)} (hcalm : X.calm = true) (B : BlkScope X xs sc) (hi : PI X tg iter wi)
  (hb : ∀ pins C fp s3 H3, PG (blk X pins xs sc C fp s3 H3) tg g ∧ PIf (blk X pins xs sc C fp s3 H3) ifs tc ∧ PE (blk X pins xs sc C fp s3 H3) elt te)
  {pins : List (Addr × Obj)} {s : Shared} {σ : St} {H : Hp} {Q : Value → Shared → Prop} {QA : Addr → Hp → Prop} (I : Inv X pins σ H s) (h : wi σ H fun J H1 => ∀ D, H1 D = none → tTurns J g tc te D (QA D) (blkσ xs σ) (upd H1 D (.lst [])))
  (fin : ∀ C D H' s' m, s'.heap.Ns C m → H' C = none → Inv X pins σ H' s' → QA D H' → (∀ σ2 H2 s2 h2, Inv X pins σ2 H2 s2 → H2 C = none → Heap.SameBut C s2.heap h2 → Inv X pins σ2 H2 { s2 with heap := h2 }) → C ≠ X.env.locals → (∀ x c, X.env.cells.lookup x = some c → c ≠ C) →
   match use with
   | none => ∀ h', Heap.SameBut C s'.heap h' → Q (.ref D) { s' with heap := h' }
   | some u => wpAny (model X.prog X.w) X.A (u (.ref D)) (fun _ s'' => ∃ m, s''.heap.Ns C m ∧ ∀ h', Heap.SameBut C s''.heap h' → Q .none { s'' with heap := h' }) X.xe s')
  (hs : ∀ x, foldedSetIterable iter X.env x = pure x := by intro _; rfl) :
  wpAny (model X.prog X.w) X.A (comprehension (.ListComp elt [⟨tg, iter, ifs, 0⟩] sc pos) sc X.env pos' (newList []) false (eval iter X.env) use) Q X.xe s := by
 refine wpAny_comprehension_free (cl := closL X.env.cells sc.names []) (use := use) rfl hs (closureFor_closL (B.cells I.ok)) B.kind B.locs
  (thn (hi pins s σ H _ I h) fun v s1 h1 => thn h1 fun itv s2 h2 => ?_)
 obtain ⟨it, fp, tn, J, H2, e, I2, T, st2, f2, tr⟩ := h2
 subst e
 have hfl : ∀ b ∈ fp, b < s2.heap.objs.size := fun b hb => by obtain ⟨o, e, _⟩ := T.obj _ _ st2 b hb; exact Heap.lt_size e
 have hD : H2 s2.heap.objs.size = none := I2.hok.fresh (Nat.le_refl _)
 refine wpAny_newObj_type (wpAny_newFunctionEnv B.nocell (by intro y hy; simp at hy) (fun h1 hns hsb => ?_) B.kind)
 have hsz : (s2.heap.push { cls := .type "list", data := .seq ([] : List Value).toArray }).objs.size = s2.heap.objs.size + 1 := Heap.size_push ..
 dsimp only at hns hsb ⊢
 rw [hsz] at hns hsb ⊢
 have hk : ∀ b o, (s2.heap.push { cls := .type "list", data := .seq ([] : List Value).toArray }).get? b = some o → h1.get? b = some o := fun b o e =>
  (hsb.2 b (Nat.ne_of_lt (by have := Heap.lt_size e; rw [hsz] at this; exact this))).trans (Heap.get?_push_of_some _ e)
 have J0 := blk_start (tk := s2.toks + ([] : List (Str × Value)).length) hcalm B I2 f2 hfl hns hk
 have st3 : tn 0 h1 := T.keep _ _ _ st2 fun b _ o e => hk b o (Heap.get?_push_of_some _ e)
 have fY : ∀ b ∈ fp, FpOk (blk X pins xs sc (s2.heap.objs.size + 1) fp { s2 with heap := s2.heap.push { cls := .type "list", data := .seq ([] : List Value).toArray } } (upd H2 s2.heap.objs.size (.lst []))) [] (upd H2 s2.heap.objs.size (.lst [])) b := fun b hb => by
  obtain ⟨q1, q2, q3, q4, q5, q6⟩ := f2 b hb
  refine ⟨by rw [upd_ne (Nat.ne_of_lt (hfl b hb))]; exact q1, Nat.ne_of_lt (Nat.lt_succ_of_lt (hfl b hb)), fun z => ?_, .inl hb, fun x c e => q5 x c (B.sub I2.ok e), fun p hp => ?_⟩
  ·rcases List.mem_cons.mp (I2.stkSub _ z) with e | z
   ·exact q2 e
   ·exact q3 z
  ·rcases List.mem_append.mp hp with z | z
   ·exact q6 p z
   ·exact nomatch z
 have loop : ∀ (RR : Result → Shared → Prop), (∀ σ' H' s', Inv (blk X pins xs sc (s2.heap.objs.size + 1) fp { s2 with heap := s2.heap.push { cls := .type "list", data := .seq ([] : List Value).toArray } } (upd H2 s2.heap.objs.size (.lst []))) [] σ' H' s' → QA s2.heap.objs.size H' → RR (.ok .next) s') →
   codeAny (model X.prog X.w) X.A (.compLoop (.ListComp elt [⟨tg, iter, ifs, 0⟩] sc pos) 0 (.ref it) (.ref s2.heap.objs.size) (compEnvC sc (closL X.env.cells sc.names []) (s2.heap.objs.size + 1) X.env)) RR
    { s2 with heap := h1, toks := s2.toks + ([] : List (Str × Value)).length } := fun RR hR =>
  comp_loop (Y := blk X pins xs sc (s2.heap.objs.size + 1) fp { s2 with heap := s2.heap.push { cls := .type "list", data := .seq ([] : List Value).toArray } } (upd H2 s2.heap.objs.size (.lst []))) rfl rfl rfl rfl rfl T (hb _ _ _ _ _).1 (hb _ _ _ _ _).2.1 (hb _ _ _ _ _).2.2 J0 st3 fY (tr _ hD) hR
 refine codeAny_compStart_list (loop _ ?_) (T.self _ 0 _ _ _ st3 (loop _ ?_))
 all_goals
  intro σ' H' s' J' q'
  have I' := blk_end (sc := sc) I2 f2 J'
  obtain ⟨m, hm, _⟩ := J'.loc
  have hC : H' (s2.heap.objs.size + 1) = none := J'.free
  have z := fin (s2.heap.objs.size + 1) s2.heap.objs.size H' s' m hm hC I' q' (fun σ3 H3 s3 h3 I3 c3 sb => blk_gone (fp := fp) (s' := s') (σ' := σ') (H' := H') I2 c3 I3 sb) (Nat.ne_of_gt (Nat.lt_succ_of_lt I2.lt))
   (fun x c e => by obtain ⟨v, q⟩ := I2.cell x c e; exact Nat.ne_of_lt (Nat.lt_succ_of_lt q.lt))
  cases use with
  | none => exact ⟨m, hm, fun h' sb => z h' sb⟩
  | some u => exact z
theorem pe_comp {tg iter elt : Expr} {ifs : List Expr} {sc : Scope} {pos : Pos} (xs : List Str) {wi : TI} {g : TG} {tc : TT} {te : TE} (hcalm : X.calm = true) (B : BlkScope X xs sc) (hi : PI X tg iter wi)
  (hb : ∀ pins C fp s3 H3, PG (blk X pins xs sc C fp s3 H3) tg g ∧ PIf (blk X pins xs sc C fp s3 H3) ifs tc ∧ PE (blk X pins xs sc C fp s3 H3) elt te) (hs : ∀ x, foldedSetIterable iter X.env x = pure x := by intro _; rfl) :
  PE X (.ListComp elt [⟨tg, iter, ifs, 0⟩] sc pos) (tComp xs wi g tc te) := by
 intro pins s σ H Q I h
 rw [eval_ListComp]
 exact comp_core (use := none) (Q := EP X pins σ Q) (QA := fun D H' => Q (.ref D) H') hcalm B hi hb I h (fun C D H' s' m _ hC I' q back _ _ h' sb => ⟨.ref D, H', back σ H' s' h' I' hC sb, rfl, q⟩) hs
theorem ps_comp {tg iter elt : Expr} {ifs : List Expr} {sc : Scope} {pos spos py : Pos} (xs : List Str) {j : Nat} {y : Str} {wi : TI} {g : TG} {tc : TT} {te : TE} (hcalm : X.calm = true) (B : BlkScope X xs sc) (hi : PI X tg iter wi)
  (hb : ∀ pins C fp s3 H3, PG (blk X pins xs sc C fp s3 H3) tg g ∧ PIf (blk X pins xs sc C fp s3 H3) ifs tc ∧ PE (blk X pins xs sc C fp s3 H3) elt te)
  (hN : X.N.Nodup) (hj : X.N[j]? = some y) (hy : Loc X.env.scope y) (hsw : swapsWith (.ListComp elt [⟨tg, iter, ifs, 0⟩] sc pos) (some (.Name y py)) spos.line X.env = pure true)
  (hfn : X.fn y = true ∨ X.env.scope.names.lookup y = some .local := by first | exact .inl rfl | exact .inr rfl | assumption) (hs : ∀ x, foldedSetIterable iter X.env x = pure x := by intro _; rfl) :
  PS X (.Assign [.Name y py] (.ListComp elt [⟨tg, iter, ifs, 0⟩] sc pos) spos) (tAsg (tComp xs wi g tc te) (gName j)) := by
 intro pins s σ H D I h
 rw [exec_Assign_Name_used _ _ _ _ hsw]
 refine wpAny_bind (wpAny_standAt (wpAny_bind ?_))
 show wpAny _ X.A (do let _ ← comprehension (.ListComp elt [⟨tg, iter, ifs, 0⟩] sc pos) sc X.env _ (newList []) false (eval iter X.env) (some (assign (.Name y py) X.env))) _ _ s
 refine wpAny_bind (wpAny_mono (comp_core (use := some (assign (.Name y py) X.env)) (Q := fun _ s' => SP X pins D .next s') (QA := fun Da H' => D.nx (σ.set j (some (.ref Da))) H') hcalm B hi hb I h (fun C Da H' s' m hm hC I' q back hCL hCc => ?_) hs) (fun _ s' hq => wpAny_pure (wpAny_pure hq)) fun _ _ e => e)
 refine wpAny_assign_Name (store_ok2 I' hN hj hy (v := .ref Da) rfl (fun s2 I2 ⟨a, sb, ha⟩ => ?_) hfn)
 have hne : C ≠ a := by
  rcases ha with z | z
  ·rw [z]; exact hCL
  ·exact fun e => hCc _ _ z e.symm
 exact ⟨m, hm.sameBut sb hne, fun h' sb' => ⟨_, H', back _ H' s2 h' I2 hC sb', q⟩⟩
end
end L2
namespace L2
open PySem PySem.Spec PyProof.Rows PySem.SeqAt
inductive EqV (K : PySem.W.Frag) (H : Hp) : Nat → V → V → Bool → Prop where
 | int {n : Nat} (i j : Int) : EqV K H n (.int i) (.int j) (i == j)
 | bl {n : Nat} (i j : Bool) : EqV K H n (.bl i) (.bl j) (i == j)
 | str {n : Nat} (i j : Str) : EqV K H n (.str i) (.str j) (i == j)
 | same {n : Nat} (a : Addr) : EqV K H n (.ref a) (.ref a) true
 | non {n : Nat} : EqV K H n .non .non true
 | lst {n : Nat} {a b : Addr} {xs ys : List V} {e : Nat → Bool} (ne : a ≠ b) (h1 : SqL K H a xs) (h2 : SqL K H b ys) (hl : xs.length = ys.length)
   (he : ∀ (j : Nat) (x y : V), xs[j]? = some x → ys[j]? = some y → EqV K H n x y (e j)) : EqV K H (n + 1) (.ref a) (.ref b) ((List.range xs.length).all e)
 | lstN {n : Nat} {a b : Addr} {xs ys : List V} (ne : a ≠ b) (h1 : SqL K H a xs) (h2 : SqL K H b ys) (hl : xs.length ≠ ys.length) : EqV K H (n + 1) (.ref a) (.ref b) false
 | tup {n : Nat} {a b : Addr} {xs ys : List V} {e : Nat → Bool} (ne : a ≠ b) (h1 : SqT K H a xs) (h2 : SqT K H b ys) (hl : xs.length = ys.length)
   (he : ∀ (j : Nat) (x y : V), xs[j]? = some x → ys[j]? = some y → EqV K H n x y (e j)) : EqV K H (n + 1) (.ref a) (.ref b) ((List.range xs.length).all e)
section
variable {X : Cx} {pins : List (Addr × Obj)} {σ : St} {H : Hp} {s : Shared}
theorem vals_at {xs : List V} {us : List Value} (r : Vals xs us) {j : Nat} (h : j < us.toArray.size) : ∃ x, xs[j]? = some x ∧ RelV x us.toArray[j] := by
 have hl := r.length
 have hj : j < xs.length := by rw [hl]; simpa using h
 obtain ⟨u, hu, ru⟩ := r.get (List.getElem?_eq_getElem hj)
 have e : us.toArray[j] = u := by
  have : us[j]? = some us.toArray[j] := by simp
  rw [this] at hu; exact Option.some.inj hu
 exact ⟨xs[j], List.getElem?_eq_getElem hj, by rw [e]; exact ru⟩
theorem EqV.at (I : Inv X pins σ H s) : ∀ {n : Nat} {x y : V} {b : Bool}, EqV X.K H n x y b → ∀ {A : Around} {u v : Value}, A.units + n < cLine → RelV x u → RelV y v → EqAt A s u v b := by
 intro n x y b h
 induction h with
 | int i j => intro A u v _ ru rv; obtain ⟨t, rfl⟩ := ru; obtain ⟨t', rfl⟩ := rv; exact EqAt.int_int _ _ _ _
 | bl i j => intro A u v _ ru rv; cases ru; cases rv; exact EqAt.bool_bool _ _
 | str i j => intro A u v _ ru rv; obtain ⟨t, rfl⟩ := ru; obtain ⟨t', rfl⟩ := rv; exact EqAt.str_str _ _ _ _
 | same a => intro A u v _ ru rv; cases ru; cases rv; exact EqAt.same _
 | non => intro A u v _ ru rv; cases ru; cases rv; exact EqAt.same _
 | @lst n a b xs ys e ne h1 h2 hl he ih =>
  intro A u v hu ru rv
  cases ru; cases rv
  obtain ⟨i1, r1, p1, _⟩ := I.list h1
  obtain ⟨i2, r2, p2, _⟩ := I.list h2
  have e1 : xs.length = i1.toArray.size := by rw [r1.length]; simp
  have e2 : ys.length = i2.toArray.size := by rw [r2.length]; simp
  rw [e1]
  refine EqAt.of_refs ne (RcAt.lists p1.isList p2.isList (by omega) (by omega) fun j k1 k2 => ?_)
  obtain ⟨x, hx, rx⟩ := vals_at r1 k1
  obtain ⟨y, hy, ry⟩ := vals_at r2 k2
  exact ih j x y hx hy (by show A.units + 1 + n < cLine; omega) rx ry
 | @lstN n a b xs ys ne h1 h2 hl =>
  intro A u v hu ru rv
  cases ru; cases rv
  obtain ⟨i1, r1, p1, _⟩ := I.list h1
  obtain ⟨i2, r2, p2, _⟩ := I.list h2
  refine EqAt.of_refs ne (RcAt.lists_lengths p1.isList p2.isList ?_ (by omega))
  have e1 : xs.length = i1.toArray.size := by rw [r1.length]; simp
  have e2 : ys.length = i2.toArray.size := by rw [r2.length]; simp
  exact bne_iff_ne.mpr (by omega)
 | @tup n a b xs ys e ne h1 h2 hl he ih =>
  intro A u v hu ru rv
  cases ru; cases rv
  obtain ⟨i1, r1, p1, _⟩ := I.tuple h1
  obtain ⟨i2, r2, p2, _⟩ := I.tuple h2
  have e1 : xs.length = i1.toArray.size := by rw [r1.length]; simp
  have e2 : ys.length = i2.toArray.size := by rw [r2.length]; simp
  have q := RcAt.tuples (A := A) (e := e) p1 p2 (by omega) fun j k1 k2 => by
   obtain ⟨x, hx, rx⟩ := vals_at r1 k1
   obtain ⟨y, hy, ry⟩ := vals_at r2 k2
   exact ih j x y hx hy (by show A.units + 1 + n < cLine; omega) rx ry
  have ez : i1.toArray.size = i2.toArray.size := by omega
  rw [ez, Nat.min_self, beq_self_eq_true, Bool.and_true, ← ez, ← e1] at q
  exact EqAt.of_refs ne q
inductive RcV (K : PySem.W.Frag) (H : Hp) : V → V → Bool → Prop where
 | lst {a b : Addr} {xs ys : List V} {e : Nat → Bool} (h1 : SqL K H a xs) (h2 : SqL K H b ys) (hl : xs.length = ys.length)
   (he : ∀ (j : Nat) (x y : V), xs[j]? = some x → ys[j]? = some y → EqV K H 4 x y (e j)) : RcV K H (.ref a) (.ref b) ((List.range xs.length).all e)
 | lstN {a b : Addr} {xs ys : List V} (h1 : SqL K H a xs) (h2 : SqL K H b ys) (hl : xs.length ≠ ys.length) : RcV K H (.ref a) (.ref b) false
 | tup {a b : Addr} {xs ys : List V} {e : Nat → Bool} (h1 : SqT K H a xs) (h2 : SqT K H b ys) (hl : xs.length = ys.length)
   (he : ∀ (j : Nat) (x y : V), xs[j]? = some x → ys[j]? = some y → EqV K H 4 x y (e j)) : RcV K H (.ref a) (.ref b) ((List.range xs.length).all e)
theorem RcV.at (I : Inv X pins σ H s) {x y : V} {b : Bool} (h : RcV X.K H x y b) {A : Around} {u v : Value} (hu : A.units + 8 < cLine) (ru : RelV x u) (rv : RelV y v) : RcAt A s u v b ∧ RcNeAt A s u v (!b) := by
 cases h with
 | @lst a b xs ys e h1 h2 hl he =>
  cases ru; cases rv
  obtain ⟨i1, r1, p1, _⟩ := I.list h1
  obtain ⟨i2, r2, p2, _⟩ := I.list h2
  have e1 : xs.length = i1.toArray.size := by rw [r1.length]; simp
  have e2 : ys.length = i2.toArray.size := by rw [r2.length]; simp
  have el : ∀ j (k1 : j < i1.toArray.size) (k2 : j < i2.toArray.size), EqAt A.in1 s i1.toArray[j] i2.toArray[j] (e j) := fun j k1 k2 => by
   obtain ⟨x, hx, rx⟩ := vals_at r1 k1
   obtain ⟨y, hy, ry⟩ := vals_at r2 k2
   exact (he j x y hx hy).at I (by show A.units + 1 + 4 < cLine; omega) rx ry
  rw [e1]
  exact ⟨RcAt.lists p1.isList p2.isList (by omega) (by omega) el, RcNeAt.lists p1.isList p2.isList (by omega) (by omega) el⟩
 | @lstN a b xs ys h1 h2 hl =>
  cases ru; cases rv
  obtain ⟨i1, r1, p1, _⟩ := I.list h1
  obtain ⟨i2, r2, p2, _⟩ := I.list h2
  have e1 : xs.length = i1.toArray.size := by rw [r1.length]; simp
  have e2 : ys.length = i2.toArray.size := by rw [r2.length]; simp
  have q : (i1.toArray.size != i2.toArray.size) = true := bne_iff_ne.mpr (by omega)
  exact ⟨RcAt.lists_lengths p1.isList p2.isList q (by omega), RcNeAt.lists_lengths p1.isList p2.isList q (by omega)⟩
 | @tup a b xs ys e h1 h2 hl he =>
  cases ru; cases rv
  obtain ⟨i1, r1, p1, _⟩ := I.tuple h1
  obtain ⟨i2, r2, p2, _⟩ := I.tuple h2
  have e1 : xs.length = i1.toArray.size := by rw [r1.length]; simp
  have e2 : ys.length = i2.toArray.size := by rw [r2.length]; simp
  have el : ∀ j (k1 : j < i1.toArray.size) (k2 : j < i2.toArray.size), EqAt A.in1 s i1.toArray[j] i2.toArray[j] (e j) := fun j k1 k2 => by
   obtain ⟨x, hx, rx⟩ := vals_at r1 k1
   obtain ⟨y, hy, ry⟩ := vals_at r2 k2
   exact (he j x y hx hy).at I (by show A.units + 1 + 4 < cLine; omega) rx ry
  have ez : i1.toArray.size = i2.toArray.size := by omega
  have q1 := RcAt.tuples (A := A) (e := e) p1 p2 (by omega) el
  have q2 := RcNeAt.tuples (A := A) (e := e) p1 p2 (by omega) el
  rw [ez, Nat.min_self, beq_self_eq_true, Bool.and_true, ← ez, ← e1] at q1 q2
  exact ⟨q1, q2⟩
def rEqD (K : PySem.W.Frag) : R2 := fun x y H Q => ∃ b, RcV K H x y b ∧ Q (.bl b) H
def rNeD (K : PySem.W.Frag) : R2 := fun x y H Q => ∃ b, RcV K H x y b ∧ Q (.bl (!b)) H
theorem op_eqD (hu : X.A.units + 64 < cLine) : OpR X (compareOp .Eq) (rEqD X.K) := by
 intro pins s σ H x y v u Q I rx ry ⟨b, h, q⟩
 exact (h.at I (by omega) rx ry).1 _ _ _ _ ⟨.bl b, H, I, rfl, q⟩
theorem op_neD (hu : X.A.units + 64 < cLine) : OpR X (compareOp .NotEq) (rNeD X.K) := by
 intro pins s σ H x y v u Q I rx ry ⟨b, h, q⟩
 exact (h.at I (by omega) rx ry).2 _ _ _ _ ⟨.bl (!b), H, I, rfl, q⟩
end
theorem range_all_eq {α : Type} [BEq α] [LawfulBEq α] : ∀ {xs ys : List α}, xs.length = ys.length → (List.range xs.length).all (fun j => xs[j]? == ys[j]?) = (xs == ys) := by
 intro xs ys hl
 rw [Bool.eq_iff_iff, List.all_eq_true, beq_iff_eq]
 constructor
 ·intro h
  refine List.ext_getElem? fun j => ?_
  by_cases hj : j < xs.length
  ·exact eq_of_beq (h j (List.mem_range.mpr hj))
  ·rw [List.getElem?_eq_none (by omega), List.getElem?_eq_none (by omega)]
 ·intro h j _
  rw [h]; exact beq_self_eq_true _
section
variable {K : PySem.W.Frag} {H : Hp}
theorem eqv_ints_item {n : Nat} {xs ys : List Int} : ∀ (j : Nat) (x y : V), (xs.map V.int)[j]? = some x → (ys.map V.int)[j]? = some y → EqV K H n x y (xs[j]? == ys[j]?) := by
 intro j x y hx hy
 rw [List.getElem?_map] at hx hy
 cases ex : xs[j]? with
 | none => rw [ex] at hx; cases hx
 | some i =>
  cases ey : ys[j]? with
  | none => rw [ey] at hy; cases hy
  | some k =>
   rw [ex] at hx; rw [ey] at hy; cases hx; cases hy
   have e : (some i == some k) = (i == k) := by rfl
   rw [e]
   exact EqV.int i k
theorem eqv_ints {n : Nat} {a b : Addr} {xs ys : List Int} (ne : a ≠ b) (h1 : SqL K H a (xs.map V.int)) (h2 : SqL K H b (ys.map V.int)) : EqV K H (n + 1) (.ref a) (.ref b) (xs == ys) := by
 by_cases hl : xs.length = ys.length
 ·have q := EqV.lst (n := n) (e := fun j => xs[j]? == ys[j]?) ne h1 h2 (by simpa using hl) eqv_ints_item
  rw [List.length_map, range_all_eq hl] at q
  exact q
 ·have e : (xs == ys) = false := by rw [beq_eq_false_iff_ne]; intro e; exact hl (by rw [e])
  rw [e]
  exact EqV.lstN ne h1 h2 (by simpa using hl)
theorem rcv_ints {a b : Addr} {xs ys : List Int} (h1 : SqL K H a (xs.map V.int)) (h2 : SqL K H b (ys.map V.int)) : RcV K H (.ref a) (.ref b) (xs == ys) := by
 by_cases hl : xs.length = ys.length
 ·have q := RcV.lst (e := fun j => xs[j]? == ys[j]?) h1 h2 (by simpa using hl) eqv_ints_item
  rw [List.length_map, range_all_eq hl] at q
  exact q
 ·have e : (xs == ys) = false := by rw [beq_eq_false_iff_ne]; intro e; exact hl (by rw [e])
  rw [e]
  exact RcV.lstN h1 h2 (by simpa using hl)
end
section
variable {X : Cx}
def rIsi (K : PySem.W.Frag) (T : String) : List V → Hp → VK → Prop := fun vs H Q => ∃ x t b, vs = [x, .ty T] ∧ TyOf K H x t ∧ PySem.W.kitOne K t (.type T) = some b ∧ Q (.bl b) H
theorem call_isi (T : String) : CallR X (.builtin "isinstance") (rIsi X.K T) := by
 intro pins s σ H xs us Q I r h
 obtain ⟨x, t, b, rfl, ty, e, q⟩ := h
 obtain ⟨u, v, rfl, ru, rv⟩ := r.two
 cases rv
 exact isinst_ok I ru ty e fun tk => ⟨.bl b, H, I.tok tk, rfl, q⟩
theorem rng_list {pins : List (Addr × Obj)} {σ : St} {H : Hp} {s : Shared} {Q : VK} {E : Value → Shared → Prop} {lo hi : Int} {t u v : Tok} {tk : Nat} (hcalm : X.calm = true) (I : Inv X pins σ H s) (h1 : -(2 ^ 20) ≤ lo) (h2 : lo < 2 ^ 20) (h3 : -(2 ^ 20) ≤ hi) (h4 : hi < 2 ^ 20)
  (q : ∀ p, H p = none → Q (.ref p) (upd H p (.lst ((List.range (hi - lo).toNat).map fun i : Nat => V.int (lo + i))))) :
  wpAny (model X.prog X.w) X.A (call (.type "list") [.ref s.heap.objs.size]) (EP X pins σ Q) E { s with heap := s.heap.push { cls := .type "range", data := .fields #[.int lo t, .int hi u, .int 1 v] }, toks := tk } := by
 have I1 : Inv X pins σ H { s with heap := s.heap.push { cls := .type "range", data := .fields #[.int lo t, .int hi u, .int 1 v] }, toks := tk } := I.kept fun b o e => Heap.get?_push_of_some _ e
 refine call_list_range (n := (hi - lo).toNat) (I.ok.hd hcalm) (IsRange.new ..) (small_one (by omega) (by omega) (by omega) (by omega)) (by rw [rangeSize_one]; split <;> omega) (by omega) fun h' tk' acc' c' hk hS hacc => ?_
 refine ⟨.ref _, _, I1.laid (t' := tk') hk (Nat.le_refl _) (show ObjOk X.prog X.w _ h' _ (.lst ((List.range (hi - lo).toNat).map fun i : Nat => V.int (lo + i))) from ⟨?_, acc'.toList, c', ?_, by simpa using hS⟩), rfl, q _ (I1.hok.fresh (Nat.le_refl _))⟩
 ·rw [List.length_map, List.length_range]
  exact Nat.le_trans (show (hi - lo).toNat ≤ 2 ^ 22 by omega) (by decide)
 ·have key : ∀ (n : Nat) (us : List Value) (f : Nat → Int), us.length = n → (∀ (j : Nat) (u : Value), us[j]? = some u → ∃ t, u = Value.int (f j) t) → Vals ((List.range n).map fun i : Nat => V.int (f i)) us := by
   intro n
   induction n with
   | zero => intro us f hl _; have : us = [] := List.eq_nil_of_length_eq_zero hl; subst this; exact .nil
   | succ n ih =>
    intro us f hl hu
    cases us with
    | nil => cases hl
    | cons u0 r =>
     rw [List.range_succ_eq_map, List.map_cons, List.map_map]
     refine .cons (hu 0 u0 rfl) ?_
     exact ih r (fun i => f (i + 1)) (by simpa using hl) fun j w hw => hu (j + 1) w (by simpa using hw)
  refine key _ _ (fun i => lo + i) (by rw [Array.length_toList]; exact hacc.1) fun j w hw => ?_
  obtain ⟨t, e⟩ := hacc.2 j w (by rw [← Array.getElem?_toList]; exact hw)
  exact ⟨t, by rw [e, Int.mul_one]⟩
def tLRng (ta : TA) (lo : List V → Option (Int × Int)) : TE := fun σ H Q => ta σ H fun vs H1 => ∃ i j, lo vs = some (i, j) ∧ (-(2 ^ 20) ≤ i ∧ i < 2 ^ 20 ∧ -(2 ^ 20) ≤ j ∧ j < 2 ^ 20) ∧ ∀ p, H1 p = none → Q (.ref p) (upd H1 p (.lst ((List.range (j - i).toNat).map fun k : Nat => V.int (i + k))))
def rg1 : List V → Option (Int × Int)
 | [.int j] => some (0, j)
 | _ => none
def rg2 : List V → Option (Int × Int)
 | [.int i, .int j] => some (i, j)
 | _ => none
theorem pe_list_range1 {a : Expr} {ta : TA} {p pos p' pos' : Pos} (hcalm : X.calm = true) (hg : Gl X "range") (hm : X.mg "range" = none) (hg' : Gl X "list") (hm' : X.mg "list" = none) (ha : PA X [a] ta) (hs : starEach [a] X.env = [(false, eval a X.env)] := by rfl)
  (hs' : starEach [.Call (.Name "range" p) [a] [] pos] X.env = [(false, eval (.Call (.Name "range" p) [a] [] pos) X.env)] := by rfl) :
  PE X (.Call (.Name "list" p') [.Call (.Name "range" p) [a] [] pos] [] pos') (tLRng ta rg1) := by
 intro pins s σ H Q I h
 refine Call_ (ld_blt I hg' hm' boot_list (PyProof.Rows.callWith_type1 ?_ hs' rfl))
 rw [hs']
 show wpAny _ _ (spliced ((false, eval (.Call (.Name "range" p) [a] [] pos) X.env) :: [])) _ _ s
 refine Calls.spliced_cons (Call_ (ld_blt I hg hm boot_range (PyProof.Rows.callWith_type1 (thn (ha pos pins s σ H _ I h) fun us s1 ⟨vs, H1, I1, r1, q1⟩ => ?_) hs rfl)))
 obtain ⟨i, j, e, ⟨q1, q2, q3, q4⟩, q⟩ := q1
 cases r1 with
 | nil => cases e
 | @cons x u xs us r rr =>
  cases rr with
  | cons _ _ => cases x <;> cases e
  | nil =>
   cases x with
   | int k =>
    cases e
    obtain ⟨t, rfl⟩ := r
    exact call_range_1 (Calls.spliced_nil (rng_list hcalm I1 q1 q2 q3 q4 q))
   | _ => cases e
theorem pe_list_range2 {a b : Expr} {ta : TA} {p pos p' pos' : Pos} (hcalm : X.calm = true) (hg : Gl X "range") (hm : X.mg "range" = none) (hg' : Gl X "list") (hm' : X.mg "list" = none) (ha : PA X [a, b] ta)
  (hs : starEach [a, b] X.env = [(false, eval a X.env), (false, eval b X.env)] := by rfl) (hs2 : starEach [b] X.env = [(false, eval b X.env)] := by rfl)
  (hs' : starEach [.Call (.Name "range" p) [a, b] [] pos] X.env = [(false, eval (.Call (.Name "range" p) [a, b] [] pos) X.env)] := by rfl) :
  PE X (.Call (.Name "list" p') [.Call (.Name "range" p) [a, b] [] pos] [] pos') (tLRng ta rg2) := by
 intro pins s σ H Q I h
 refine Call_ (ld_blt I hg' hm' boot_list (PyProof.Rows.callWith_type1 ?_ hs' rfl))
 rw [hs']
 show wpAny _ _ (spliced ((false, eval (.Call (.Name "range" p) [a, b] [] pos) X.env) :: [])) _ _ s
 refine Calls.spliced_cons (Call_ (ld_blt I hg hm boot_range (PyProof.Rows.callWith_type1 (thn (ha pos pins s σ H _ I h) fun us s1 ⟨vs, H1, I1, r1, q1⟩ => ?_) (by rw [hs, hs2]) (by rw [hs2]; rfl))))
 obtain ⟨i, j, e, ⟨q1, q2, q3, q4⟩, q⟩ := q1
 cases r1 with
 | nil => cases e
 | @cons x u xs us r rr =>
  cases rr with
  | nil => cases x <;> cases e
  | @cons y u' ys us' r' rr' =>
   cases rr' with
   | cons _ _ => cases x <;> cases y <;> cases e
   | nil =>
    cases x with
    | int k =>
     cases y with
     | int k' =>
      cases e
      obtain ⟨t, rfl⟩ := r
      obtain ⟨t', rfl⟩ := r'
      exact call_range_2 (Calls.spliced_nil (rng_list hcalm I1 q1 q2 q3 q4 q))
     | _ => cases e
    | _ => cases e
theorem vals_intsAre : ∀ {ns : List Int} {us : List Value}, Vals (ns.map V.int) us → IntsAre us ns
 | [], _, .nil => .nil
 | n :: r, _, .cons h t => by obtain ⟨k, rfl⟩ := h; exact .cons n k (vals_intsAre t)
theorem intsAre_vals : ∀ {us : List Value} {ns : List Int}, IntsAre us ns → Vals (ns.map V.int) us
 | _, _, .nil => .nil
 | _, _, .cons n t h => .cons ⟨t, rfl⟩ (intsAre_vals h)
def rSorted (K : PySem.W.Frag) : List V → Hp → VK → Prop := fun vs H Q => ∃ (p : Addr) (ns : List Int), vs = [.ref p] ∧ SqL K H p (ns.map V.int) ∧ ns.length < 64 ∧ ∀ (l : Addr) (ns' : List Int), H l = none → ns'.Perm ns → ns'.Pairwise (· ≤ ·) → Q (.ref l) (upd H l (.lst (ns'.map V.int)))
theorem call_sorted : CallR X (.builtin "sorted") (rSorted X.K) := by
 intro pins s σ H xs us Q I r h
 obtain ⟨p, ns, rfl, hq, h64, q⟩ := h
 obtain ⟨u, rfl, ru⟩ := r.one
 cases ru
 obtain ⟨its, rv, pl, hz⟩ := I.list hq
 have hl := rv.length
 rw [List.length_map] at hl
 refine sorted_ints (vs := its) pl.isList (vals_intsAre rv) (by omega) fun out ns' a1 a2 a3 => ?_
 obtain ⟨e, he⟩ := sortedAll_at s.heap its out
 have hlen : ns'.length = ns.length := a2.length_eq
 refine ⟨.ref _, _, I.laid (t' := s.toks) (fun _ _ => sortedAll_old) (Nat.le_succ _) (show ObjOk X.prog X.w _ _ _ (.lst (ns'.map V.int)) from ⟨?_, out.toList, e, intsAre_vals a1, by simpa using he⟩), rfl, q _ ns' (I.hok.fresh (Nat.le_succ _)) a2 a3⟩
 rw [List.length_map, hlen]
 exact Nat.le_trans (Nat.le_of_lt h64) (by decide)
end
section
variable {X : Cx} {pins : List (Addr × Obj)} {σ : St} {H : Hp} {s : Shared} {d : Addr} {kvs : List (Key × V)}
end
theorem keyIs_rel {k : Key} {u : Value} (h : keyIs k u = true) : RelV (kV k) u := by
 rcases keyIs_shape h with ⟨i, t, rfl, rfl⟩ | ⟨x, t, rfl, rfl⟩
 ·exact ⟨t, rfl⟩
 ·exact ⟨t, rfl⟩
theorem KV.len {κ : Type} {kvs : List (κ × V)} {vs : List (κ × Value)} (r : KV kvs vs) : kvs.length = vs.length := Paired.length r
section
variable {X : Cx} {tg : Expr}
theorem call_sorted_dict (hcalm : X.calm = true) : CallR X (.builtin "sorted") (fun vs H Q => ∃ (d : Addr) (kvs : List (Key × V)) (ns : List Int), vs = [.ref d] ∧ H d = some (.dK kvs) ∧ kvs.map (·.1) = ns.map Sum.inl ∧ ns.length < 64 ∧ ∀ (l : Addr) (ns' : List Int), H l = none → ns'.Perm ns → ns'.Pairwise (· ≤ ·) → Q (.ref l) (upd H l (.lst (ns'.map V.int)))) := by
 intro pins s σ H xs us Q I r h
 obtain ⟨d, kvs, ns, rfl, hq, hk, h64, q⟩ := h
 obtain ⟨u, rfl, ru⟩ := r.one
 cases ru
 obtain ⟨z, y, vs, rr, ob, es, ep, e, c1, c2, c3⟩ := I.hok d _ hq
 have hlen : kvs.length = ns.length := by have := congrArg List.length hk; simpa using this
 have hn : vs.length ≤ sizeLine := by rw [← rr.len]; exact z
 refine Calls.call_function_entry kind_sorted plain_sorted entry_sorted (args_sorted1 _) ?_
 unfold Builtin.«sorted»
 refine wpAny_bind (m := checkCount "sorted" 1 1 _) (wpAny_pure ?_)
 refine wpAny_bind (PySem.W.kdu_collect (PySem.W.kdl_dict (prog := X.prog) (w := X.w) (knd := mixKind X.prog X.w) (d := d) (kvs := vs) (ep := ep) y) (I.ok.hd hcalm) ⟨ob, es, e, c1, c2, c3⟩ hn fun h' tk acc hkp hacc => ?_)
 have I1 : Inv X pins σ H { s with heap := h', toks := tk } := I.kept hkp
 have hl : acc.toList.length = vs.length := by rw [Array.length_toList]; exact hacc.1
 have hv : Vals (ns.map V.int) acc.toList := by
  have key : ∀ (ns : List Int) (kvs : List (Key × V)) (vs : List (Key × Value)) (us : List Value), KV kvs vs → kvs.map (·.1) = ns.map Sum.inl → us.length = vs.length → (∀ (j : Nat) (u : Value), us[j]? = some u → ∃ k x, vs[j]? = some (k, x) ∧ keyIs k u = true) → Vals (ns.map V.int) us := by
   intro ns
   induction ns with
   | nil =>
    intro kvs vs us r e hl _
    have : kvs = [] := by simpa using e
    subst this
    cases r
    have : us = [] := List.eq_nil_of_length_eq_zero hl
    subst this
    exact .nil
   | cons n ns ih =>
    intro kvs vs us r e hl hu
    cases r with
    | nil => cases e
    | @cons a b l1 l2 r0 rr =>
     rw [List.map_cons, List.map_cons] at e
     injection e with e1 e2
     cases us with
     | nil => cases hl
     | cons u ur =>
      obtain ⟨k, x, hx, hki⟩ := hu 0 u rfl
      have hb : b = (k, x) := by simpa using hx
      have ek : k = Sum.inl n := by
       have : a.1 = k := by rw [r0.1, hb]
       rw [← this]; exact e1
      rw [ek] at hki
      refine .cons (keyIs_rel (k := Sum.inl n) hki) (ih l1 l2 ur rr e2 (by simpa using hl) fun j w hw => ?_)
      obtain ⟨k', x', h1, h2⟩ := hu (j + 1) w (by simpa using hw)
      exact ⟨k', x', by simpa using h1, h2⟩
  exact key ns kvs vs acc.toList rr hk hl fun j u hu => hacc.2 j u (by rw [← Array.getElem?_toList]; exact hu)
 refine wpAny_bind (wpAny_newList ?_ (by rw [hl]; exact hn))
 have hoL : (h'.push (seqObj "list" acc.toList.toArray 0)).get? h'.objs.size = some (seqObj "list" acc.toList.toArray 0) := Heap.get?_push_size _ rfl
 have hal : acc.toList.length < 64 := by rw [hl, ← rr.len, hlen]; exact h64
 refine wpAny_bind (wpAny_holding (wpAny_call_entry slot_list_sort ⟨_, hoL, rfl⟩ entry_list_sort (list_sort_tree hoL (vals_intsAre hv) hal fun out ns' a1 a2 a3 => ⟨_, rfl, ?_⟩) (args_list_sort _)))
 obtain ⟨ee, he⟩ := sortedHeap_at (out := out) hoL
 have hsz : (h'.push (seqObj "list" acc.toList.toArray 0)).objs.size = h'.objs.size + 1 := Heap.size_push ..
 refine wpAny_pure ⟨_, rfl, .ref h'.objs.size, _, I1.laid (t' := tk) (fun b o eb => ?_) (Nat.le_refl _) (show ObjOk X.prog X.w _ _ _ (.lst (ns'.map V.int)) from ⟨?_, out.toList, ee, intsAre_vals a1, by simpa using he⟩), rfl, q _ ns' (I1.hok.fresh (Nat.le_refl _)) a2 a3⟩
 ·have hb : b < h'.objs.size := Heap.lt_size eb
  exact (sortedHeap_old (Nat.ne_of_lt hb) (by rw [hsz]; exact Nat.lt_succ_of_lt hb)).trans (Heap.get?_push_of_some _ eb)
 ·rw [List.length_map, a2.length_eq]
  exact Nat.le_trans (Nat.le_of_lt h64) (by decide)
theorem call_allB (hcalm : X.calm = true) : CallR X (.builtin "all") (fun vs H Q => ∃ (p : Addr) (bs : List Bool), vs = [.ref p] ∧ SqL X.K H p (bs.map V.bl) ∧ Q (.bl (bs.all id)) H) := by
 intro pins s σ H xs us Q I r h
 obtain ⟨p, bs, rfl, hq, q⟩ := h
 obtain ⟨u, rfl, ru⟩ := r.one
 cases ru
 obtain ⟨its, rv, pl, hz⟩ := I.list hq
 have hlt : p < s.heap.objs.size := by obtain ⟨o, e, _⟩ := pl.isList; exact Heap.lt_size e
 refine call_all_walk (wpAny_pyIter_list pl.isList ?_)
 have hl := rv.length
 rw [List.length_map] at hl
 refine ⟨s.heap.objs.size, _, _, its.toArray.size, _, _, fun i => bs.getD i false, rfl, Walks.list (A := X.A.in1) (I.ok.hd hcalm) s.heap.objs.size p (Nat.ne_of_lt hlt) its.toArray, ⟨⟨_, Heap.get?_push_size _ rfl, rfl, rfl⟩, pl.isList.at fun o e => Heap.get?_push_of_some _ e⟩, ?_, fun h' tk hk => ?_⟩
 ·intro i v s' Q' E' hP hQ
  have hv : its[i]? = some v := by simpa using hP
  have hi : i < bs.length := by rw [hl]; exact (List.getElem?_eq_some_iff.mp hv).1
  obtain ⟨u, hu, ru⟩ := rv.get (i := i) (x := V.bl bs[i]) (by rw [List.getElem?_map, List.getElem?_eq_getElem hi]; rfl)
  rw [hv] at hu
  cases hu
  have eb : v = Value.bool bs[i] := ru
  subst eb
  have eg : bs.getD i false = bs[i] := by simp [List.getD, hi]
  refine wpAny_truthy_bool ?_
  rw [← eg]; exact hQ
 ·have I1 : Inv X pins σ H { s with heap := h', toks := tk } := I.kept fun b o e => hk b o (by simp; exact Nat.ne_of_lt (Heap.lt_size e)) (Heap.get?_push_of_some _ e)
  have e : (List.range its.toArray.size).all (fun i => bs.getD i false) = bs.all id := by
   have e1 : its.toArray.size = bs.length := by simpa using hl.symm
   rw [e1, Bool.eq_iff_iff, List.all_eq_true, List.all_eq_true]
   constructor
   ·intro h x hx
    obtain ⟨i, hi, rfl⟩ := List.mem_iff_getElem.mp hx
    have := h i (List.mem_range.mpr hi)
    simpa [List.getD, hi] using this
   ·intro h i hi
    have hi' := List.mem_range.mp hi
    have := h bs[i] (List.getElem_mem hi')
    simpa [List.getD, hi'] using this
  rw [e]
  exact ⟨.bl _, H, I1, rfl, q⟩
end
end L2
namespace L2
open PySem PySem.Spec PyProof.Rows
def blkOk (osc : Scope) (N xs : List Str) (sc : Scope) : Bool :=
 (sc.kind == .function) && sc.names.all (fun y => y.2 != .cell) && sc.names.all (fun y => y.2 != .local || (sc.names.lookup y.1 == some .local)) && sc.names.all (fun y => y.2 != .local || (xs.contains y.1 || y.1 == (".0" : Str))) &&
  sc.names.all (fun y => y.2 != .free || (osc.names.lookup y.1 == some .cell || osc.names.lookup y.1 == some .free)) && N.all (fun y => (sc.names.lookup (y ++ ("#" : Str))).isNone) && !N.contains (".0" : Str)
theorem blk_ok {X : Cx} {xs : List Str} {sc : Scope} (osc : Scope) (N : List Str) (hs : X.env.scope = osc) (hN : X.N = N) (h : blkOk osc N xs sc = true) : BlkScope X xs sc := by
 unfold blkOk at h
 simp only [Bool.and_eq_true, List.all_eq_true, Bool.or_eq_true, Bool.not_eq_true', bne_iff_ne, beq_iff_eq, List.contains_iff_mem] at h
 obtain ⟨⟨⟨⟨⟨⟨h1, h2⟩, h3⟩, h4⟩, h5⟩, h6⟩, h7⟩ := h
 refine ⟨h1, h2, fun y hy e => ?_, fun y hy e => ?_, fun y hy e => ?_, fun y hy => ?_, ?_⟩
 ·exact (h3 y hy).resolve_left fun z => z e
 ·exact (h4 y hy).resolve_left fun z => z e
 ·have z := (h5 y hy).resolve_left fun z => z e
  rw [← hs] at z
  exact z
 ·rw [hN] at hy
  exact Option.isNone_iff_eq_none.mp (h6 y hy)
 ·rw [hN]
  intro z
  rw [List.contains_iff_mem.mpr z] at h7
  cases h7
def Gives (t : TE) (σ : St) (H : Hp) (v : V) : Prop := ∀ P : VK, (∀ H2, Same H H2 → P v H2) → t σ H P
def Tells (t : TT) (σ : St) (H : Hp) (b : Bool) : Prop := ∀ P : Bool → Hp → Prop, (∀ H2, Same H H2 → P b H2) → t σ H P
theorem Same.rfl' {H : Hp} : Same H H := fun _ _ h => h
theorem Same.new {H : Hp} {p : Addr} (h : H p = none) (o : HO) : Same H (upd H p o) := fun b u q => by rw [upd_ne (ne_of_none q h)]; exact q
theorem tells_true {σ : St} {H : Hp} : Tells tTrue σ H true := fun _ h => h H Same.rfl'
theorem turns_gen {J : It} {n : Nat} {tc : TT} {te : TE} {D : Addr} {Q : Hp → Prop} {σ : St} {H1 : Hp} (item : Nat → V) (c : Nat → Bool) (v : Nat → V) (hD : H1 D = none) (hn : n ≤ 1000)
  (hgo : ∀ i H', Same H1 H' → i < n → J.go i H') (hyl : ∀ i H' x H2, Same H1 H' → i < n → J.yld i H' x H2 → H2 = H' ∧ x = item i) (hst : ∀ H', Same H1 H' → J.stop n H')
  (ht : ∀ i H', i < n → Same H1 H' → Tells tc (some (item i) :: σ) H' (c i)) (he : ∀ i H', i < n → c i = true → Same H1 H' → Gives te (some (item i) :: σ) H' (v i))
  (hq : ∀ H', Same H1 H' → H' D = some (.lst (((List.range n).filter c).map v)) → Q H') : tTurns J (gName 0) tc te D Q (none :: σ) (upd H1 D (.lst [])) := by
 refine ⟨fun i m σ' H' => ∃ x, σ' = x :: σ ∧ m = n - i ∧ i ≤ n ∧ Same H1 H' ∧ H' D = some (.lst (((List.range i).filter c).map v)), ⟨n, none, rfl, rfl, Nat.zero_le _, Same.new hD _, upd_same⟩, ?_⟩
 rintro i m σ' H' ⟨x, rfl, rfl, hi, g, hl⟩
 by_cases hlt : i < n
 ·refine .inr ⟨hgo i H' g hlt, fun σ2 H2 => ∃ x, σ2 = x :: σ ∧ Same H1 H2 ∧ H2 D = some (.lst (((List.range (i + 1)).filter c).map v)), ?_, fun x' H2 y => ?_⟩
  ·rintro σ2 H2 ⟨x, rfl, g2, l2⟩
   exact ⟨n - (i + 1), by omega, x, rfl, rfl, hlt, g2, l2⟩
  ·obtain ⟨rfl, rfl⟩ := hyl i H' x' H2 g hlt y
   show tc (some (item i) :: σ) H2 _
   refine ht i H2 hlt g _ fun H3 g3 => ?_
   have hr : (List.range (i + 1)).filter c = (List.range i).filter c ++ (if c i = true then [i] else []) := by
    rw [List.range_succ, List.filter_append, List.filter_cons, List.filter_nil]
   refine ite2 (fun hc => ?_) (fun hc => ?_)
   ·refine he i H3 hlt hc (g.trans g3) _ fun H4 g4 => ?_
    have l4 := g4 _ _ (g3 _ _ hl)
    refine ⟨_, l4, ?_, some (item i), rfl, fun b o hb => ?_, ?_⟩
    ·rw [List.length_map]
     have := List.length_filter_le c (List.range i)
     rw [List.length_range] at this
     exact small1000 (by omega)
    ·have hne : b ≠ D := fun e => by rw [e, hD] at hb; cases hb
     rw [upd_ne hne]
     exact g4 _ _ (g3 _ _ (g _ _ hb))
    ·rw [upd_same, hr, if_pos hc, List.map_append]
     rfl
   ·refine ⟨some (item i), rfl, g.trans g3, ?_⟩
    rw [hr, if_neg hc, List.append_nil]
    exact g3 _ _ hl
 ·have e : i = n := by omega
  subst e
  exact .inl ⟨hst H' g, hq H' g hl⟩
theorem turns_range {lo : Int} {n : Nat} {tc : TT} {te : TE} {D : Addr} {Q : Hp → Prop} {σ : St} {H1 : Hp} (c : Nat → Bool) (v : Nat → V) (hD : H1 D = none) (hn : n ≤ 1000)
  (ht : ∀ i H', i < n → Same H1 H' → Tells tc (some (.int (lo + i)) :: σ) H' (c i)) (he : ∀ i H', i < n → c i = true → Same H1 H' → Gives te (some (.int (lo + i)) :: σ) H' (v i))
  (hq : ∀ H', Same H1 H' → H' D = some (.lst (((List.range n).filter c).map v)) → Q H') : tTurns (Itr lo n) (gName 0) tc te D Q (none :: σ) (upd H1 D (.lst [])) :=
 turns_gen (fun i => .int (lo + i)) c v hD hn (fun i _ _ h => h) (fun i H' x H2 _ _ y => y) (fun _ _ => Nat.le_refl _) ht he hq
theorem range_getD_filter {α : Type} (c : α → Bool) (d : α) : ∀ (xs : List α), ((List.range xs.length).filter fun i => c (xs.getD i d)).map (fun i => xs.getD i d) = xs.filter c
 | [] => rfl
 | x :: xs => by
  have ih := range_getD_filter c d xs
  rw [List.length_cons, List.range_succ_eq_map, List.filter_cons]
  have e1 : (x :: xs).getD 0 d = x := rfl
  rw [e1]
  have e2 : (List.map Nat.succ (List.range xs.length)).filter (fun i => c ((x :: xs).getD i d)) = (((List.range xs.length).filter fun i => c (xs.getD i d)).map Nat.succ) := by
   rw [List.filter_map]
   rfl
  by_cases hc : c x = true
  ·rw [if_pos hc, List.filter_cons, if_pos hc, List.map_cons, e2, List.map_map, ← ih]
   rfl
  ·rw [if_neg hc, List.filter_cons, if_neg hc, e2, List.map_map, ← ih]
   rfl
theorem turns_list {K : PySem.W.Frag} {a : Addr} {xs : List V} {tc : TT} {te : TE} {D : Addr} {Q : Hp → Prop} {σ : St} {H1 : Hp} (c : Nat → Bool) (v : Nat → V) (hS : SqL K H1 a xs) (hD : H1 D = none) (hn : xs.length ≤ 1000)
  (ht : ∀ i H', i < xs.length → Same H1 H' → Tells tc (some (xs.getD i .non) :: σ) H' (c i)) (he : ∀ i H', i < xs.length → c i = true → Same H1 H' → Gives te (some (xs.getD i .non) :: σ) H' (v i))
  (hq : ∀ H', Same H1 H' → H' D = some (.lst (((List.range xs.length).filter c).map v)) → Q H') : tTurns (Itl K a) (gName 0) tc te D Q (none :: σ) (upd H1 D (.lst [])) := by
 refine turns_gen (fun i => xs.getD i .non) c v hD hn (fun i H' g h => ⟨xs, xs[i], g.seq hS, List.getElem?_eq_getElem h⟩) (fun i H' x H2 g h y => ⟨y.1, ?_⟩) (fun H' g => ⟨xs, g.seq hS, Nat.le_refl _⟩) ht he hq
 have := y.2 xs (g.seq hS)
 rw [List.getElem?_eq_getElem h] at this
 rw [List.getD_eq_getElem?_getD, List.getElem?_eq_getElem h]
 exact (Option.some.inj this).symm
theorem while_by2 {c : TT} {tb : TS} {D : Ends} {σ : St} {H : Hp} (Pv : St → Hp → Prop) (μ : St → Hp → Nat) (h0 : Pv σ H)
  (hs : ∀ σ H, Pv σ H → c σ H fun b H1 => if b = true then ∃ N : St → Hp → Prop, (∀ σ' H', N σ' H' → ∃ m', m' < μ σ H ∧ m' = μ σ' H' ∧ Pv σ' H') ∧ tb { D with nx := N, ct := N, bk := D.nx } σ H1 else D.nx σ H1) : tWhile c tb D σ H := by
 refine ⟨fun m σ H => m = μ σ H ∧ Pv σ H, ⟨_, rfl, h0⟩, ?_⟩
 rintro m σ H ⟨rfl, p⟩
 exact hs σ H p
theorem next_by {tb : TS} {D : Ends} {σ : St} {H H1 : Hp} {Pv : St → Hp → Prop} {μ : St → Hp → Nat} (h : tb { D with nx := fun σ' H' => Pv σ' H' ∧ μ σ' H' < μ σ H, ct := fun σ' H' => Pv σ' H' ∧ μ σ' H' < μ σ H, bk := D.nx } σ H1) :
  ∃ N : St → Hp → Prop, (∀ σ' H', N σ' H' → ∃ m', m' < μ σ H ∧ m' = μ σ' H' ∧ Pv σ' H') ∧ tb { D with nx := N, ct := N, bk := D.nx } σ H1 := ⟨_, fun _ _ h => ⟨_, h.2, rfl, h.1⟩, h⟩
end L2
namespace L2
open PySem PySem.Spec PyProof.Rows
structure KDict (K : PySem.W.Frag) (w : World) (d : Addr) (kvs : List (Str × Tok × Value)) : Prop where
 lo : (d == sysModules) = false
 nd : (kvs.map (·.1)).Nodup
 at' : ∃ n, K.lookup d = some { cls := .type "dict", data := .dict (kvs.map fun e => ({ hash := PyData.keyHash w.params e.1, key := .str e.1 e.2.1, val := e.2.2 } : DictEntry)).toArray n }
section
variable {X : Cx} {d : Addr} {kvs : List (Str × Tok × Value)} {o i : Expr} {td ty : TE} {pos : Pos}
end
theorem getD_map_int (xs : List Int) {i : Nat} (h : i < xs.length) : (xs.map V.int).getD i .non = .int (xs.getD i 0) := by
 rw [List.getD_eq_getElem?_getD, List.getElem?_map, List.getElem?_eq_getElem h, List.getD_eq_getElem?_getD, List.getElem?_eq_getElem h]
 rfl
end L2
namespace L2
open PySem PySem.Spec PyProof.Rows
section
variable {X : Cx} (K : PySem.W.Frag)
theorem ix_listK (h : X.K = K := by rfl) : IxR X (rIxL K) := h ▸ ix_list
theorem ix_tupK (h : X.K = K := by rfl) : IxR X (rIxT K) := h ▸ ix_tup
theorem call_len_seqK (h : X.K = K := by rfl) : CallR X (.builtin "len") (fun xs H Q => ∃ p ys, xs = [.ref p] ∧ (SqL K H p ys ∨ SqT K H p ys) ∧ Q (.int ys.length) H) := h ▸ call_len_seq
end
end L2
namespace L2
open PySem PySem.Spec PyProof.Rows
section
variable {X : Cx}
theorem pe_bmK (K : PySem.W.Frag) {o e : Expr} {es : List Expr} {to : TE} {t : TA} {name : Str} {apos cpos : Pos} {T id : String} {r : V → List V → Hp → VK → Prop} (pa : PlainAttrs T) (slot : Slot T name id) (hty : typeOf (.builtin id) = pure (.type "method_descriptor")) (hm : MtR X id r) (ho : PE X o to) (ha : PA X (e :: es) t)
  (h : X.K = K := by rfl) (hbase : attributeBase o name X.env (eval o X.env) = eval o X.env := by rfl)
  (hfew : ((backTo cpos (starEach (e :: es) X.env)).all (fun x => !x.1) && (backToKw cpos (keywordEach [] X.env)).all (fun x => x.1.isSome)
   && decide ((e :: es).length + ([] : List Keyword).length + (if ([] : List Keyword).isEmpty then 0 else 1) < 30)) = true := by rfl)
  (hline : (apos.endLine == cpos.line) = true := by rfl) (hs : starEach (e :: es) X.env = (false, eval e X.env) :: starEach es X.env := by rfl) (hplain : (backTo cpos (starEach es X.env)).any (·.1) = false := by rfl) :
  PE X (.Call (.Attribute o name apos) (e :: es) [] cpos) (tBM K T r to t) := by
 subst h
 exact pe_bm pa slot hty hm ho ha hbase hfew hline hs hplain
end
def Ex (S : Addr → Prop) (H H' : Hp) : Prop := ∀ b o, ¬ S b → H b = some o → H' b = some o
theorem Ex.refl {S : Addr → Prop} {H : Hp} : Ex S H H := fun _ _ _ h => h
theorem Ex.trans {S : Addr → Prop} {H H1 H2 : Hp} (a : Ex S H H1) (b : Ex S H1 H2) : Ex S H H2 := fun c o n h => b c o n (a c o n h)
theorem Ex.same {S : Addr → Prop} {H H1 : Hp} (a : Same H H1) : Ex S H H1 := fun c o _ h => a c o h
theorem Ex.put {S : Addr → Prop} {H : Hp} {p : Addr} (o : HO) (hp : S p) : Ex S H (upd H p o) := fun c o' n h => by
 have : c ≠ p := fun e => n (e ▸ hp)
 rw [upd_ne this]; exact h
theorem Ex.new {S : Addr → Prop} {H : Hp} {p : Addr} (o : HO) (hp : H p = none) : Ex S H (upd H p o) := Ex.same (Same.new hp o)
theorem Ex.wide {S S' : Addr → Prop} {H H1 : Hp} (a : Ex S H H1) (h : ∀ b, S b → S' b) : Ex S' H H1 := fun c o n e => a c o (fun z => n (h c z)) e
theorem pick_int (xs : List Int) {r : Int} (h0 : 0 ≤ r) (h1 : r < (xs.length : Nat)) : ∃ v, atI (xs.map V.int) r = some (.int v) ∧ v ∈ xs := by
 have hj : r.toNat < xs.length := by omega
 have e : r = ((r.toNat : Nat) : Int) := by omega
 refine ⟨xs[r.toNat], ?_, List.getElem_mem hj⟩
 have q : atI (xs.map V.int) ((r.toNat : Nat) : Int) = some (.int xs[r.toNat]) := atI_nat (by rw [List.getElem?_map, List.getElem?_eq_getElem hj] <;> rfl)
 rw [← e] at q
 exact q
theorem putK_keys {kvs : List (Key × V)} {ks : List Int} {x : Int} {v : V} (h : kvs.map (·.1) = ks.map Sum.inl) : (putK kvs (Sum.inl x) v).map (·.1) = (if x ∈ ks then ks else ks ++ [x]).map Sum.inl := by
 unfold putK
 have key : (kvs.any fun kv => decide (kv.1 = Sum.inl x)) = decide (x ∈ ks) := by
  have e1 : (kvs.any fun kv => decide (kv.1 = Sum.inl x)) = (kvs.map (·.1)).any fun k => decide (k = Sum.inl x) := by rw [List.any_map]; rfl
  rw [e1, h, List.any_map, Bool.eq_iff_iff, List.any_eq_true, decide_eq_true_iff]
  constructor
  ·rintro ⟨y, hy, e⟩
   have e' : (Sum.inl y : Key) = Sum.inl x := of_decide_eq_true e
   cases e'
   exact hy
  ·intro hx
   exact ⟨x, hx, decide_eq_true rfl⟩
 rw [key]
 by_cases hx : x ∈ ks
 ·rw [decide_eq_true hx, if_pos rfl, if_pos hx, ← h, List.map_map]
  refine List.map_congr_left fun kv _ => ?_
  show (if kv.1 = Sum.inl x then (kv.1, v) else kv).1 = kv.1
  split <;> rfl
 ·rw [decide_eq_false hx, if_neg Bool.false_ne_true, if_neg hx, List.map_append, List.map_append, h]
  rfl
inductive CInts : List Expr → List Int → Prop where
 | nil : CInts [] []
 | cons {n : Int} {j : Nat} {p : Pos} {es : List Expr} {ns : List Int} : CInts es ns → CInts (.Constant (.int n) j p :: es) (n :: ns)
inductive CLists : List Expr → List (List Int) → Prop where
 | nil : CLists [] []
 | cons {fs es : List Expr} {ns : List Int} {nss : List (List Int)} {p : Pos} : CInts fs ns → CLists es nss → CLists (.List fs p :: es) (ns :: nss)
section
variable {X : Cx}
end
end L2
namespace L2
open PySem PySem.Spec PyProof.Rows
theorem inV_int (x : Int) : ∀ xs : List Int, inV (.int x) (xs.map V.int) = xs.contains x
 | [] => rfl
 | y :: r => by
  have ih := inV_int x r
  unfold inV at ih ⊢
  rw [List.map_cons, List.any_cons, ih, List.contains_cons]
  have e : eqV (.int y) (.int x) = (x == y) := by
   show (y == x) = (x == y)
   exact Bool.eq_iff_iff.mpr ⟨fun h => beq_iff_eq.mpr (beq_iff_eq.mp h).symm, fun h => beq_iff_eq.mpr (beq_iff_eq.mp h).symm⟩
  rw [e]
theorem flat_ints : ∀ xs : List Int, (xs.map V.int).all flatV = true
 | [] => rfl
 | _ :: r => by rw [List.map_cons, List.all_cons, flat_ints r]; rfl
section
variable {X : Cx} (K : PySem.W.Frag)
def rInI (K : PySem.W.Frag) (neg : Bool) : R2 := fun x y H Q => ∃ (p : Addr) (i : Int) (xs : List Int), x = .int i ∧ y = .ref p ∧ SqL K H p (xs.map V.int) ∧ Q (.bl (if neg then !xs.contains i else xs.contains i)) H
theorem op_inI (h : X.K = K := by rfl) : OpR X (compareOp .In) (rInI K false) := by
 intro pins s σ H x y v u Q I rx ry ⟨p, i, xs, e1, e2, hs, q⟩
 subst e1 e2
 refine op_in_seq pins s σ H _ _ v u Q I rx ry ⟨p, xs.map V.int, rfl, .inl (h ▸ hs), rfl, flat_ints xs, ?_⟩
 rw [inV_int]
 exact q
theorem op_notInI (h : X.K = K := by rfl) : OpR X (compareOp .NotIn) (rInI K true) := by
 intro pins s σ H x y v u Q I rx ry ⟨p, i, xs, e1, e2, hs, q⟩
 subst e1 e2
 refine op_notIn_seq pins s σ H _ _ v u Q I rx ry ⟨p, xs.map V.int, rfl, .inl (h ▸ hs), rfl, flat_ints xs, ?_⟩
 rw [inV_int]
 exact q
end
end L2
namespace L2
open PySem PySem.Spec PyProof.Rows
def Ite (a : Addr) : It :=
 ⟨fun i H => ∃ xs x, H a = some (.lst xs) ∧ xs[i]? = some x, fun i H x H' => ∃ T xs y, H T = none ∧ H a = some (.lst xs) ∧ xs[i]? = some y ∧ x = .ref T ∧ H' = upd H T (.tup [.int i, y]), fun i H => ∃ xs, H a = some (.lst xs) ∧ xs.length ≤ i⟩
theorem turns_any {J : It} {n : Nat} {g : TG} {tc : TT} {te : TE} {D : Addr} {Q : Hp → Prop} {σ0 : St} {H0 : Hp} (W : Nat → St → Hp → Prop) (h0 : W 0 σ0 H0)
  (step : ∀ i σ H, i < n → W i σ H → J.go i H ∧ ∀ x H', J.yld i H x H' → g x σ H' fun σ2 H2 => tc σ2 H2 fun b H3 =>
   if b = true then te σ2 H3 fun v H4 => ∃ zs, H4 D = some (.lst zs) ∧ zs.length < sizeLine ∧ W (i + 1) σ2 (upd H4 D (.lst (zs ++ [v]))) else W (i + 1) σ2 H3)
  (stop : ∀ σ H, W n σ H → J.stop n H ∧ Q H) : tTurns J g tc te D Q σ0 H0 := by
 refine ⟨fun i m σ H => m = n - i ∧ i ≤ n ∧ W i σ H, ⟨n, rfl, Nat.zero_le _, h0⟩, ?_⟩
 rintro i m σ H ⟨rfl, hi, w⟩
 by_cases hlt : i < n
 ·obtain ⟨hg, hy⟩ := step i σ H hlt w
  exact .inr ⟨hg, W (i + 1), fun σ' H' w' => ⟨n - (i + 1), by omega, rfl, hlt, w'⟩, hy⟩
 ·have e : i = n := by omega
  subst e
  exact .inl (stop σ H w)
theorem turns_enum {K : PySem.W.Frag} {a : Addr} {xs : List V} {tc : TT} {te : TE} {D : Addr} {Q : Hp → Prop} {σ : St} {H1 : Hp} (c : Nat → Bool) (v : Nat → V) (hS : H1 a = some (.lst xs)) (hD : H1 D = none) (hn : xs.length ≤ 1000)
  (ht : ∀ i H', i < xs.length → Same H1 H' → Tells tc (some (.int (i : Int)) :: some (xs.getD i .non) :: σ) H' (c i)) (he : ∀ i H', i < xs.length → c i = true → Same H1 H' → Gives te (some (.int (i : Int)) :: some (xs.getD i .non) :: σ) H' (v i))
  (hq : ∀ H', Same H1 H' → H' D = some (.lst (((List.range xs.length).filter c).map v)) → Q H') : tTurns (Ite a) (gTup K 2 (gCons (gName 0) (gCons (gName 1) gNil))) tc te D Q (none :: none :: σ) (upd H1 D (.lst [])) := by
 refine turns_any (n := xs.length) (fun i σ' H' => ∃ x y, σ' = x :: y :: σ ∧ Same H1 H' ∧ H' D = some (.lst (((List.range i).filter c).map v))) ⟨none, none, rfl, Same.new hD _, upd_same⟩ ?_ ?_
 ·rintro i σ' H' hi ⟨x, y, rfl, g, hl⟩
  refine ⟨⟨xs, xs[i], g _ _ hS, List.getElem?_eq_getElem hi⟩, fun z H2 hz => ?_⟩
  obtain ⟨T, ys, u, hT, hy, hu, rfl, rfl⟩ := hz
  rw [g _ _ hS] at hy
  cases hy
  have eu : xs.getD i .non = u := by rw [List.getD_eq_getElem?_getD, hu]; rfl
  have g2 : Same H1 (upd H' T (.tup [.int (i : Int), u])) := fun b o hb => by
   have h1 := g _ _ hb
   rw [upd_ne (ne_of_none h1 hT)]; exact h1
  have hl2 : (upd H' T (.tup [.int (i : Int), u])) D = some (.lst (((List.range i).filter c).map v)) := by rw [upd_ne (ne_of_none hl hT)]; exact hl
  refine ⟨T, _, rfl, SqT.of upd_same, rfl, _, _, rfl, _, _, rfl, rfl, ?_⟩
  show tc (some (.int (i : Int)) :: some u :: σ) _ _
  rw [← eu] at g2 hl2 ⊢
  generalize upd H' T (.tup [.int (i : Int), xs.getD i .non]) = H3 at g2 hl2 ⊢
  refine ht i H3 hi g2 _ fun H4 g4 => ?_
  have hr : (List.range (i + 1)).filter c = (List.range i).filter c ++ (if c i = true then [i] else []) := by
   rw [List.range_succ, List.filter_append, List.filter_cons, List.filter_nil]
  refine ite2 (fun hc => ?_) (fun hc => ?_)
  ·refine he i H4 hi hc (g2.trans g4) _ fun H5 g5 => ?_
   have l5 := g5 _ _ (g4 _ _ hl2)
   refine ⟨_, l5, ?_, _, _, rfl, fun b o hb => ?_, ?_⟩
   ·rw [List.length_map]
    have := List.length_filter_le c (List.range i)
    rw [List.length_range] at this
    exact small1000 (by omega)
   ·have hne : b ≠ D := fun e => by rw [e, hD] at hb; cases hb
    rw [upd_ne hne]
    exact g5 _ _ (g4 _ _ (g2 _ _ hb))
   ·rw [upd_same, hr, if_pos hc, List.map_append]
    rfl
  ·refine ⟨_, _, rfl, g2.trans g4, ?_⟩
   rw [hr, if_neg hc, List.append_nil]
   exact g4 _ _ hl2
 ·rintro σ' H' ⟨x, y, rfl, g, hl⟩
  exact ⟨⟨xs, g _ _ hS, Nat.le_refl _⟩, hq H' g hl⟩
theorem fltT {α : Type} (l : List α) : l.filter (fun _ => true) = l := List.filter_eq_self.mpr fun _ _ => rfl
theorem rgD {α : Type} (xs : List α) (d : α) : (List.range xs.length).map (fun i => xs.getD i d) = xs := by
 have h := range_getD_filter (fun _ : α => true) d xs
 rw [fltT, fltT] at h
 exact h
def slotN (i : Nat) (σ : St) : Nat := match σ[i]? with
 | some (some (.int v)) => v.toNat
 | _ => 0
theorem small2000 {n : Nat} (h : n ≤ 2000) : n < sizeLine := by rw [sizeLine_eq]; omega
section
variable {X : Cx} {pins : List (Addr × Obj)} {σ : St} {H : Hp} {s : Shared}
theorem Inv.turnedL {h' : Heap} {t' : Nat} {fp : List Addr} (I : Inv X pins σ H s) (k : ∀ b o, b ∉ fp → s.heap.get? b = some o → h'.get? b = some o) (hf : ∀ b ∈ fp, FpOk X pins H b) : Inv X pins σ H { s with heap := h', toks := t' } := by
 have nit : ∀ b u, H b = some u → b ∉ fp := fun b u e z => by rw [(hf b z).1] at e; cases e
 refine I.step (g' := s.gens) (d' := s.drawn) (ch := fp) (fun b hb => ?_) (fun b o _ _ hc e _ => k b o hc e) (fun b o _ _ hc e _ => ⟨o.slots, k b o hc e⟩) (fun _ _ _ _ n => n)
  (fun b o hc e => ⟨o, k b o hc e⟩) (fun _ _ e => e) (fun _ _ _ e => e) (fun b ps e => ⟨#[], by rw [e]; simp⟩) (fun m hm => ?_) (fun b u e => ?_) I.bare
 ·obtain ⟨_, f1, _, f3, f4, f5⟩ := hf b hb
  exact ⟨f3, f1, f4, f5⟩
 ·obtain ⟨o, es, ep, ho, r⟩ := hm
  exact ⟨o, es, ep, k _ o (fun z => (hf _ z).2.1 rfl) ho, r⟩
 ·refine (I.hok b u e).stay (fun c v hc q => k c v ?_ q) (fun _ q => q) fun _ _ q => q
  rcases hc with z | z
  ·rw [z]; exact nit b u e
  ·exact nit c _ z
end
theorem turn_enum {P : Program} {w : World} {K : PySem.W.Frag} {es : List Expr} {k : Nat} {pos : Pos} (a e it : Addr) (hei : e ≠ it) :
  Turn P w K (.Tuple es k pos) (Ite a) [e, it] e (fun i h => (∃ old, IsEnum h e it ((i : Nat) : Int) old) ∧ h.IsListIter it a i) where
 mem := by simp
 obj := fun i h st b hb => by
  obtain ⟨⟨old, he⟩, o, e1, c, d⟩ := st
  rcases List.mem_cons.mp hb with z | z
  ·subst z
   exact ⟨_, he, fun v z => by cases z⟩
  ·have z : b = it := by simpa using z
   subst z
   exact ⟨o, e1, fun v z => by rw [d] at z; cases z⟩
 keep := fun i h h' st k => ⟨let ⟨old, he⟩ := st.1; ⟨old, k e (by simp) _ he⟩, st.2.at fun o e => k it (by simp) o e⟩
 item := by
  intro X hP hw hK hc i pins s σ H E I hf st hg
  subst hP hw hK
  obtain ⟨xs, x, hq, hx⟩ := hg
  obtain ⟨hz, its, n, r, hl, ea⟩ := I.lstM hq
  obtain ⟨u, hu, ru⟩ := r.get hx
  obtain ⟨⟨old, he⟩, hit⟩ := st
  have hL : s.heap.IsList a its.toArray := ⟨_, ea, rfl, n, rfl⟩
  have helt : e < s.heap.objs.size := Heap.lt_size he
  have hilt : it < s.heap.objs.size := by obtain ⟨_, x, _⟩ := id hit; exact Heap.lt_size x
  have hun : ∀ b ∈ [e, it], b < s.heap.objs.size := fun b hb => by
   rcases List.mem_cons.mp hb with z | z
   ·rw [z]; exact helt
   ·rw [show b = it by simpa using z]; exact hilt
  refine wpAny_pyNext_enum_item he hit hL (x := u) (by simpa using hu) hei fun h' ho hit' hT hsz hk => ?_
  refine ⟨_, rfl, wpAny_letOwnedTupleGo_enum ho fun h2 he2 hs2 => ?_⟩
  replace hs2 : Heap.SameBut e h' h2 := hs2
  have I1 : Inv X pins σ (upd H s.heap.objs.size (.tup [.int i, x])) { s with heap := s.heap.push { cls := .type "tuple", data := .seq #[.int i s.toks, u] }, toks := s.toks + 1 } :=
   I.laid (fun b o q => Heap.get?_push_of_some _ q) (Nat.le_refl _) ⟨by show 2 ≤ sizeLine; decide, [.int i s.toks, u], .cons ⟨_, rfl⟩ (.cons ru .nil), ⟨_, Heap.get?_push_size _ rfl, rfl, _, rfl⟩⟩
  have frs : ∀ b ∈ [e, it], upd H s.heap.objs.size (.tup [.int i, x]) b = none := fun b hb => by
   rw [upd_ne (Nat.ne_of_lt (hun b hb))]; exact (hf b hb).1
  have I2 : Inv X pins σ (upd H s.heap.objs.size (.tup [.int i, x])) { s with heap := h2, toks := s.toks + 1 } := by
   refine Inv.turnedL (s := { s with heap := s.heap.push { cls := .type "tuple", data := .seq #[.int i s.toks, u] }, toks := s.toks + 1 }) (h' := h2) (t' := s.toks + 1) (fp := [e, it]) I1 (fun b o hb q => ?_) (fun b hb => ⟨frs b hb, (hf b hb).2⟩)
   have n1 : b ≠ e := fun z => hb (by simp [z])
   have n2 : b ≠ it := fun z => hb (by simp [z])
   refine (hs2.2 b n1).trans ?_
   rcases Heap.get?_push_cases q with ⟨eb, eo⟩ | q
   ·rw [eb, eo]; exact hT
   ·exact hk b o n1 n2 q
  refine ⟨.ref s.heap.objs.size, _, I2, rfl, ⟨_, xs, x, I.fresh, hq, hx, rfl, rfl⟩, ⟨⟨u, ?_⟩, ?_⟩, frs⟩
  ·have e1 : (((i + 1 : Nat)) : Int) = (i : Int) + 1 := by simp
   rw [e1]; exact he2
  ·exact hit'.at fun o y => (hs2.2 it hei.symm).trans y
 done := by
  intro X hP hw hK hc i pins s σ H E I hf st hg
  subst hP hw hK
  obtain ⟨xs, hq, hx⟩ := hg
  obtain ⟨hz, its, n, r, hl, ea⟩ := I.lstM hq
  obtain ⟨⟨old, he⟩, hit⟩ := st
  have hL : s.heap.IsList a its.toArray := ⟨_, ea, rfl, n, rfl⟩
  exact wpAny_pyNext_enum_end (I.ok.hd hc) he hit hL (by simp; omega) fun h' eb => ⟨rfl, I.turnedL (t' := s.toks) (fp := [e, it]) (fun b o hb q => eb b o (fun z => hb (by simp [z])) q) hf⟩
 self := fun _ _ _ _ _ st h => let ⟨_, he⟩ := st.1; wpAny_pyIter_enum he h
section
variable {X : Cx}
def iEnum (ta : TA) : TI := fun σ H R => ta σ H fun vs H1 => ∃ a xs, vs = [.ref a] ∧ H1 a = some (.lst xs) ∧ R (Ite a) H1
theorem pg_tupK (K : PySem.W.Frag) {es : List Expr} {k : Nat} {t : TGs} {n : Nat} {pos : Pos} (hc : X.calm = true) (h : PGs X es t) (hK : X.K = K := by rfl)
  (hn : (assignEach es X.env).length = n := by rfl) (hst : (assignEach es X.env).findIdx? (·.1) = none := by rfl) : PG X (.Tuple es k pos) (gTup K n t) := hK ▸ pg_tup hc h hn hst
theorem boot_enumerate : bootBuiltins "enumerate" = some (.type "enumerate") := by decide +kernel
theorem pi_enum {es : List Expr} {k : Nat} {tp : Pos} {a : Expr} {ta : TA} {p pos : Pos} (hg : Gl X "enumerate") (hm : X.mg "enumerate" = none) (ha : PA X [a] ta) (hs : starEach [a] X.env = [(false, eval a X.env)] := by rfl) :
  PI X (.Tuple es k tp) (.Call (.Name "enumerate" p) [a] [] pos) (iEnum ta) := by
 intro pins s σ H R I h
 refine wpAny_Call_Name_kw (ld_blt I hg hm boot_enumerate ?_ (by decide) (by decide))
 refine PyProof.Rows.callWith_type1 (thn (ha pos pins s σ H _ I h) fun us s1 ⟨vs, H1, I1, r1, q1⟩ => ?_) hs rfl
 obtain ⟨a, xs, e, hq, q⟩ := q1
 subst e
 obtain ⟨u, rfl, ru⟩ := r1.one
 cases ru
 obtain ⟨hz, its, n, r, hl, ea⟩ := I1.lstM hq
 refine call_enumerate_1 ea fun h' he hit hsz hk => ?_
 refine wpAny_pyIter_enum he ?_
 have I2 : Inv X pins σ H1 { s1 with heap := h' } := I1.kept (t' := s1.toks) hk
 refine ⟨s1.heap.objs.size + 1, [s1.heap.objs.size + 1, s1.heap.objs.size], _, _, H1, rfl, I2, turn_enum a _ _ (Nat.succ_ne_self _), ⟨⟨_, he⟩, hit⟩, fun b hb => ?_, q⟩
 rcases List.mem_cons.mp hb with z | z
 ·subst z; exact I1.fpOk (Nat.le_succ _) (I1.hok.fresh (Nat.le_succ _))
 ·have z : b = s1.heap.objs.size := by simpa using z
  subst z; exact I1.fpOk (Nat.le_refl _) (I1.hok.fresh (Nat.le_refl _))
theorem pt_valI {e : Expr} {t : TE} (h : PE X e t) (he : ∀ whole, isTrue e X.env whole = (do let v ← whole; standAt e.pos; holding [v] (truthy v)) := by intro _; rfl) : PT X e (fun σ H Q => t σ H fun x H1 => ∃ i, x = .int i ∧ Q (i != 0) H1) := by
 intro pins s σ H Q I hw
 refine isTrue_plain (thn (h pins s σ H _ I hw) fun v s1 ⟨x, H1, I1, r1, i, ex, q⟩ => ?_) (he _)
 subst ex
 obtain ⟨tk, rfl⟩ := r1
 exact PySem.P.truthy_int ⟨H1, I1, q⟩
end
structure Base (K : PySem.W.Frag) (C : Addr) (mc : Value) (m : Str) (f : Addr) : Prop where
 ga : PySem.W.specialIn K (.ref C) "__getattribute__" = some (some (.builtin "type.__getattribute__"))
 rd : PySem.W.readsIn K C mc = true
 at_ : PySem.W.findCls K (.ref C) mc m = some (.val (.ref f))
 kp : PySem.W.keepIn K (.ref f) = true
section
variable {X : Cx} {CX : CXT} {k : Nat} {f C : Addr} {mc : Value} {fd : FuncData} {ps : List Str} {sp : Sp} {dvs : List V} {ds : List Value} {E : XK} {x m : Str} {p pos apos : Pos} {e : Expr} {es : List Expr} {t : TA}
theorem pe_base {pl : Sem Bool} (B : Base X.K C mc m f) (F : FnOk X.prog X.w X.K X.mg X.base CX k f fd ps sp) (hr : Room k X.A) (hg : Gl X x) (hm : X.mg x = some (.ref C)) (hb : Binds X.K fd ps ds) (hd : Vals dvs ds) (hx : Passes CX X E) (ha : PA X (e :: es) t)
  (hdb : (x == ("__debug__" : Str)) = false := by decide) (hst : starEach (e :: es) X.env = (false, eval e X.env) :: starEach es X.env := by rfl) (hpl : (backTo pos (starEach es X.env)).any (·.1) = false := by rfl)
  (ht : eval (.Call (.Attribute (.Name x p) m apos) (e :: es) [] pos) X.env = (do
   let ov ← eval (.Name x p) X.env
   standAt apos.atName
   let (f, first) ← holding [ov] (getMethod ov m pl)
   callWith pos f first (backTo pos (starEach (e :: es) X.env)) (backToKw pos (keywordEach [] X.env))) := by rfl) :
  PE X (.Call (.Attribute (.Name x p) m apos) (e :: es) [] pos) (tCall sp dvs E t) := by
 intro pins s σ H Q I h
 refine PySem.W.methodCall_KW (pl := pl) (thn (pe_glob (v := .ref C) (pos := p) hg hm rfl hdb pins s σ H (fun v H1 => v = .ref C ∧ H1 = H) I ⟨rfl, rfl⟩) fun u s1 ⟨x, H1, I1, rx, ex, eH⟩ => ?_) ht
 subst ex eH
 obtain rfl : u = Value.ref C := rx
 refine PySem.W.method_cls I1.kIn B.ga (PySem.W.cls_value I1.kIn B.rd B.at_ rfl ?_)
 have I2 : Inv X pins σ H1 { s1 with toks := s1.toks + 1 } := I1.tok _
 refine PySem.W.callWith_K (first := []) (h₀ := X.base) I2.ok.mod.kin B.kp (thn (ha pos pins _ σ H1 _ I2 h) fun us s2 ⟨vs, H2, I3, r, q2⟩ => ⟨I3.kIn, ?_⟩) hst hpl
 exact run_fn F hr hb hd hx I3 r q2
end
end L2
namespace L2
open PySem PySem.Spec PyProof.Rows
section
variable {X : Cx}
theorem call_sumL (hcalm : X.calm = true) : CallR X (.builtin "sum") (fun vs H Q => ∃ (p : Addr) (ns : List Int), vs = [.ref p] ∧ H p = some (.lst (ns.map V.int)) ∧ Q (.int ns.sum) H) := by
 intro pins s σ H xs us Q I r h
 obtain ⟨p, ns, rfl, hq, q⟩ := h
 obtain ⟨u, rfl, ru⟩ := r.one
 cases ru
 obtain ⟨its, rv, pl, hz⟩ := I.list (SqL.of hq)
 have hi := vals_intsAre rv
 obtain ⟨ws, e⟩ := hi.allInts.items
 have hns : ns = ws.toList.map (·.1) := by rw [← hi.numsOf, ← nums_intItems, ← e]
 refine sum_intListG (I.ok.hd hcalm) (l := p) (xs := ws) (e ▸ pl.isList) fun h' tk t' hk => ⟨.int _, H, I.kept hk, ⟨t', rfl⟩, ?_⟩
 have es : preSum (numAt ws) ws.size = ns.sum := by rw [hns, preSum_eq, List.take_of_length_le (by simp)]
 rw [es]
 exact q
end
def Itz (a b : Addr) : It :=
  ⟨fun i H => ∃ xs ys x y, H a = some (.lst xs) ∧ H b = some (.lst ys) ∧ xs[i]? = some x ∧ ys[i]? = some y,
   fun i H v H' => ∃ T xs ys x y, H T = none ∧ H a = some (.lst xs) ∧ H b = some (.lst ys) ∧ xs[i]? = some x ∧ ys[i]? = some y ∧ v = .ref T ∧ H' = upd H T (.tup [x, y]),
   fun i H => ∃ xs ys, H a = some (.lst xs) ∧ H b = some (.lst ys) ∧ (xs.length ≤ i ∨ ys.length ≤ i)⟩
theorem turn_zip {P : Program} {w : World} {K : PySem.W.Frag} {es : List Expr} {k : Nat} {pos : Pos} {a b z TI TO i1 i2 : Addr} (D : ZipApart z TI TO i1 i2 a b) :
  Turn P w K (.Tuple es k pos) (Itz a b) [z, TI, TO, i1, i2] z (fun i h => IsZip h z TI TO .none ∧ IsPair h TI (.ref i1) (.ref i2) ∧ (∃ u v, IsPair h TO u v) ∧ h.IsListIter i1 a i ∧ h.IsListIter i2 b i) where
 mem := by simp
 obj := fun i h st c hc => by
  obtain ⟨hz, hTI, ⟨u, v, hTO⟩, h1, h2⟩ := st
  simp only [List.mem_cons, List.not_mem_nil, or_false] at hc
  rcases hc with rfl | rfl | rfl | rfl | rfl
  ·exact ⟨_, hz, fun v z => by cases z⟩
  ·exact ⟨_, hTI, fun v z => by cases z⟩
  ·exact ⟨_, hTO, fun v z => by cases z⟩
  ·obtain ⟨o, e1, c, d⟩ := h1
   exact ⟨o, e1, fun v z => by rw [d] at z; cases z⟩
  ·obtain ⟨o, e1, c, d⟩ := h2
   exact ⟨o, e1, fun v z => by rw [d] at z; cases z⟩
 keep := fun i h h' st k => by
  obtain ⟨hz, hTI, ⟨u, v, hTO⟩, h1, h2⟩ := st
  exact ⟨k z (by simp) _ hz, k TI (by simp) _ hTI, ⟨u, v, k TO (by simp) _ hTO⟩, h1.at fun o e => k i1 (by simp) o e, h2.at fun o e => k i2 (by simp) o e⟩
 item := by
  intro X hP hw hK hc i pins s σ H E I hf st hg
  subst hP hw hK
  obtain ⟨xs, ys, x, y, hqa, hqb, hx, hy⟩ := hg
  obtain ⟨_, its1, n1, r1, hl1, ea⟩ := I.lstM hqa
  obtain ⟨_, its2, n2, r2, hl2, eb⟩ := I.lstM hqb
  obtain ⟨u1, hu1, ru1⟩ := r1.get hx
  obtain ⟨u2, hu2, ru2⟩ := r2.get hy
  obtain ⟨hz, hTI, ⟨p, q, hTO⟩, h1, h2⟩ := st
  have hA : s.heap.IsList a its1.toArray := ⟨_, ea, rfl, n1, rfl⟩
  have hB : s.heap.IsList b its2.toArray := ⟨_, eb, rfl, n2, rfl⟩
  have lt : ∀ c ∈ [z, TI, TO, i1, i2], c < s.heap.objs.size := fun c hc => by
   simp only [List.mem_cons, List.not_mem_nil, or_false] at hc
   rcases hc with rfl | rfl | rfl | rfl | rfl
   ·exact Heap.lt_size hz
   ·exact Heap.lt_size hTI
   ·exact Heap.lt_size hTO
   ·obtain ⟨_, e, _⟩ := h1; exact Heap.lt_size e
   ·obtain ⟨_, e, _⟩ := h2; exact Heap.lt_size e
  refine wpAny_pyNext_zip_item D hz hTI hTO h1 h2 hA hB (x := u1) (y := u2) (by simpa using hu1) (by simpa using hu2) fun h' a1 a2 a3 a4 a5 a6 hk => ?_
  refine ⟨_, rfl, wpAny_letOwnedTupleGo_zip a1 fun h2' hz2 hs2 => ?_⟩
  replace hs2 : Heap.SameBut z h' h2' := hs2
  have I1 : Inv X pins σ (upd H s.heap.objs.size (.tup [x, y])) { s with heap := s.heap.push { cls := .type "tuple", data := .seq #[u1, u2] }, toks := s.toks } :=
   I.laid (fun b o q => Heap.get?_push_of_some _ q) (Nat.le_refl _) ⟨by show 2 ≤ sizeLine; decide, [u1, u2], .cons ru1 (.cons ru2 .nil), ⟨_, Heap.get?_push_size _ rfl, rfl, _, rfl⟩⟩
  have frs : ∀ c ∈ [z, TI, TO, i1, i2], upd H s.heap.objs.size (.tup [x, y]) c = none := fun c hc => by
   rw [upd_ne (Nat.ne_of_lt (lt c hc))]; exact (hf c hc).1
  have I2 : Inv X pins σ (upd H s.heap.objs.size (.tup [x, y])) { s with heap := h2', toks := s.toks } := by
   refine Inv.turnedL (s := { s with heap := s.heap.push { cls := .type "tuple", data := .seq #[u1, u2] }, toks := s.toks }) (h' := h2') (t' := s.toks) (fp := [z, TI, TO, i1, i2]) I1 (fun c o hc q => ?_) (fun c hc => ⟨frs c hc, (hf c hc).2⟩)
   have n1 : c ≠ z := fun e => hc (by simp [e])
   refine (hs2.2 c n1).trans ?_
   rcases Heap.get?_push_cases q with ⟨ec, eo⟩ | q
   ·rw [ec, eo]; exact a5
   ·exact hk c o n1 (fun e => hc (by simp [e])) (fun e => hc (by simp [e])) (fun e => hc (by simp [e])) q
  refine ⟨.ref s.heap.objs.size, _, I2, rfl, ⟨_, xs, ys, x, y, I.fresh, hqa, hqb, hx, hy, rfl, rfl⟩, ⟨hz2, ?_, ⟨_, _, hs2.extBut _ _ D.TOz a2⟩, a3.extBut hs2.extBut D.i1z, a4.extBut hs2.extBut D.i2z⟩, frs⟩
  exact hs2.extBut _ _ D.TIz (hk _ _ D.TIz D.TITO D.TIi1 D.TIi2 hTI)
 done := by
  intro X hP hw hK hc i pins s σ H E I hf st hg
  subst hP hw hK
  obtain ⟨xs, ys, hqa, hqb, hend⟩ := hg
  obtain ⟨_, its1, n1, r1, hl1, ea⟩ := I.lstM hqa
  obtain ⟨_, its2, n2, r2, hl2, eb⟩ := I.lstM hqb
  obtain ⟨hz, hTI, ⟨p, q, hTO⟩, h1, h2⟩ := st
  have hA : s.heap.IsList a its1.toArray := ⟨_, ea, rfl, n1, rfl⟩
  have hB : s.heap.IsList b its2.toArray := ⟨_, eb, rfl, n2, rfl⟩
  have he : its1.toArray[i]? = none ∨ its2.toArray[i]? = none := by
   rcases hend with z | z
   ·exact .inl (by simp; omega)
   ·exact .inr (by simp; omega)
  exact wpAny_pyNext_zip_end (I.ok.hd hc) D hz hTI hTO h1 h2 hA hB he fun h' hk => ⟨rfl, I.turnedL (t' := s.toks) (fp := [z, TI, TO, i1, i2]) (fun c o hc q => hk c o (fun e => hc (by simp [e])) (fun e => hc (by simp [e])) (fun e => hc (by simp [e])) (fun e => hc (by simp [e])) q) hf⟩
 self := fun _ _ _ _ _ st h => wpAny_pyIter_zip st.1 h
section
variable {X : Cx}
def iZip (ta : TA) : TI := fun σ H R => ta σ H fun vs H1 => ∃ a b xs ys, vs = [.ref a, .ref b] ∧ H1 a = some (.lst xs) ∧ H1 b = some (.lst ys) ∧ R (Itz a b) H1
theorem pi_zip {es : List Expr} {k : Nat} {tp : Pos} {a b : Expr} {ta : TA} {p pos : Pos} (hg : Gl X "zip") (hm : X.mg "zip" = none) (ha : PA X [a, b] ta) (hs : starEach [a, b] X.env = (false, eval a X.env) :: starEach [b] X.env := by rfl) (hpl : (backTo pos (starEach [b] X.env)).any (·.1) = false := by rfl) :
  PI X (.Tuple es k tp) (.Call (.Name "zip" p) [a, b] [] pos) (iZip ta) := by
 intro pins s σ H R I h
 refine wpAny_Call_Name_kw (ld_blt I hg hm boot_zip ?_ (by decide) (by decide))
 refine PyProof.Rows.callWith_type1 (thn (ha pos pins s σ H _ I h) fun us s1 ⟨vs, H1, I1, r1, q1⟩ => ?_) hs hpl
 obtain ⟨a, b, xs, ys, e, hqa, hqb, q⟩ := q1
 subst e
 obtain ⟨u1, u2, rfl, ru1, ru2⟩ : ∃ u1 u2, us = [u1, u2] ∧ RelV (.ref a) u1 ∧ RelV (.ref b) u2 := by
  cases r1 with
  | cons x1 t1 =>
   cases t1 with
   | cons x2 t2 =>
    cases t2
    exact ⟨_, _, rfl, x1, x2⟩
 cases ru1
 cases ru2
 obtain ⟨_, its1, n1, rv1, hl1, ea⟩ := I1.lstM hqa
 obtain ⟨_, its2, n2, rv2, hl2, eb⟩ := I1.lstM hqb
 refine call_zip_2 (xs := its1.toArray) (ys := its2.toArray) ⟨_, ea, rfl, n1, rfl⟩ ⟨_, eb, rfl, n2, rfl⟩ fun h' hz hTI hTO hi1 hi2 hsz hk => ?_
 refine wpAny_pyIter_zip hz ?_
 have I2 : Inv X pins σ H1 { s1 with heap := h' } := I1.kept (t' := s1.toks) hk
 refine ⟨s1.heap.objs.size + 4, [s1.heap.objs.size + 4, s1.heap.objs.size + 2, s1.heap.objs.size + 3, s1.heap.objs.size, s1.heap.objs.size + 1], _, _, H1, rfl, I2, turn_zip (zipApart_new (Heap.lt_size ea) (Heap.lt_size eb)), ⟨hz, hTI, ⟨_, _, hTO⟩, hi1, hi2⟩, fun c hc => ?_, q⟩
 have hge : s1.heap.objs.size ≤ c := by
  simp only [List.mem_cons, List.not_mem_nil, or_false] at hc
  rcases hc with rfl | rfl | rfl | rfl | rfl <;> omega
 exact I1.fpOk hge (I1.hok.fresh hge)
end
theorem turns_zip {K : PySem.W.Frag} {a b : Addr} {xs ys : List V} {tc : TT} {te : TE} {D : Addr} {Q : Hp → Prop} {σ : St} {H1 : Hp} {n : Nat} (c : Nat → Bool) (v : Nat → V) (hA : H1 a = some (.lst xs)) (hB : H1 b = some (.lst ys)) (hmin : n = min xs.length ys.length) (hD : H1 D = none) (hn : n ≤ 1000)
  (ht : ∀ i H', i < n → Same H1 H' → Tells tc (some (xs.getD i .non) :: some (ys.getD i .non) :: σ) H' (c i)) (he : ∀ i H', i < n → c i = true → Same H1 H' → Gives te (some (xs.getD i .non) :: some (ys.getD i .non) :: σ) H' (v i))
  (hq : ∀ H', Same H1 H' → H' D = some (.lst (((List.range n).filter c).map v)) → Q H') : tTurns (Itz a b) (gTup K 2 (gCons (gName 0) (gCons (gName 1) gNil))) tc te D Q (none :: none :: σ) (upd H1 D (.lst [])) := by
 refine turns_any (n := n) (fun i σ' H' => ∃ x y, σ' = x :: y :: σ ∧ Same H1 H' ∧ H' D = some (.lst (((List.range i).filter c).map v))) ⟨none, none, rfl, Same.new hD _, upd_same⟩ ?_ ?_
 ·rintro i σ' H' hi ⟨x, y, rfl, g, hl⟩
  have hix : i < xs.length := by omega
  have hiy : i < ys.length := by omega
  refine ⟨⟨xs, ys, xs[i], ys[i], g _ _ hA, g _ _ hB, List.getElem?_eq_getElem hix, List.getElem?_eq_getElem hiy⟩, fun z H2 hz => ?_⟩
  obtain ⟨T, xs', ys', u, u', hT, hxs, hys, hu, hu', rfl, rfl⟩ := hz
  rw [g _ _ hA] at hxs
  rw [g _ _ hB] at hys
  cases hxs
  cases hys
  have eu : u = xs.getD i .non := by rw [List.getD_eq_getElem?_getD, hu]; rfl
  have eu' : u' = ys.getD i .non := by rw [List.getD_eq_getElem?_getD, hu']; rfl
  subst eu eu'
  have g2 : Same H1 (upd H' T (.tup [xs.getD i .non, ys.getD i .non])) := fun b o hb => by
   have h1 := g _ _ hb
   rw [upd_ne (ne_of_none h1 hT)]; exact h1
  have hl2 : (upd H' T (.tup [xs.getD i .non, ys.getD i .non])) D = some (.lst (((List.range i).filter c).map v)) := by rw [upd_ne (ne_of_none hl hT)]; exact hl
  refine ⟨T, _, rfl, SqT.of upd_same, rfl, _, _, rfl, _, _, rfl, rfl, ?_⟩
  show tc (some (xs.getD i .non) :: some (ys.getD i .non) :: σ) _ _
  generalize upd H' T (.tup [xs.getD i .non, ys.getD i .non]) = H3 at g2 hl2 ⊢
  refine ht i H3 hi g2 _ fun H4 g4 => ?_
  have hr : (List.range (i + 1)).filter c = (List.range i).filter c ++ (if c i = true then [i] else []) := by
   rw [List.range_succ, List.filter_append, List.filter_cons, List.filter_nil]
  refine ite2 (fun hc => ?_) (fun hc => ?_)
  ·refine he i H4 hi hc (g2.trans g4) _ fun H5 g5 => ?_
   have l5 := g5 _ _ (g4 _ _ hl2)
   refine ⟨_, l5, ?_, _, _, rfl, fun b o hb => ?_, ?_⟩
   ·rw [List.length_map]
    have := List.length_filter_le c (List.range i)
    rw [List.length_range] at this
    exact small1000 (by omega)
   ·have hne : b ≠ D := fun e => by rw [e, hD] at hb; cases hb
    rw [upd_ne hne]
    exact g5 _ _ (g4 _ _ (g2 _ _ hb))
   ·rw [upd_same, hr, if_pos hc, List.map_append]
    rfl
  ·refine ⟨_, _, rfl, g2.trans g4, ?_⟩
   rw [hr, if_neg hc, List.append_nil]
   exact g4 _ _ hl2
 ·rintro σ' H' ⟨x, y, rfl, g, hl⟩
  exact ⟨⟨xs, ys, g _ _ hA, g _ _ hB, by omega⟩, hq H' g hl⟩
end L2
namespace L2
open PySem PySem.Spec PyProof.Rows
theorem for_enum {a : Addr} {xs : List V} {g : TG} {tb : TS} {D : Ends} {σ : St} {H : Hp} (Pv : Nat → St → Hp → Prop) (h0 : Pv 0 σ H) (hl : ∀ i σ H, i ≤ xs.length → Pv i σ H → H a = some (.lst xs))
  (hs : ∀ i x σ H T, xs[i]? = some x → Pv i σ H → H T = none → g (.ref T) σ (upd H T (.tup [.int (i : Int), x])) fun σ2 H2 => tb { D with nx := Pv (i + 1), ct := Pv (i + 1), bk := D.nx } σ2 H2) (hd : ∀ σ H, Pv xs.length σ H → D.nx σ H) :
  ∃ W : Nat → Nat → St → Hp → Prop, (∃ m, W 0 m σ H) ∧ ∀ i m σ H, W i m σ H →
   ((Ite a).stop i H ∧ D.nx σ H) ∨ ((Ite a).go i H ∧ ∃ N : St → Hp → Prop, (∀ σ' H', N σ' H' → ∃ m', m' < m ∧ W (i + 1) m' σ' H') ∧ ∀ x H', (Ite a).yld i H x H' → g x σ H' fun σ2 H2 => tb { D with nx := N, ct := N, bk := D.nx } σ2 H2) := by
 refine ⟨fun i m σ H => m = xs.length - i ∧ i ≤ xs.length ∧ Pv i σ H, ⟨xs.length, by simp, Nat.zero_le _, h0⟩, ?_⟩
 rintro i m σ H ⟨rfl, hi, p⟩
 have q := hl i σ H hi p
 by_cases hlt : i < xs.length
 ·refine .inr ⟨⟨xs, xs[i], q, List.getElem?_eq_getElem hlt⟩, Pv (i + 1), fun σ' H' p' => ⟨xs.length - (i + 1), by omega, rfl, hlt, p'⟩, fun x H' y => ?_⟩
  obtain ⟨T, ys, u, hT, hy, hu, rfl, rfl⟩ := y
  rw [q] at hy
  cases hy
  exact hs i u σ H T hu p hT
 ·have e : i = xs.length := by omega
  subst e
  exact .inl ⟨⟨xs, q, Nat.le_refl _⟩, hd σ H p⟩
end L2
namespace L2
open PySem PySem.Spec PyProof.Rows
end L2
namespace L2
open PySem PySem.Spec PyProof.Rows
section
variable {X : Cx}
def tRev (K : PySem.W.Frag) (te : TE) : TE := fun σ H Q => te σ H fun x H1 => ∃ a xs, x = .ref a ∧ SqL K H1 a xs ∧ ∀ p, H1 p = none → Q (.ref p) (upd H1 p (.lst xs.reverse))
theorem pick_rev (its : List Value) : slicePick its.toArray none none (some (-1)) = its.reverse.toArray := by
 have hb : sliceBounds none none (some (-1)) its.toArray.size = ((its.length : Int) - 1, -1, -1) := by
  unfold sliceBounds
  simp
 unfold slicePick
 rw [hb]
 have hr : sliceRange ((its.length : Int) - 1) (-1) (-1) = (List.range its.length).map fun k : Nat => its.length - 1 - k := by
  unfold sliceRange
  have hc : (if (-1 : Int) > 0 then (if ((its.length : Int) - 1) < -1 then ((-1) - ((its.length : Int) - 1) + (-1) - 1) / (-1) else 0) else (if ((its.length : Int) - 1) > -1 then (((its.length : Int) - 1) - (-1) - (-1) - 1) / (-(-1)) else 0)) = (its.length : Int) := by
   rw [if_neg (by decide)]
   by_cases h : ((its.length : Int) - 1) > -1
   ·rw [if_pos h]
    have e : -(-1 : Int) = 1 := by decide
    rw [e, Int.ediv_one]
    omega
   ·rw [if_neg h]
    omega
  rw [hc]
  show (List.range ((its.length : Nat) : Int).toNat).map (fun k : Nat => ((its.length : Int) - 1 + -1 * (k : Int)).toNat) = _
  rw [Int.toNat_natCast]
  refine List.map_congr_left fun k hk => ?_
  have := List.mem_range.mp hk
  omega
 show (List.filterMap (fun x => its.toArray[x]?) (sliceRange ((its.length : Int) - 1) (-1) (-1))).toArray = _
 rw [hr]
 congr 1
 have key : ∀ l : List Value, ((List.range l.length).map fun k : Nat => l.length - 1 - k).filterMap (fun x => l.toArray[x]?) = l.reverse := by
  intro l
  have gen : ∀ (ks : List Nat), (∀ k ∈ ks, k < l.length) → (ks.map fun k : Nat => l.length - 1 - k).filterMap (fun x => l.toArray[x]?) = ks.map fun k => l.getD (l.length - 1 - k) .none := by
   intro ks
   induction ks with
   | nil => intro _; rfl
   | cons k r ih =>
    intro h
    have hk := h k List.mem_cons_self
    rw [List.map_cons, List.map_cons, List.filterMap_cons, ih fun x hx => h x (List.mem_cons_of_mem _ hx)]
    have e : l.toArray[l.length - 1 - k]? = some (l.getD (l.length - 1 - k) .none) := by
     rw [List.getElem?_toArray, List.getD_eq_getElem?_getD, List.getElem?_eq_getElem (by omega)]
     rfl
    rw [e]
  rw [gen _ fun k hk => List.mem_range.mp hk]
  refine List.ext_getElem (by rw [List.length_map, List.length_range, List.length_reverse]) fun i h1 h2 => ?_
  have hi : i < l.length := by rw [List.length_reverse] at h2; exact h2
  rw [List.getElem_map, List.getElem_range, List.getElem_reverse, List.getD_eq_getElem?_getD, List.getElem?_eq_getElem (by omega)]
  rfl
 exact key its
theorem pe_rev {e : Expr} {te : TE} {p1 p2 p3 pos : Pos} {j : Nat} (he : PE X e te) : PE X (.Subscript e (.Slice none none (some (.UnaryOp .USub (.Constant (.int 1) j p1) p2)) p3) pos) (tRev X.K te) := by
 intro pins s σ H Q I h
 refine Subscript_ (thn (he pins s σ H _ I h) fun v s1 ⟨x, H1, I1, r1, q1⟩ => ?_)
 obtain ⟨a, xs, rfl, hx, q⟩ := q1
 cases r1
 refine wpAny_Slice ?_
 rw [evalPart_none]
 refine wpAny_pure (wpAny_pure ?_)
 rw [evalPart_some]
 refine thn ((pe_un un_neg pe_int : PE X (.UnaryOp .USub (.Constant (.int 1) j p1) p2) _) pins s1 σ H1 (fun y H2 => y = .int (-1) ∧ H2 = H1) I1 ⟨1, rfl, rfl, rfl⟩) fun vs s2 ⟨y, H2, I2, r2, ey, eH⟩ => ?_
 subst ey eH
 obtain ⟨t, rfl⟩ := r2
 have I4 : Inv X pins σ H2 { s2 with heap := s2.heap.push { cls := .type "slice", data := .fields #[.none, .none, .int (-1) t] } } := I2.kept (t' := s2.toks) fun b ob q => Heap.get?_push_of_some _ q
 obtain ⟨its, r, ht, hz⟩ := I4.list hx
 have hlen := r.length
 have hg : wpAny (model X.prog X.w) X.A (getItem (.ref a) (.ref s2.heap.objs.size)) (EP X pins σ Q) X.xe { s2 with heap := s2.heap.push { cls := .type "slice", data := .fields #[.none, .none, .int (-1) t] } } := by
  refine wpAny_getItem_list_slice ht.isList (Heap.IsSliceOf.new ..) .none .none (.int (-1) t) (by decide) ?_ (by rw [List.size_toArray] <;> omega)
  rw [pick_rev]
  refine ⟨.ref _, _, I4.laid (t' := s2.toks) (o := .lst xs.reverse) (fun b ob q => Heap.get?_push_of_some _ q) (Nat.le_refl _) ?_, rfl, q _ (I4.hok.fresh (Nat.le_refl _))⟩
  exact ⟨by rw [List.length_reverse]; exact hz, its.reverse, 0, r.reverse, Heap.get?_push_size _ rfl⟩
 show wpAny (model X.prog X.w) X.A (subscriptTail e (.Slice none none (some (.UnaryOp .USub (.Constant (.int 1) j p1) p2)) p3) (.ref a) (.ref s2.heap.objs.size)) (EP X pins σ Q) X.xe { s2 with heap := s2.heap.push { cls := .type "slice", data := .fields #[.none, .none, .int (-1) t] } }
 exact tail_any (ops := [.ref a, .ref s2.heap.objs.size]) ht.isList.typeIs slot_list_getitem.lookup hg (by with_unfolding_all rfl)
theorem op_notB : OpR X (compareOp .IsNot) (fun x y H Q => ∃ a b : Bool, x = .bl a ∧ y = .bl b ∧ Q (.bl (a != b)) H) := by
 intro pins s σ H x y v u Q I rx ry ⟨a, b, e1, e2, q⟩
 subst e1 e2
 cases rx
 cases ry
 cases a <;> cases b <;> first | exact wpAny_pure ⟨.bl true, H, I, rfl, q⟩ | exact wpAny_pure ⟨.bl false, H, I, rfl, q⟩
end
end L2
namespace L2
open PySem PySem.Spec PyProof.Rows
section
variable {prog : Program} {w : World} {A : Around} {E : Value → Shared → Prop} {s : Shared}
end
end L2
namespace L2
open PySem PySem.Spec PyProof.Rows
section
variable {X : Cx}
def rIndex : V → List V → Hp → VK → Prop := fun x vs H Q => ∃ (l : Addr) (ns : List Int) (k : Int) (j : Nat), x = .ref l ∧ vs = [.int k] ∧ H l = some (.lst (ns.map V.int)) ∧ ns[j]? = some k ∧ (∀ m < j, ns[m]? ≠ some k) ∧ ns.length ≤ 1000 ∧ Q (.int (j : Int)) H
theorem mt_index : MtM X "list.index" rIndex := by
 intro pins s σ H x vs v us Q I rx rv h
 obtain ⟨l, ns, k, j, rfl, rfl, hH, hj, hno, hsm, q⟩ := h
 cases rx
 obtain ⟨u, rfl, ru⟩ := rv.one
 obtain ⟨t, rfl⟩ := ru
 obtain ⟨z, its, n, r, hl, e⟩ := I.lstM hH
 have hi := vals_intsAre r
 have hlen : its.length = ns.length := by rw [← hl, List.length_map]
 have jlt : j < ns.length := (List.getElem?_eq_some_iff.mp hj).1
 have at_ : ∀ m (hm : m < its.toArray.size), ∃ t', its.toArray[m] = .int (ns.getD m 0) t' := fun m hm => by
  have hm' : m < its.length := by simpa using hm
  exact IntsAre.int_at hi m _ (by rw [List.getElem?_eq_getElem hm']; simp)
 have hsj : (j : Int) < 2 ^ 63 - 1 := by
  have : j < 1000 := by omega
  omega
 refine call_meets F.slot_list_index ⟨_, e, rfl⟩ F.entry_list_index (F.args_list_index_2 _ _)
  (MeetsSeq.list_index l its.toArray n (.int k t) (isInt k) (fun y hy => eq_isInt k t hi y (by simpa using hy)) j (by simpa [hlen] using jlt) hsj ?_ (fun m hm hmj => ?_)) ⟨e, ?_⟩
 ·obtain ⟨t', e'⟩ := at_ j (by simpa [hlen] using jlt)
  rw [e']
  have : ns.getD j 0 = k := by rw [List.getD_eq_getElem?_getD, hj]; rfl
  rw [this]
  simp [isInt]
 ·obtain ⟨t', e'⟩ := at_ m hm
  rw [e']
  have hm' : m < ns.length := by simpa [hlen] using hm
  have hne : ns.getD m 0 ≠ k := fun z => hno m hmj (by rw [List.getElem?_eq_getElem hm', ← z, List.getD_eq_getElem?_getD, List.getElem?_eq_getElem hm']; rfl)
  show (ns.getD m 0 == k) = false
  exact beq_eq_false_iff_ne.mpr hne
 ·exact ⟨.int (j : Int), H, I.tok _, ⟨_, rfl⟩, q⟩
end
end L2
namespace HT
open PySem PyProof.Rows
section
variable {prog : Program} {w : World} {A : Around} {R : Result → Shared → Prop} {I S : Addr} {fp wr : List Addr} {n : Nat} {P : Nat → Value → Prop} {St : Nat → Heap → Prop}
end
end HT
namespace L2
open PySem PySem.Spec PyProof.Rows
section
variable {X : Cx}
end
end L2
namespace HT
open PySem PyProof.Rows PySem.SeqAt PySem.MeetsSeq PySem.MeetsSeq2 PySem.MeetsSeq3
inductive OrdK
 | lt
 | le
 | gt
def OrdK.code : OrdK → Int
 | .lt => 0
 | .le => 1
 | .gt => 4
def OrdK.op : OrdK → CmpOp
 | .lt => .Lt
 | .le => .LtE
 | .gt => .Gt
def OrdK.rel : OrdK → Int → Int → Bool
 | .lt, a, c => decide (a < c)
 | .le, a, c => decide (a ≤ c)
 | .gt, a, c => decide (c < a)
def ordL (k : OrdK) : List Int → List Int → Bool
 | a :: as, c :: cs => if a = c then ordL k as cs else k.rel a c
 | _, _ => k.rel 0 0
theorem ord_ints (k : OrdK) {A : Around} {E Q : Value → Shared → Prop} {s : Shared} {prog : Program} {w : World} {a c : Int} {t u : Tok} (q : Q (.bool (k.rel a c)) s) : wpAny (model prog w) A (richCompare k.op (.int a t) (.int c u)) Q E s := by
 cases k with
 | lt => exact (PyProof.Rows.lt_int q : wpAny (model prog w) A (compareOp .Lt (.int a t) (.int c u)) Q E s)
 | le => exact (PyProof.Rows.le_int q : wpAny (model prog w) A (compareOp .LtE (.int a t) (.int c u)) Q E s)
 | gt => exact (PyProof.Rows.gt_int q : wpAny (model prog w) A (compareOp .Gt (.int a t) (.int c u)) Q E s)
def lstAt (h : Heap) (l : Addr) (vs : List Value) : Prop := ∃ n, h.get? l = some { cls := .type "list", dict := none, data := .seq vs.toArray n, slots := #[] }
theorem ord_loop (k : OrdK) (l b : Addr) : ∀ (ns ms : List Int) (p p' vs ws : List Value), IntsAre vs ns → IntsAre ws ms → p.length = p'.length → ns.length = ms.length →
  Meets (Builtin.«list.__eq__.loop» ⟨[.ref l, .ref b, rawInt (p.length : Nat), rawInt k.code], []⟩) fun _ R s => lstAt s.heap l (p ++ vs) ∧ lstAt s.heap b (p' ++ ws) ∧ R (.ok (.ret (.bool (ordL k ns ms)))) s
 | [], [], p, p', _, _, .nil, .nil, hp, _ => by
  rintro prog w A R ⟨h, g, dr, tk, os⟩ ⟨⟨n1, e1⟩, ⟨n2, e2⟩, q⟩
  rw [List.append_nil] at e1 e2
  have z : ∀ {x : List Value}, p.length = x.length → x.toArray[((p.length : Nat) : Int).toNat]? = none := fun {x} hx => by
   rw [Int.toNat_natCast, List.getElem?_toArray, hx]
   exact List.getElem?_eq_none (Nat.le_refl _)
  have q' : R (.ok (.ret (.bool (k.rel 0 0)))) _ := q
  cases k with
  | lt =>
   wp_walk using wpAny_loadPart' e1, wpAny_loadPart' e2
   rw [z rfl, z hp]
   wp_walk using wpAny_loadPart' e1, wpAny_loadPart' e2
   show R (.ok (.ret (.bool (decide (p.toArray.size < p'.toArray.size))))) _
   rw [List.size_toArray, List.size_toArray, hp, decide_eq_false (Nat.lt_irrefl _)]
   exact q'
  | le =>
   wp_walk using wpAny_loadPart' e1, wpAny_loadPart' e2
   rw [z rfl, z hp]
   wp_walk using wpAny_loadPart' e1, wpAny_loadPart' e2
   show R (.ok (.ret (.bool (decide (p.toArray.size ≤ p'.toArray.size))))) _
   rw [List.size_toArray, List.size_toArray, hp, decide_eq_true (Nat.le_refl _)]
   exact q'
  | gt =>
   wp_walk using wpAny_loadPart' e1, wpAny_loadPart' e2
   rw [z rfl, z hp]
   wp_walk using wpAny_loadPart' e1, wpAny_loadPart' e2
   show R (.ok (.ret (.bool (decide (p.toArray.size > p'.toArray.size))))) _
   rw [List.size_toArray, List.size_toArray, hp, decide_eq_false (Nat.lt_irrefl _)]
   exact q'
 | a :: as, c :: cs, p, p', _, _, .cons _ t (vs := vs) iv, .cons _ u (vs := ws) iw, hp, hl => by
  have ih := ord_loop k l b as cs (p ++ [.int a t]) (p' ++ [.int c u]) vs ws iv iw (by rw [List.length_append, List.length_append, hp]; rfl) (Nat.succ.inj hl)
  rintro prog w A R ⟨h, g, dr, tk, os⟩ ⟨⟨n1, e1⟩, ⟨n2, e2⟩, q⟩
  have z : ∀ {x y : List Value} {v : Value}, p.length = x.length → (x ++ v :: y).toArray[((p.length : Nat) : Int).toNat]? = some v := fun {x y v} hx => by
   rw [Int.toNat_natCast, List.getElem?_toArray, hx, List.getElem?_append_right (Nat.le_refl _), Nat.sub_self]
   rfl
  have next : (p.length : Int) + 1 = (((p ++ [Value.int a t]).length : Nat) : Int) := by rw [List.length_append]; rfl
  have step : ∀ {S : Prop}, (a = c → ordL k (a :: as) (c :: cs) = ordL k as cs → S) → (a ≠ c → ordL k (a :: as) (c :: cs) = k.rel a c → S) → S := fun {S} h1 h2 => by
   by_cases hac : a = c
   ·exact h1 hac (if_pos hac)
   ·exact h2 hac (if_neg hac)
  refine step (fun hac eo => ?_) (fun hac eo => ?_)
  ·rw [eo] at q
   have on := ih prog w A R ⟨h, g, dr, tk, os⟩ ⟨⟨n1, by rw [List.append_assoc]; exact e1⟩, ⟨n2, by rw [List.append_assoc]; exact e2⟩, q⟩
   rw [← next] at on
   have tt : (a == c) = true := beq_iff_eq.mpr hac
   cases k <;>
   ·wp_walk using wpAny_loadPart' e1, wpAny_loadPart' e2
    rw [z rfl, z hp]
    refine wpAny_bind (wpAny_eqBool_int ?_)
    rw [tt]
    wp_walk
    exact ⟨plainId_quiet plain_eq_loop _, codeAny_builtin entry_eq_loop (by rw [Around.under_plainId plain_eq_loop _]; exact on)⟩
  ·rw [eo] at q
   have ff : (a == c) = false := beq_eq_false_iff_ne.mpr hac
   have rc := fun (E Q : Value → Shared → Prop) (s : Shared) => @ord_ints k A.in1 E Q s prog w a c t u
   cases k <;>
   ·wp_walk using wpAny_loadPart' e1, wpAny_loadPart' e2
    rw [z rfl, z hp]
    refine wpAny_bind (wpAny_eqBool_int ?_)
    rw [ff]
    wp_walk using wpAny_loadPart' e1, wpAny_loadPart' e2
    rw [z rfl, z hp]
    refine wpAny_bind (rc _ _ _ ?_)
    wp_walk
    exact q
theorem ord_first {k : OrdK} {l b : Addr} {vs ws : List Value} {ns ms : List Int} (iv : IntsAre vs ns) (iw : IntsAre ws ms) (hl : ns.length = ms.length) {prog : Program} {w : World} {A : Around} {R : Result → Shared → Prop} {s : Shared} (e1 : lstAt s.heap l vs) (e2 : lstAt s.heap b ws)
  (q : R (.ok (.ret (.bool (ordL k ns ms)))) s) : (Code.builtin "list.__eq__.loop" ⟨[.ref l, .ref b, rawInt 0, rawInt k.code], []⟩).quiet = true ∧ codeAny (model prog w) A (.builtin "list.__eq__.loop" ⟨[.ref l, .ref b, rawInt 0, rawInt k.code], []⟩) R s :=
 ⟨plainId_quiet plain_eq_loop _, codeAny_builtin entry_eq_loop (by
  rw [Around.under_plainId plain_eq_loop _]
  exact ord_loop k l b ns ms [] [] vs ws iv iw rfl hl prog w A R s ⟨e1, e2, q⟩)⟩
theorem meets_lt (l b : Addr) {vs ws : List Value} {ns ms : List Int} (iv : IntsAre vs ns) (iw : IntsAre ws ms) (hl : ns.length = ms.length) :
  Meets (Builtin.«list.__lt__» ⟨[.ref l, .ref b], []⟩) fun _ R s => lstAt s.heap l vs ∧ lstAt s.heap b ws ∧ R (.ok (.ret (.bool (ordL .lt ns ms)))) s := by
 rintro prog w A R ⟨h, g, dr, tk, os⟩ ⟨⟨n1, e1⟩, ⟨n2, e2⟩, q⟩
 have sub := AutoSeq1.sub_list_list
 wp_walk using wpAny_loadPart' e1, wpAny_loadPart' e2
 exact ord_first (k := .lt) iv iw hl ⟨n1, e1⟩ ⟨n2, e2⟩ q
end HT
namespace L2
open PySem PySem.Spec PyProof.Rows
section
variable {X : Cx}
end
end L2
namespace HT
open PySem PyProof.Rows
section
variable {prog : Program} {w : World} {A : Around} {E : Value → Shared → Prop} {s : Shared}
end
section
variable {prog : Program} {w : World} {A : Around} {R : Result → Shared → Prop} {I S : Addr} {fp wr : List Addr} {n : Nat} {P : Nat → Value → Prop} {St : Nat → Heap → Prop}
end
end HT
namespace L2
open PySem PySem.Spec PyProof.Rows
section
variable {X : Cx}
def rowOf (H : Hp) (a : Addr) : List Int := match H a with
 | some (.lst xs) => xs.map fun | .int i => i | _ => 0
 | _ => []
theorem rowOf_is {H : Hp} {a : Addr} {r : List Int} (h : H a = some (.lst (r.map V.int))) : rowOf H a = r := by
 unfold rowOf
 rw [h]
 show (r.map V.int).map _ = r
 rw [List.map_map]
 exact List.map_id _
end
end L2
namespace HT
open PySem PyProof.Rows
def UpP (xs : Array Nat) : Prop := xs.toList.Pairwise (· < ·)
theorem UpP.at {xs : Array Nat} (u : UpP xs) {i k : Nat} (h : i < k) (hk : k < xs.size) : xs.getD i 0 < xs.getD k 0 := by
 have := List.pairwise_iff_getElem.mp u i k (by rw [Array.length_toList]; omega) (by rw [Array.length_toList]; exact hk) h
 rw [Array.getElem_toList, Array.getElem_toList] at this
 rw [Array.getD_eq_getD_getElem?, Array.getD_eq_getD_getElem?, Array.getElem?_eq_getElem (by omega), Array.getElem?_eq_getElem hk]
 exact this
structure BelowAt (xs : Array Nat) (j b : Nat) : Prop where
 le : b ≤ xs.size
 lo : ∀ i < b, xs.getD i 0 < j
 hi : ∀ i, b ≤ i → i < xs.size → j ≤ xs.getD i 0
theorem below_go {xs : Array Nat} (u : UpP xs) (j : Nat) : ∀ (fuel lo hi : Nat), lo ≤ hi → hi ≤ xs.size → hi - lo ≤ fuel → (∀ i < lo, xs.getD i 0 < j) → (∀ i, hi ≤ i → i < xs.size → j ≤ xs.getD i 0) → BelowAt xs j (SetTable.below.go xs j fuel lo hi)
 | 0, lo, hi, h1, h2, h3, h4, h5 => ⟨by show lo ≤ _; omega, h4, fun i a b => h5 i (by have a' : lo ≤ i := a; omega) b⟩
 | fuel + 1, lo, hi, h1, h2, h3, h4, h5 => by
  unfold SetTable.below.go
  by_cases hlt : lo < hi
  ·rw [if_pos hlt]
   have hm : (lo + hi) / 2 < xs.size := by omega
   have em : xs.getD ((lo + hi) / 2) j = xs.getD ((lo + hi) / 2) 0 := by rw [Array.getD_eq_getD_getElem?, Array.getD_eq_getD_getElem?, Array.getElem?_eq_getElem hm]; rfl
   show BelowAt xs j (if xs.getD ((lo + hi) / 2) j < j then SetTable.below.go xs j fuel ((lo + hi) / 2 + 1) hi else SetTable.below.go xs j fuel lo ((lo + hi) / 2))
   rw [em]
   by_cases hc : xs.getD ((lo + hi) / 2) 0 < j
   ·rw [if_pos hc]
    refine below_go u j fuel _ hi (by omega) h2 (by omega) (fun i hi' => ?_) h5
    by_cases e : i = (lo + hi) / 2
    ·rw [e]; exact hc
    ·exact Nat.lt_trans (u.at (show i < (lo + hi) / 2 by omega) hm) hc
   ·rw [if_neg hc]
    refine below_go u j fuel lo _ (by omega) (by omega) (by omega) h4 fun i a b => ?_
    by_cases e : i = (lo + hi) / 2
    ·rw [e]; omega
    ·have := u.at (show (lo + hi) / 2 < i by omega) b
     omega
  ·rw [if_neg hlt]
   exact ⟨by omega, h4, fun i a b => h5 i (by omega) b⟩
theorem below_is {xs : Array Nat} (u : UpP xs) (j : Nat) : BelowAt xs j (SetTable.below xs j) := below_go u j _ 0 xs.size (Nat.zero_le _) (Nat.le_refl _) (by omega) (fun i h => absurd h (Nat.not_lt_zero _)) (fun i h1 h2 => by omega)
theorem has_nil (j : Nat) : SetTable.has #[] j = false := by
 unfold SetTable.has
 rw [show (#[] : Array Nat)[SetTable.below #[] j]? = none by simp]
 rfl
theorem slot_empty {t : SetTable} (u : UpP t.place) {j : Nat} (h : t.slot j = .empty) : ∀ x ∈ t.place.toList, x ≠ j := by
 intro x hx e
 subst e
 obtain ⟨i, hi, ei⟩ := List.mem_iff_getElem.mp hx
 rw [Array.length_toList] at hi
 rw [Array.getElem_toList] at ei
 have gi : t.place.getD i 0 = x := by rw [Array.getD_eq_getD_getElem?, Array.getElem?_eq_getElem hi, ei]; rfl
 have B := below_is u x
 have hbi : SetTable.below t.place x ≤ i := Nat.le_of_not_lt fun z => by have := B.lo i z; omega
 have hb : SetTable.below t.place x < t.place.size := by omega
 have eb : SetTable.below t.place x = i := by
  rcases Nat.lt_or_ge (SetTable.below t.place x) i with z | z
  ·have h1 := B.hi _ (Nat.le_refl _) hb
   have h2 := u.at z hi
   omega
  ·omega
 have e1 : (t.place[SetTable.below t.place x]? == some x) = true := by rw [eb, Array.getElem?_eq_getElem hi, ei]; exact beq_self_eq_true _
 unfold SetTable.slot at h
 dsimp only at h
 rw [if_pos e1] at h
 cases h
theorem slot_nodummy {t : SetTable} (d : t.dummies = #[]) (j : Nat) : t.slot j ≠ .dummy := by
 unfold SetTable.slot
 dsimp only
 rw [d, has_nil]
 split
 ·exact fun z => nomatch z
 ·exact fun z => nomatch z
theorem probe_empty {t : SetTable} (d : t.dummies = #[]) (hashAt : Nat → Int) (h : Int) : ∀ (fuel : Nat) (p : SetTable.Probe) (j : Nat) (dm : Option Nat), SetTable.probe.go t hashAt h fuel p = some (.empty j dm) → t.slot j = .empty ∧ dm = p.dummy
 | 0, _, _, _, e => by cases e
 | fuel + 1, p, j, dm, e => by
  unfold SetTable.probe.go at e
  cases hs : t.slot p.j with
  | empty =>
   rw [hs] at e
   cases e
   exact ⟨hs, rfl⟩
  | dummy => exact absurd hs (slot_nodummy d _)
  | live i =>
   rw [hs] at e
   dsimp only at e
   have adv : (t.advance p).dummy = p.dummy := by
    unfold SetTable.advance
    split <;> rfl
   split at e
   ·cases e
   ·have ih := probe_empty d hashAt h fuel (t.advance p) j dm e
    rw [adv] at ih
    exact ih
theorem free_empty {t : SetTable} (d : t.dummies = #[]) {h : Int} {j : Nat} {wd : Bool} (e : t.freeSlot h = some (j, wd)) : t.slot j = .empty := by
 unfold SetTable.freeSlot at e
 split at e
 ·rename_i j' dm hp
  obtain ⟨h1, h2⟩ := probe_empty d _ _ _ _ _ _ hp
  have h3 : dm = none := h2
  rw [h3] at e
  cases e
  exact h1
 ·cases e
structure TabOk (t : SetTable) (led : Bool) : Prop where
 up : UpP t.place
 dum : t.dummies = #[]
 led : t.led = led
theorem up_range (n : Nat) : UpP (Array.range n) := by
 unfold UpP
 rw [Array.toList_range]
 exact List.pairwise_lt_range
theorem TabOk.standIn {t : SetTable} {led : Bool} (T : TabOk t led) (n : Nat) : TabOk (t.standIn n) led := ⟨up_range n, rfl, T.led⟩
theorem TabOk.layNew {t : SetTable} {led : Bool} (T : TabOk t led) (es : Array (Int × Value)) (h : Int) (x : Value) : TabOk (layNew t es h x).2.1 led := by
 unfold PySem.layNew
 split
 ·rename_i slot wd hf
  have hE := free_empty T.dum hf
  have T' : TabOk (t.put slot).1 led := by
   refine ⟨?_, ?_, T.led⟩
   ·have B := below_is T.up slot
    have ne := slot_empty T.up hE
    show UpP (SetTable.insertAt t.place (SetTable.below t.place slot) slot)
    unfold UpP
    rw [SetTable.toList_insertAt]
    have lt : ∀ a ∈ t.place.toList.take (SetTable.below t.place slot), a < slot := fun a ha => by
     obtain ⟨i, hi, ei⟩ := List.mem_iff_getElem.mp ha
     rw [List.length_take, Array.length_toList] at hi
     rw [List.getElem_take, Array.getElem_toList] at ei
     have := B.lo i (by omega)
     rw [Array.getD_eq_getD_getElem?, Array.getElem?_eq_getElem (by omega), ei] at this
     exact this
    have gt : ∀ a ∈ t.place.toList.drop (SetTable.below t.place slot), slot < a := fun a ha => by
     obtain ⟨i, hi, ei⟩ := List.mem_iff_getElem.mp ha
     rw [List.length_drop, Array.length_toList] at hi
     rw [List.getElem_drop, Array.getElem_toList] at ei
     have := B.hi (SetTable.below t.place slot + i) (by omega) (by omega)
     rw [Array.getD_eq_getD_getElem?, Array.getElem?_eq_getElem (by omega), ei] at this
     have this' : slot ≤ a := this
     have := ne a (List.mem_of_mem_drop ha)
     omega
    refine List.pairwise_append.mpr ⟨T.up.sublist (List.take_sublist _ _), List.pairwise_cons.mpr ⟨gt, T.up.sublist (List.drop_sublist _ _)⟩, fun a ha b hb => ?_⟩
    rcases List.mem_cons.mp hb with z | z
    ·rw [z]; exact lt a ha
    ·exact Nat.lt_trans (lt a ha) (gt b z)
   ·show (if SetTable.has t.dummies slot then SetTable.eraseAt t.dummies (SetTable.below t.dummies slot) else t.dummies) = #[]
    rw [T.dum, has_nil]
    rfl
  show TabOk ((t.put slot).1.orStandIn _) led
  unfold SetTable.orStandIn
  split
  ·exact T'
  ·exact T'.standIn _
 ·exact T.standIn _
theorem TabOk.laid {mask finger moves : Nat} {led plain : Bool} {hs : Array Int} {t : SetTable} {order : Array Nat} (e : SetTable.laid mask finger moves led plain hs = some (t, order)) : TabOk t led := by
 unfold SetTable.laid at e
 cases hl : SetTable.layClean mask hs with
 | none => rw [hl] at e; cases e
 | some owner =>
  rw [hl] at e
  have e' := Option.some.inj e
  have e1 : _ = t := congrArg Prod.fst e'
  rw [← e1]
  refine ⟨?_, rfl, rfl⟩
  show ((((List.range (mask + 1)).filterMap fun j => (owner.getD j none).map (j, ·)).map (·.1)).toArray).toList.Pairwise (· < ·)
  have key : ∀ (l : List Nat), l.Pairwise (· < ·) → ((l.filterMap fun j => (owner.getD j none).map (j, ·)).map (·.1)).Pairwise (· < ·) ∧ ∀ a ∈ (l.filterMap fun j => (owner.getD j none).map (j, ·)).map (·.1), a ∈ l := by
   intro l
   induction l with
   | nil => intro _; exact ⟨List.Pairwise.nil, (fun _ h => nomatch h)⟩
   | cons a r ih =>
    intro hp
    obtain ⟨i1, i2⟩ := ih hp.of_cons
    rw [List.filterMap_cons]
    cases owner.getD a none with
    | none => exact ⟨i1, fun x hx => List.mem_cons_of_mem _ (i2 x hx)⟩
    | some k =>
     refine ⟨List.pairwise_cons.mpr ⟨fun x hx => List.rel_of_pairwise_cons hp (i2 x hx), i1⟩, fun x hx => ?_⟩
     rcases List.mem_cons.mp hx with z | z
     ·rw [z]; exact List.mem_cons_self
     ·exact List.mem_cons_of_mem _ (i2 x z)
  exact (key _ List.pairwise_lt_range).1
theorem TabOk.relayAll {t : SetTable} {led : Bool} (T : TabOk t led) (es : Array (Int × Value)) (n : Nat) : TabOk (relayAll t es n).2.1 led := by
 unfold PySem.relayAll
 split
 ·rename_i t' order hr
  have T' : TabOk t' t.led := TabOk.laid hr
  rw [T.led] at T'
  dsimp only
  split
  ·exact T'
  ·exact T.standIn _
 ·exact T.standIn _
end HT
namespace HT
open PySem PyProof.Rows
def GoodE (e : Int × Value) : Prop := ∃ k t, e = (hashInt k, .int k t)
def keyE (e : Int × Value) : Int := match e.2 with
 | .int k _ => k
 | _ => 0
section
variable {prog : Program} {w : World}
def SetI (h : Heap) (a : Addr) (ks : List Int) (led : Bool) : Prop := ∃ o es ep t, h.get? a = some o ∧ o.ExactSet ∧ o.data = .set es ep t ∧ (∀ e ∈ es.toList, GoodE e) ∧ es.toList.map keyE = ks ∧ ks.Nodup ∧ es.size < scanBound ∧ t.fits es.size = true ∧ TabOk t led
theorem good_elems {es : List (Int × Value)} (h : ∀ e ∈ es, GoodE e) : ElemsOf (intKind prog w) es := fun e he => by
 obtain ⟨k, t, rfl⟩ := h e he
 exact ⟨⟨k, intKind_is _ _ _ _, rfl⟩, rfl⟩
theorem good_is {e : Int × Value} (h : GoodE e) (k : Int) : (intKind prog w).is k e.2 = decide (keyE e = k) := by
 obtain ⟨k', t, rfl⟩ := h
 show Value.isInt k (.int k' t) = decide (k' = k)
 unfold Value.isInt
 rw [Bool.eq_iff_iff, decide_eq_true_iff]
 first | (rw [beq_iff_eq]) | simp
variable {A : Around} {E : Value → Shared → Prop} {s : Shared} {a : Addr} {ks : List Int} {led : Bool}
theorem SetI.store {h : Heap} {o : Obj} {es es' : Array (Int × Value)} {ep : Nat} {t t' : SetTable} (ho : h.get? a = some o) (hx : o.ExactSet) (hd : o.data = .set es ep t) (g : ∀ e ∈ es'.toList, GoodE e) (nd : (es'.toList.map keyE).Nodup) (hb : es'.size < scanBound) (hf : t'.fits es'.size = true) (T : TabOk t' led) :
  (h.update a (Obj.putSet es' t')).get? a = some { o with data := .set es' (ep + 1) t' } ∧ SetI (h.update a (Obj.putSet es' t')) a (es'.toList.map keyE) led := by
 have e := Heap.get?_update_self (Obj.putSet es' t') ho (by rw [putSet_of es' t' hd]; rfl)
 rw [putSet_of es' t' hd] at e
 exact ⟨e, _, es', ep + 1, t', e, hx, rfl, g, rfl, nd, hb, hf, T⟩
theorem setAdd_I {k : Int} {tk : Tok} {Q : Bool → Shared → Prop} (S : SetI s.heap a ks led) (room : ks.length + 1 < scanBound)
  (q : ∀ b h' ks', Heap.SameBut a s.heap h' → SetI h' a ks' led → (k ∈ ks → ks'.Perm ks) → (k ∉ ks → ks'.Perm (ks ++ [k])) → Q b { s with heap := h' }) : wpAny (model prog w) A (setAddHashed a (.int k tk) (hashInt k)) Q E s := by
 obtain ⟨o, es, ep, t, ho, hx, hd, hg, hk, nd, hb, hf, T⟩ := S
 have hel : ElemsOf (intKind prog w) es.toList := good_elems hg
 have sc : (Value.int k tk).scannable = true := rfl
 have isk : (intKind prog w).is k (.int k tk) = true := intKind_is _ _ _ _
 have len : ks.length = es.size := by rw [← hk, List.length_map, Array.length_toList]
 have idx : (k ∈ ks ↔ ∃ e ∈ es.toList, (intKind prog w).is k e.2 = true) := by
  rw [← hk, List.mem_map]
  exact ⟨fun ⟨e, h1, h2⟩ => ⟨e, h1, by rw [good_is (hg e h1)]; exact decide_eq_true h2⟩, fun ⟨e, h1, h2⟩ => ⟨e, h1, by rw [good_is (hg e h1)] at h2; exact of_decide_eq_true h2⟩⟩
 unfold setAddHashed setAddHashedIn
 refine wpAny_holding (wpAny_bind (wpAny_setState_of ho hd hf ?_))
 dsimp only
 rw [byScan_of sc hb hel, if_pos rfl]
 unfold setAddByScan
 refine wpAny_bind (wpAny_bind (wpAny_rule (wpAny_bind (wpAny_setScan_of isk ho hd hf hel ?_))))
 cases hr : List.findIdx? (fun e => (intKind prog w).is k e.2) es.toList with
 | some j =>
  obtain ⟨hj, hpj, _⟩ := List.findIdx?_eq_some_iff_getElem.mp hr
  have hm : k ∈ ks := idx.mpr ⟨_, List.getElem_mem hj, hpj⟩
  dsimp only
  exact wpAny_pure (wpAny_pure (q false s.heap ks (Heap.SameBut.refl a s.heap) ⟨o, es, ep, t, ho, hx, hd, hg, hk, nd, hb, hf, T⟩ (fun _ => List.Perm.refl _) (fun z => absurd hm z)))
 | none =>
  have hn : k ∉ ks := fun z => by
   obtain ⟨e, h1, h2⟩ := idx.mp z
   have := List.findIdx?_eq_none_iff.mp hr e h1
   rw [h2] at this
   cases this
  dsimp only
  have gw : ∀ (b : Bool) {s1 : Shared} {Q' : Unit → Shared → Prop}, Q' () s1 → wpAny (model prog w) A (match b with | true => rule "set.scan.the-table-gave-way" | false => pure ()) Q' E s1 := fun b s1 Q' z => by
   cases b
   ·exact wpAny_pure z
   ·exact wpAny_rule z
  have p1 := layNew_perm t es (hashInt k) (.int k tk)
  have f1 := layNew_fits t es (hashInt k) (.int k tk)
  have T1 := T.layNew es (hashInt k) (.int k tk)
  generalize layNew t es (hashInt k) (.int k tk) = L at p1 f1 T1 ⊢
  obtain ⟨es1, t1, wd, gv⟩ := L
  dsimp only at p1 f1 T1 ⊢
  rw [Array.toList_push] at p1
  have g1 : ∀ e ∈ es1.toList, GoodE e := fun e he => by
   rcases List.mem_append.mp (p1.mem_iff.mp he) with z | z
   ·exact hg e z
   ·rw [List.mem_singleton.mp z]; exact ⟨k, tk, rfl⟩
  have pk : (es1.toList.map keyE).Perm (ks ++ [k]) := by
   have := p1.map keyE
   rw [List.map_append, hk] at this
   exact this
  have nd1 : (es1.toList.map keyE).Nodup := pk.nodup_iff.mpr (List.nodup_append.mpr ⟨nd, List.nodup_cons.mpr ⟨(fun h => nomatch h), List.nodup_nil⟩, fun x hx' y hy e => hn (by rw [← List.mem_singleton.mp hy, ← e]; exact hx')⟩)
  have b1 : es1.size < scanBound := by
   rw [← Array.length_toList, p1.length_eq, List.length_append, Array.length_toList]
   show es.size + 1 < _
   omega
  have fin : ∀ (g : Bool → Sem Unit) (_ : ∀ (b : Bool) (s1 : Shared) (Q' : Unit → Shared → Prop), Q' () s1 → wpAny (model prog w) A (g b) Q' E s1) (t2 : SetTable), t2.fits es1.size = true → TabOk t2 led → wpAny (model prog w) A (do
    storeSet a es1 t2
    if (!wd && t2.tooFull) = true then do
      g (relayAll t2 es1 (SetTable.grown es1.size)).2.2
      storeSet a (relayAll t2 es1 (SetTable.grown es1.size)).1 (relayAll t2 es1 (SetTable.grown es1.size)).2.1
      pure (some true)
     else pure (some true)) (fun r s' => wpAny (model prog w) A (match r with | some added => pure added | none => setAddHashedIn a (.int k tk) (hashInt k) 99999) Q E s') E s := by
   intro g hg2 t2 f2 T2
   refine wpAny_bind (wpAny_storeSet_of ho hd ?_ (fits_of_scanBound b1))
   obtain ⟨e1, S1⟩ := SetI.store (led := led) ho hx hd g1 nd1 b1 f2 T2
   have sb := Heap.SameBut.update s.heap a (Obj.putSet es1 t2)
   by_cases hc : (!wd && t2.tooFull) = true
   ·rw [if_pos hc]
    have p2 := relayAll_perm t2 es1 (SetTable.grown es1.size)
    have f3 := relayAll_fits t2 es1 (SetTable.grown es1.size)
    have T3 := T2.relayAll es1 (SetTable.grown es1.size)
    generalize relayAll t2 es1 (SetTable.grown es1.size) = L at p2 f3 T3 ⊢
    obtain ⟨es2, t3, gv2⟩ := L
    dsimp only at p2 f3 T3 ⊢
    have sz : es2.size = es1.size := by rw [← Array.length_toList, p2.length_eq, Array.length_toList]
    have pk2 := (p2.map keyE).trans pk
    refine wpAny_bind (hg2 _ _ _ (wpAny_bind (wpAny_storeSet_of e1 rfl ?_ (fits_of_scanBound (by rw [sz]; exact b1)))))
    obtain ⟨_, S2⟩ := SetI.store (led := led) (es' := es2) (t' := t3) e1 hx rfl (fun e he => g1 e (p2.mem_iff.mp he)) ((p2.map keyE).nodup_iff.mpr nd1) (by rw [sz]; exact b1) f3 T3
    exact wpAny_pure (wpAny_pure (q true _ _ (sb.trans (Heap.SameBut.update _ a _)) S2 (fun z => absurd z hn) fun _ => pk2))
   ·rw [if_neg hc]
    exact wpAny_pure (wpAny_pure (q true _ _ sb S1 (fun z => absurd z hn) fun _ => pk))
  refine wpAny_bind (gw _ ?_)
  split
  ·refine wpAny_bind ?_
   rw [hashByValue_scannable 8 sc]
   refine wpAny_pure ?_
   exact fin _ (fun b s1 Q' z => by cases b <;> first | exact wpAny_pure z | exact wpAny_rule z) _ (by split; exact f1; exact SetTable.fits_plain_off f1) (by split; exact T1; exact ⟨T1.up, T1.dum, T1.led⟩)
  ·refine wpAny_bind (wpAny_pure ?_)
   exact fin _ (fun b s1 Q' z => by cases b <;> first | exact wpAny_pure z | exact wpAny_rule z) _ f1 T1
end
end HT
namespace HT
open PySem PyProof.Rows
section
variable {prog : Program} {w : World} {A : Around} {E : Value → Shared → Prop} {s : Shared}
def ledW (w : World) : Bool := !w.params.followText "set-order"
def freshSet (w : World) : Obj := { cls := .type "set", dict := none, data := .set #[] 0 (.fresh 0 0 (ledW w)) }
theorem freshSet_I {h : Heap} {a : Addr} (e : h.get? a = some (freshSet w)) : SetI h a [] (ledW w) :=
 ⟨_, #[], 0, .fresh 0 0 (ledW w), e, ⟨rfl, rfl, rfl⟩, rfl, (fun _ h => nomatch h), rfl, List.nodup_nil, by show 0 < scanBound; decide, rfl, ⟨List.Pairwise.nil, rfl, rfl⟩⟩
theorem set_newL (v : Value) {R : Value → Shared → Prop} (q : R (.ref s.heap.objs.size) { s with heap := s.heap.push (freshSet w) }) : codeAny (model prog w) A (.call (.builtin "set.__new__") ⟨[.type "set", v], []⟩) (wants R E) s := by
 refine codeAny_of_tree ?_
 change wpAny _ A.in1 (checkBuiltinCall "set.__new__" ⟨[.type "set", v], []⟩ >>= fun _ => again (.builtin "set.__new__" ⟨[.type "set", v], []⟩)) _ _ s
 refine wpAny_bind (wpAny_of_eq (F.newCall_set_1 v) (wpAny_pure ⟨plainId_quiet F.plain_set_new _, codeAny_builtin F.entry_set_new ?_⟩))
 rw [Around.under_plainId F.plain_set_new _]
 unfold Builtin.«set.__new__» Builtin.Frozenset.newClass
 have sub := sub_set_self
 obtain ⟨h0, g0, d0, t0, o0⟩ := s
 dsimp only
 wp_walk
 refine wpAny_askSetting (wpAny_pure ?_)
 dsimp only
 simp only [newObj]
 exact wpAny_bind (wpAny_alloc (wpAny_pure (wpAny_pure q)))
theorem set_fill {I S : Addr} {fp wr : List Addr} {n : Nat} {P : Nat → Value → Prop} {St : Nat → Heap → Prop} {R : Result → Shared → Prop} {led : Bool} (W : Walks prog w A.in1 I fp wr n P St) (nS : S ∉ fp) (val : Nat → Int) (hv : ∀ i v, P i v → ∃ t, v = .int (val i) t) (hb : ∀ ks : List Int, ks.Nodup → (∀ x ∈ ks, ∃ j < n, val j = x) → ks.length + 1 < scanBound) :
  ∀ (k i : Nat) (s : Shared) (ks : List Int), i + k = n → St i s.heap → SetI s.heap S ks led → ks.length ≤ i → (∀ x, x ∈ ks ↔ ∃ j < i, val j = x) →
   (∀ h' tk ks', SetI h' S ks' led → (∀ x, x ∈ ks' ↔ ∃ j < n, val j = x) → (∀ b o, b ∉ wr → b ≠ S → s.heap.get? b = some o → h'.get? b = some o) → R (.ok (.ret .none)) { s with heap := h', toks := tk }) →
   codeAny (model prog w) A (.builtin "set.update.loop" ⟨[.ref S, .ref I], []⟩) R s := by
 have nW : S ∉ wr := fun z => nS (W.sub S z)
 intro k
 induction k with
 | zero =>
  intro i s ks hi hst hS _ hm q
  have ei : i = n := by omega
  subst ei
  refine codeAny_builtin F.entry_set_update_loop ?_
  rw [Around.under_plainId F.plain_set_update_loop _]
  refine wpAny_bind (m := pyNext (.ref I)) (W.done s _ _ hst fun h' tk kp => ?_)
  obtain ⟨o, es, ep, t, ho, rest⟩ := hS
  exact wpAny_pure (q h' tk ks ⟨o, es, ep, t, kp S _ nW ho, rest⟩ hm fun b o h1 _ h3 => kp b o h1 h3)
 | succ k ih =>
  intro i s ks hi hst hS hlen hm q
  refine codeAny_builtin F.entry_set_update_loop ?_
  rw [Around.under_plainId F.plain_set_update_loop _]
  refine wpAny_bind (m := pyNext (.ref I)) (W.item i s _ _ (by omega) hst fun v h1 t1 hP st1 kp => ?_)
  obtain ⟨tv, rfl⟩ := hv i v hP
  have hS1 : SetI h1 S ks led := by
   obtain ⟨o, es, ep, t, ho, rest⟩ := hS
   exact ⟨o, es, ep, t, kp S _ nW ho, rest⟩
  refine wpAny_bind (m := holding [Value.int (val i) tv] (setAdd S (.int (val i) tv))) (wpAny_holding ?_)
  unfold setAdd
  refine wpAny_holding (wpAny_bind (wpAny_pyHash_int ?_))
  refine setAdd_I (s := { s with heap := h1, toks := t1 + 1 }) hS1 (hb ks (let ⟨_, _, _, _, _, _, _, _, _, nd, _⟩ := hS; nd) fun x hx => let ⟨j, h1, h2⟩ := (hm x).mp hx; ⟨j, by omega, h2⟩) fun b h2 ks2 sb S2 c1 c2 => ?_
  have m2 : ∀ x, x ∈ ks2 ↔ ∃ j < i + 1, val j = x := fun x => by
   by_cases hin : val i ∈ ks
   ·rw [(c1 hin).mem_iff, hm x]
    refine ⟨fun ⟨j, h1, h2⟩ => ⟨j, by omega, h2⟩, fun ⟨j, h1, h2⟩ => ?_⟩
    by_cases e : j = i
    ·rw [e] at h2
     rw [h2] at hin
     exact (hm x).mp hin
    ·exact ⟨j, by omega, h2⟩
   ·rw [(c2 hin).mem_iff, List.mem_append, List.mem_singleton, hm x]
    refine ⟨fun z => z.elim (fun ⟨j, h1, h2⟩ => ⟨j, by omega, h2⟩) fun e => ⟨i, by omega, e.symm⟩, fun ⟨j, h1, h2⟩ => ?_⟩
    by_cases e : j = i
    ·rw [e] at h2
     exact .inr h2.symm
    ·exact .inl ⟨j, by omega, h2⟩
  have l2 : ks2.length ≤ i + 1 := by
   by_cases hin : val i ∈ ks
   ·rw [(c1 hin).length_eq]; omega
   ·rw [(c2 hin).length_eq, List.length_append]
    show ks.length + 1 ≤ _
    omega
  refine wpAny_pure ⟨plainId_quiet F.plain_set_update_loop _, ih (i + 1) _ ks2 (by omega) (W.frame _ _ _ st1 fun c hc o h => ?_) S2 l2 m2 fun h' tk ks' S' m' kp' => q h' tk ks' S' m' fun c o h1' h2' h3' => kp' c o h1' h2' ?_⟩
  ·rw [sb.2 c (fun z : c = S => nS (by rw [← z]; exact hc))]; exact h
  ·show h2.get? c = some o
   rw [sb.2 c h2']; exact kp c o h1' h3'
set_option maxHeartbeats 6400000 in
theorem call_setI {l : Addr} {items : Array Value} {ns : List Int} {Q : Value → Shared → Prop} (hh : A.handled = none) (hl : s.heap.IsList l items) (hi : IntsAre items.toList ns) (hb : ∀ ks : List Int, ks.Nodup → (∀ x ∈ ks, x ∈ ns) → ks.length + 1 < scanBound)
  (q : ∀ h' tk ks, SetI h' s.heap.objs.size ks (ledW w) → (∀ x, x ∈ ks ↔ x ∈ ns) → (∀ b o, b < s.heap.objs.size → s.heap.get? b = some o → h'.get? b = some o) → Q (.ref s.heap.objs.size) { s with heap := h', toks := tk }) : wpAny (model prog w) A (call (.type "set") [.ref l]) Q E s := by
 obtain ⟨c0, tl0, mro0⟩ := F.called_set.mro
 have made0 := F.called_set.made
 have sub0 := F.called_set.sub
 have lt : l < s.heap.objs.size := by obtain ⟨_, e, _⟩ := hl; exact Heap.lt_size e
 refine wpAny_call (codeAny_of_tree ?_)
 change wpAny _ _ (callAny (.type "set") _) _ _ _
 refine wpAny_pure ⟨Code.quiet_builtin _ (by decide +kernel), codeAny_builtin F.entry_type_call ?_⟩
 rw [Around.under_plain (weight_type_call_type "set" [.ref l] []) rfl]
 have nt := F.called_set.notType
 have cc := F.called_set.canCreate
 have tc := F.typeCall_set_1 (.ref l)
 repeat (any_goals (first | assumption | wp_step))
 refine codeAny_mono (set_newL (.ref l) (E := E) (R := fun ob s1 => ob = .ref s.heap.objs.size ∧ s1 = { s with heap := s.heap.push (freshSet w) }) ⟨rfl, rfl⟩) fun r s1 hr => ?_
 cases r with
 | error e => exact hr
 | ok fl =>
  cases fl with
  | ret ob =>
   obtain ⟨rfl, rfl⟩ := hr
   have eS : (s.heap.push (freshSet w)).get? s.heap.objs.size = some (freshSet w) := Heap.get?_push_size _ rfl
   have tS : Shared.TypeIs { s with heap := s.heap.push (freshSet w) } (.ref s.heap.objs.size) "set" := ⟨_, eS, rfl⟩
   have li := F.called_set.init.lookup
   have bi := F.called_set.init.bind (.ref s.heap.objs.size)
   repeat (any_goals (first | assumption | wp_step))
   refine codeAny_mono (codeAny_call_builtin (R := wants (fun r s2 => r = .none ∧ ∃ h' tk ks, s2 = { s with heap := h', toks := tk } ∧ SetI h' s.heap.objs.size ks (ledW w) ∧ (∀ x, x ∈ ks ↔ x ∈ ns) ∧ (∀ b o, b < s.heap.objs.size → s.heap.get? b = some o → h'.get? b = some o)) E) F.called_set.init.plain F.entry_set_init (check_set_init_1 tS ?_)) fun r2 s2 hr2 => ?_
   ·have ll : (s.heap.push (freshSet w)).IsList l items := hl.push _
    obtain ⟨⟨oc, od, odat, osl⟩, ho, hc, nl, hd⟩ := id ll
    simp only at hc hd
    subst hc hd
    have s1 := F.sub_list_set
    have s2 := F.sub_list_frozenset
    have nd : (Value.type "list" == Value.type "dict") = false := by decide
    unfold freshSet at eS
    unfold Builtin.«set.__init__» noKeywords Builtin.Frozenset.updateFrom
    generalize ePI : pyIter = PI
    wp_walk
    subst ePI
    refine wpAny_pyIter_list ll (wpAny_bind (wpAny_runValue ?_))
    have h3 : A.in1.in1.in1.handled = none := by simp [hh]
    have sz : (s.heap.push (freshSet w)).objs.size = s.heap.objs.size + 1 := Heap.size_push ..
    have ne : l ≠ (s.heap.push (freshSet w)).objs.size := by rw [sz]; exact Nat.ne_of_lt (Nat.lt_succ_of_lt lt)
    have nf : s.heap.objs.size ∉ [(s.heap.push (freshSet w)).objs.size, l] := by
     rw [sz, List.mem_cons, List.mem_singleton]
     exact fun z => z.elim (fun y => absurd y (Nat.ne_of_lt (Nat.lt_succ_self _))) fun y => absurd y (Nat.ne_of_gt lt)
    have hsz : ns.length = items.size := by rw [← hi.length, Array.length_toList]
    refine set_fill (Walks.list h3 _ l ne items) nf (fun i => ns.getD i 0) (fun i v hv => IntsAre.int_at hi i v (by rw [Array.getElem?_toList]; exact hv)) (fun ks nd m => hb ks nd fun x hx => by
     obtain ⟨j, hj, rfl⟩ := m x hx
     rw [List.getD_eq_getElem?_getD, List.getElem?_eq_getElem (by omega)]
     exact List.getElem_mem _) items.size 0 _ [] (Nat.zero_add _)
     ⟨⟨_, Heap.get?_push_size _ rfl, rfl, rfl⟩, ll.push _⟩ (freshSet_I (Heap.get?_push_of_some _ eS)) (Nat.zero_le _) (fun x => ⟨(fun z => nomatch z), fun ⟨j, hj, _⟩ => absurd hj (Nat.not_lt_zero _)⟩) fun h' tk ks S' m' kp => ?_
    refine wpAny_pure (wpAny_pure ⟨rfl, h', tk, ks, rfl, S', fun x => ?_, fun b o hb' e => ?_⟩)
    ·rw [m' x]
     constructor
     ·rintro ⟨j, hj, rfl⟩
      rw [List.getD_eq_getElem?_getD, List.getElem?_eq_getElem (by omega)]
      exact List.getElem_mem _
     ·intro hx
      obtain ⟨j, hj, e⟩ := List.mem_iff_getElem.mp hx
      exact ⟨j, by omega, by rw [List.getD_eq_getElem?_getD, List.getElem?_eq_getElem hj]; exact e⟩
    ·refine kp b o (fun z => ?_) (Nat.ne_of_lt hb') (Heap.get?_push_of_some _ (Heap.get?_push_of_some _ e))
     rw [List.mem_singleton, sz] at z
     have y := Nat.lt_succ_of_lt hb'
     rw [z] at y
     exact absurd y (Nat.lt_irrefl _)
   ·cases r2 with
    | error e => exact hr2
    | ok fl2 =>
     cases fl2 with
     | ret r =>
      obtain ⟨rfl, h', tk, ks, rfl, S', m', kp⟩ := hr2
      repeat (any_goals (first | assumption | wp_step))
      exact q _ _ _ S' m' kp
     | _ => exact hr2.elim
  | _ => exact hr.elim
end
end HT
namespace HT
open PySem PyProof.Rows
theorem slot_seti_next : Slot "set_iterator" "__next__" "set_iterator.__next__" :=
 .of (owner := "set_iterator") (n := "__next__") (by rw [typeLookup_type, builtinLookup_eq_fast]; kernel_rfl) (by decide +kernel) (by decide +kernel) (by decide +kernel) (by first | exact .inl (by decide +kernel) | exact .inr (by decide +kernel)) (by rw [isSubtype_type]; kernel_rfl)
theorem entry_seti_next : entryFor table "set_iterator.__next__" = some Builtin.«set_iterator.__next__» := entryFor_of_fast (by kernel_rfl)
theorem args_seti_next (a : Value) : argsOk "set_iterator.__next__" ⟨[a], []⟩ := by unfold argsOk; kernel_rfl
theorem entry_set_iter : entryFor table "set.__iter__" = some Builtin.«frozenset.__iter__» := entryFor_alias (id' := "frozenset.__iter__") (by kernel_rfl) rfl (by decide +kernel) (by kernel_rfl)
theorem choose_wp {M : Model} {A : Around} {E : Value → Shared → Prop} {s : Shared} {src : Source} {n : Nat} {Q : Nat → Shared → Prop} (hn : n ≠ 0) (q : ∀ i d, i < n → Q i { s with drawn := d }) : wpAny M A (choose src n) Q E s :=
 fun _ _ _ => ⟨hn, q _ _ (Nat.mod_lt _ (Nat.pos_of_ne_zero hn))⟩
theorem perm_out {α : Type} : ∀ {l : List α} {i : Nat} (h : i < l.length), (l[i] :: l.eraseIdx i).Perm l
 | _ :: _, 0, _ => List.Perm.refl _
 | a :: r, i + 1, h => ((List.Perm.swap a _ _).trans (List.Perm.cons a (perm_out (l := r) (i := i) (Nat.lt_of_succ_lt_succ h))))
theorem draw_perm {M : Model} {A : Around} {E : Value → Shared → Prop} {α : Type} (n : Nat) : ∀ (xs : List α) (s : Shared) (Q : List α → Shared → Prop), xs.length ≤ n → (∀ ys d, ys.Perm xs → Q ys { s with drawn := d }) → wpAny M A (drawOrder n xs) Q E s := by
 induction n with
 | zero =>
  intro xs s Q hl q
  have e : xs = [] := List.length_eq_zero_iff.mp (by omega)
  subst e
  exact wpAny_pure (q [] s.drawn (List.Perm.refl _))
 | succ n ih =>
  intro xs s Q hl q
  cases xs with
  | nil => exact wpAny_pure (q [] s.drawn (List.Perm.refl _))
  | cons x r =>
   unfold drawOrder
   refine wpAny_bind (choose_wp (by simp) fun i d hi => ?_)
   rw [List.getElem?_eq_getElem hi]
   refine wpAny_bind (ih _ _ _ ?_ fun ys d' hp => wpAny_pure (q _ d' ?_))
   ·rw [List.length_eraseIdx_of_lt hi]
    rw [List.length_cons] at hl ⊢
    omega
   ·exact (List.Perm.cons _ hp).trans (perm_out hi)
theorem pick_go {α : Type} (next : Nat → Nat) : ∀ (fuel k : Nat) (left : List α) (out : Array α), left.length = fuel → (pickOrder.go next fuel k left out).toList.Perm (out.toList ++ left)
 | 0, k, [], out, _ => by show out.toList.Perm _; rw [List.append_nil]
 | fuel + 1, k, left, out, hl => by
  have hi : next k % left.length < left.length := Nat.mod_lt _ (by omega)
  unfold pickOrder.go
  rw [List.getElem?_eq_getElem hi]
  refine (pick_go next fuel (k + 1) _ _ (by rw [List.length_eraseIdx_of_lt hi]; omega)).trans ?_
  rw [Array.toList_push, List.append_assoc]
  exact List.Perm.append_left _ (perm_out hi)
theorem pick_perm {α : Type} (next : Nat → Nat) (xs : Array α) : (pickOrder next xs).toList.Perm xs.toList := pick_go next _ 0 _ #[] (Array.length_toList)
def slotAt (place : Array Nat) (i : Nat) : Nat := if i = 0 then 0 else place.getD (i - 1) 0 + 1
theorem BelowAt.uniq {xs : Array Nat} {j b c : Nat} (B : BelowAt xs j b) (C : BelowAt xs j c) : b = c := by
 rcases Nat.lt_trichotomy b c with z | z | z
 ·have h1 := C.lo b z
  have h2 := B.hi b (Nat.le_refl _) (by have := C.le; omega)
  omega
 ·exact z
 ·have h1 := B.lo c z
  have h2 := C.hi c (Nat.le_refl _) (by have := B.le; omega)
  omega
theorem slotAt_below {xs : Array Nat} (u : UpP xs) {i : Nat} (hi : i ≤ xs.size) : SetTable.below xs (slotAt xs i) = i := by
 refine (below_is u _).uniq ?_
 unfold slotAt
 by_cases h0 : i = 0
 ·rw [if_pos h0, h0]
  exact ⟨Nat.zero_le _, fun k h => absurd h (Nat.not_lt_zero _), fun k _ _ => Nat.zero_le _⟩
 ·rw [if_neg h0]
  refine ⟨hi, fun k hk => ?_, fun k h1 h2 => ?_⟩
  ·by_cases e : k = i - 1
   ·rw [e]; exact Nat.lt_succ_self _
   ·have := u.at (show k < i - 1 by omega) (by omega)
    omega
  ·exact u.at (show i - 1 < k by omega) h2
section
variable {prog : Program} {w : World} {A : Around} {E : Value → Shared → Prop} {s : Shared} {a : Addr} {o : Obj} {es : Array (Int × Value)} {ep : Nat} {t : SetTable}
theorem next_text {slot given : Nat} {Q : Option (Value × Nat) → Shared → Prop} (ho : s.heap.get? a = some o) (hd : o.data = .set es ep t) (hf : t.fits es.size = true) (hT : w.params.followText "set-order" = true)
  (q : Q (((pickOrder (w.params.setOrder a ep) es)[given]?).map fun e => (e.2, slot)) s) : wpAny (model prog w) A (setNext a slot given ep) Q E s := by
 have by_ : ∀ {Q' : Bool → Shared → Prop}, Q' true s → wpAny (model prog w) A setsByText Q' E s := fun z => by
  unfold setsByText
  have z' := z
  rw [← hT] at z'
  exact wpAny_bind (wpAny_askSetting (wpAny_pure z'))
 unfold setNext
 refine wpAny_bind (wpAny_setState_of ho hd hf (wpAny_bind (by_ ?_)))
 rw [if_pos rfl]
 dsimp only
 rw [if_neg (by simp)]
 unfold setWalk
 refine wpAny_bind (wpAny_bind (wpAny_setState_of ho hd hf (wpAny_bind (by_ ?_))))
 rw [if_pos rfl]
 exact wpAny_bind (wpAny_askSetting (wpAny_pure (wpAny_pure q)))
theorem next_led {slot given : Nat} {Q : Option (Value × Nat) → Shared → Prop} (ho : s.heap.get? a = some o) (hd : o.data = .set es ep t) (hf : t.fits es.size = true) (hT : w.params.followText "set-order" = false) (hl : t.led = true) (hp : (!t.plain && decide (es.size > 1)) = false)
  (q : Q (match es[SetTable.below t.place slot]?, t.place[SetTable.below t.place slot]? with | some (_, x), some j => some (x, j + 1) | _, _ => none) s) : wpAny (model prog w) A (setNext a slot given ep) Q E s := by
 have by_ : ∀ {Q' : Bool → Shared → Prop}, Q' false s → wpAny (model prog w) A setsByText Q' E s := fun z => by
  unfold setsByText
  have z' := z
  rw [← hT] at z'
  exact wpAny_bind (wpAny_askSetting (wpAny_pure z'))
 unfold setNext
 refine wpAny_bind (wpAny_setState_of ho hd hf (wpAny_bind (by_ ?_)))
 rw [if_neg Bool.false_ne_true]
 dsimp only
 change wpAny _ _ (if (!t.plain && decide (es.size > 1)) = true then _ else _) _ _ _
 rw [if_neg (by rw [hp]; exact Bool.false_ne_true)]
 change wpAny _ _ ((if (!t.led && !es.isEmpty) = true then _ else _) >>= _) _ _ _
 rw [if_neg (by rw [hl]; exact Bool.false_ne_true)]
 exact wpAny_bind (wpAny_pure (wpAny_pure q))
end
end HT
namespace HT
open PySem PyProof.Rows
def itO (first : Value) (i n ep : Nat) (a : Addr) : Obj := { cls := .type "set_iterator", dict := none, data := .fields #[first, rawInt i, .ref a, rawInt n, rawInt ep], slots := #[] }
section
variable {prog : Program} {w : World} {A : Around} {E : Value → Shared → Prop} {s : Shared} {a I : Addr} {o : Obj} {es : Array (Int × Value)} {ep : Nat} {t : SetTable}
theorem entries_wp {Q : Array (Int × Value) → Shared → Prop} (ho : s.heap.get? a = some o) (hd : o.data = .set es ep t) (hf : t.fits es.size = true) (q : Q es s) : wpAny (model prog w) A (setEntries a) Q E s := by
 unfold setEntries
 exact wpAny_bind (wpAny_setState_of ho hd hf (wpAny_pure q))
theorem stop_wp {Q : Option Value → Shared → Prop} {K : Value → Sem (Option Value)} (hh : A.handled = none) (q : ∀ h', (∀ b o, s.heap.get? b = some o → h'.get? b = some o) → ∀ x, (∃ oo, h'.get? x = some oo ∧ oo.cls = .type "StopIteration") → wpAny (model prog w) A (K (.ref x)) Q E { s with heap := h' }) :
  wpAny (model prog w) A.in1 (newExc (.type "StopIteration") [] >>= fun x => raiseNew (α := Fin) x) (fun _ _ => False) (fun e s' => wpAny (model prog w) A (K e) Q E s') s := by
 refine wpAny_bind ?_
 simp only [newExc, newTuple]
 refine wpAny_bind (wpAny_newObj_type ?_ (by size_fits))
 refine wpAny_bind (m := firstArgMember _ _) (wpAny_of_eq (a := Value.none) (by first | rfl | (simp only [firstArgMember]; rfl)) ?_)
 refine wpAny_newObj_type ?_ (by size_fits)
 simp only [raiseNew]
 refine wpAny_bind (wpAny_handled ?_)
 rw [show A.in1.handled = none from hh]
 refine wpAny_bind (wpAny_pure (wpAny_throw ?_))
 exact q _ (fun b o e => Heap.get?_push_of_some _ (Heap.get?_push_of_some _ e)) _ ⟨_, Heap.get?_push_size _ rfl, rfl⟩
theorem seti_item {sl sl' i n : Nat} {v : Value} {Q : Option Value → Shared → Prop} (hI : s.heap.get? I = some (itO (rawInt sl) i n ep a)) (ho : s.heap.get? a = some o) (hd : o.data = .set es ep t) (hf : t.fits es.size = true) (hz : es.size = n)
  (hn : ∀ (E' : Value → Shared → Prop) (Q' : Option (Value × Nat) → Shared → Prop), Q' (some (v, sl')) s → wpAny (model prog w) A.in1 (setNext a sl i ep) Q' E' s)
  (q : ∀ h', h'.get? I = some (itO (rawInt sl') (i + 1) n ep a) → Heap.SameBut I s.heap h' → Q (some v) { s with heap := h' }) : wpAny (model prog w) A (pyNext (.ref I)) Q E s := by
 have ty : s.TypeIs (.ref I) "set_iterator" := ⟨_, hI, rfl⟩
 unfold pyNext
 refine wpAny_bind (wpAny_attempt (wpAny_callSpecial?_slot (name := Str.ofString "__next__") ty slot_seti_next (wpAny_call_entry slot_seti_next ty entry_seti_next ?_ (args_seti_next _))))
 change wpAny _ _ (fieldsOf (.ref I) >>= _) _ _ s
 refine wpAny_bind (wpAny_fieldsOf hI rfl ?_)
 change wpAny _ _ (setEntries a >>= _) _ _ s
 refine wpAny_bind (entries_wp ho hd hf ?_)
 rw [hz]
 change wpAny _ _ (if (((n : Nat) : Int) != ((n : Nat) : Int)) = true then _ else _) _ _ s
 rw [if_neg (by simp)]
 change wpAny _ _ (setNext a ((sl : Nat) : Int).toNat ((i : Nat) : Int).toNat ((ep : Nat) : Int).toNat >>= _) _ _ s
 rw [Int.toNat_natCast, Int.toNat_natCast, Int.toNat_natCast]
 refine wpAny_bind (hn _ _ ?_)
 change wpAny _ _ (setField (.ref I) 0 (rawInt (sl' : Nat)) >>= _) _ _ s
 refine wpAny_bind (wpAny_setField_rec hI (by simp) fun h1 e1 sb1 => ?_)
 refine wpAny_bind (m := setField (.ref I) 1 (rawInt (((i : Nat) : Int) + 1))) (wpAny_setField_rec e1 (by simp) fun h2 e2 sb2 => wpAny_pure ⟨v, rfl, wpAny_pure (q _ ?_ (sb1.trans sb2))⟩)
 exact e2
theorem seti_end {sl i n : Nat} {Q : Option Value → Shared → Prop} (hh : A.handled = none) (hI : s.heap.get? I = some (itO (rawInt sl) i n ep a)) (ho : s.heap.get? a = some o) (hd : o.data = .set es ep t) (hf : t.fits es.size = true) (hz : es.size = n)
  (hn : ∀ (E' : Value → Shared → Prop) (Q' : Option (Value × Nat) → Shared → Prop), Q' none s → wpAny (model prog w) A.in1 (setNext a sl i ep) Q' E' s)
  (q : ∀ h', Heap.ExtBut I s.heap h' → Q none { s with heap := h' }) : wpAny (model prog w) A (pyNext (.ref I)) Q E s := by
 have ty : s.TypeIs (.ref I) "set_iterator" := ⟨_, hI, rfl⟩
 unfold pyNext
 refine wpAny_bind (wpAny_attempt (wpAny_callSpecial?_slot (name := Str.ofString "__next__") ty slot_seti_next (wpAny_call_entry slot_seti_next ty entry_seti_next ?_ (args_seti_next _))))
 change wpAny _ _ (fieldsOf (.ref I) >>= _) _ _ s
 refine wpAny_bind (wpAny_fieldsOf hI rfl ?_)
 change wpAny _ _ (setEntries a >>= _) _ _ s
 refine wpAny_bind (entries_wp ho hd hf ?_)
 rw [hz]
 change wpAny _ _ (if (((n : Nat) : Int) != ((n : Nat) : Int)) = true then _ else _) _ _ s
 rw [if_neg (by simp)]
 change wpAny _ _ (setNext a ((sl : Nat) : Int).toNat ((i : Nat) : Int).toNat ((ep : Nat) : Int).toNat >>= _) _ _ s
 rw [Int.toNat_natCast, Int.toNat_natCast, Int.toNat_natCast]
 refine wpAny_bind (hn _ _ ?_)
 change wpAny _ _ (setField (.ref I) 2 .none >>= _) _ _ s
 refine wpAny_bind (wpAny_setField_rec hI (by simp) fun h1 e1 sb1 => ?_)
 refine wpAny_mono (stop_wp (A := A) (s := { s with heap := h1 }) hh fun h2 kp x ⟨oo, e2, c2⟩ => ?_) (fun _ _ z => z.elim) fun e s' z => z
 refine wpAny_bind (wpAny_isInstance (T := "StopIteration") (b := true) ⟨oo, e2, c2⟩ isSubtype_stop ?_)
 exact wpAny_pure (q _ fun b ob hb e => kp b ob (sb1.extBut b ob hb e))
theorem drawn_wp {p : Nat} {e : Int × Value} {Q : Value → Shared → Prop} (ho : s.heap.get? a = some o) (hd : o.data = .set es ep t) (hf : t.fits es.size = true) (he : es[p]? = some e) (q : Q e.2 s) : wpAny (model prog w) A (setNextDrawn a p ep) Q E s := by
 unfold setNextDrawn
 refine wpAny_bind (wpAny_setState_of ho hd hf ?_)
 dsimp only
 rw [if_neg (by simp), he]
 exact wpAny_pure q
theorem setd_item {T : Addr} {ps : List Nat} {i n p : Nat} {e : Int × Value} {Q : Option Value → Shared → Prop} (hI : s.heap.get? I = some (itO (.ref T) i n ep a)) (hT : IsTup s.heap T (ps.map fun p : Nat => rawInt p).toArray) (ho : s.heap.get? a = some o) (hd : o.data = .set es ep t) (hf : t.fits es.size = true) (hz : es.size = n)
  (hp : ps[i]? = some p) (he : es[p]? = some e) (q : ∀ h', h'.get? I = some (itO (.ref T) (i + 1) n ep a) → Heap.SameBut I s.heap h' → Q (some e.2) { s with heap := h' }) : wpAny (model prog w) A (pyNext (.ref I)) Q E s := by
 have ty : s.TypeIs (.ref I) "set_iterator" := ⟨_, hI, rfl⟩
 obtain ⟨ot, hot, _, nt, hdt⟩ := hT
 unfold pyNext
 refine wpAny_bind (wpAny_attempt (wpAny_callSpecial?_slot (name := Str.ofString "__next__") ty slot_seti_next (wpAny_call_entry slot_seti_next ty entry_seti_next ?_ (args_seti_next _))))
 change wpAny _ _ (fieldsOf (.ref I) >>= _) _ _ s
 refine wpAny_bind (wpAny_fieldsOf hI rfl ?_)
 change wpAny _ _ (setEntries a >>= _) _ _ s
 refine wpAny_bind (entries_wp ho hd hf ?_)
 rw [hz]
 change wpAny _ _ (if (((n : Nat) : Int) != ((n : Nat) : Int)) = true then _ else _) _ _ s
 rw [if_neg (by simp)]
 change wpAny _ _ (seqItems? (.ref T) >>= _) _ _ s
 refine wpAny_bind (wpAny_seqItems hot hdt ?_)
 have ep' : (ps.map fun p : Nat => rawInt p).toArray[((i : Nat) : Int).toNat]? = some (rawInt p) := by rw [Int.toNat_natCast, List.getElem?_toArray, List.getElem?_map, hp]; rfl
 dsimp only
 rw [ep']
 change wpAny _ _ (setNextDrawn a ((p : Nat) : Int).toNat ((ep : Nat) : Int).toNat >>= _) _ _ s
 rw [Int.toNat_natCast, Int.toNat_natCast]
 refine wpAny_bind (drawn_wp ho hd hf he ?_)
 refine wpAny_bind (m := setField (.ref I) 1 (rawInt (((i : Nat) : Int) + 1))) (wpAny_setField_rec hI (by simp) fun h2 e2 sb2 => wpAny_pure ⟨e.2, rfl, wpAny_pure (q _ ?_ sb2)⟩)
 exact e2
theorem setd_end {T : Addr} {ps : List Nat} {i n : Nat} {Q : Option Value → Shared → Prop} (hh : A.handled = none) (hI : s.heap.get? I = some (itO (.ref T) i n ep a)) (hT : IsTup s.heap T (ps.map fun p : Nat => rawInt p).toArray) (ho : s.heap.get? a = some o) (hd : o.data = .set es ep t) (hf : t.fits es.size = true) (hz : es.size = n)
  (hp : ps[i]? = none) (q : ∀ h', Heap.ExtBut I s.heap h' → Q none { s with heap := h' }) : wpAny (model prog w) A (pyNext (.ref I)) Q E s := by
 have ty : s.TypeIs (.ref I) "set_iterator" := ⟨_, hI, rfl⟩
 obtain ⟨ot, hot, _, nt, hdt⟩ := hT
 unfold pyNext
 refine wpAny_bind (wpAny_attempt (wpAny_callSpecial?_slot (name := Str.ofString "__next__") ty slot_seti_next (wpAny_call_entry slot_seti_next ty entry_seti_next ?_ (args_seti_next _))))
 change wpAny _ _ (fieldsOf (.ref I) >>= _) _ _ s
 refine wpAny_bind (wpAny_fieldsOf hI rfl ?_)
 change wpAny _ _ (setEntries a >>= _) _ _ s
 refine wpAny_bind (entries_wp ho hd hf ?_)
 rw [hz]
 change wpAny _ _ (if (((n : Nat) : Int) != ((n : Nat) : Int)) = true then _ else _) _ _ s
 rw [if_neg (by simp)]
 change wpAny _ _ (seqItems? (.ref T) >>= _) _ _ s
 refine wpAny_bind (wpAny_seqItems hot hdt ?_)
 have ep' : (ps.map fun p : Nat => rawInt p).toArray[((i : Nat) : Int).toNat]? = none := by rw [Int.toNat_natCast, List.getElem?_toArray, List.getElem?_map, hp]; rfl
 dsimp only
 rw [ep']
 change wpAny _ _ (setField (.ref I) 0 (rawInt 0) >>= _) _ _ s
 refine wpAny_bind (wpAny_setField_rec hI (by simp) fun h0 e0 sb0 => ?_)
 change wpAny _ _ (setField (.ref I) 2 .none >>= _) _ _ _
 refine wpAny_bind (wpAny_setField_rec e0 (by simp) fun h1 e1 sb1 => ?_)
 refine wpAny_mono (stop_wp (A := A) (s := { s with heap := h1 }) hh fun h2 kp x ⟨oo, e2, c2⟩ => ?_) (fun _ _ z => z.elim) fun e s' z => z
 refine wpAny_bind (wpAny_isInstance (T := "StopIteration") (b := true) ⟨oo, e2, c2⟩ isSubtype_stop ?_)
 exact wpAny_pure (q _ fun b ob hb e => kp b ob ((sb0.trans sb1).extBut b ob hb e))
theorem iter_set {Q : Value → Shared → Prop} (ho : s.heap.get? a = some o) (hx : o.ExactSet) (hd : o.data = .set es ep t) (hf : t.fits es.size = true)
  (q1 : (w.params.followText "set-order" = true ∨ (!t.plain && decide (es.size > 1)) = false) → Q (.ref s.heap.objs.size) { s with heap := s.heap.push (itO (rawInt 0) 0 es.size ep a) })
  (q2 : ∀ (ps : List Nat) (d : Drawn), ps.Perm (List.range es.size) → Q (.ref (s.heap.objs.size + 1)) { s with heap := (s.heap.push { cls := .type "tuple", data := .seq (ps.map fun p : Nat => rawInt p).toArray }).push (itO (.ref s.heap.objs.size) 0 es.size ep a), drawn := d }) (hsz : es.size ≤ sizeLine) : wpAny (model prog w) A (pyIter (.ref a)) Q E s := by
 have ty : s.TypeIs (.ref a) "set" := ⟨o, ho, hx.1⟩
 refine wpAny_pyIter_slot ty PySem.F.slot_set_iter (wpAny_call_entry PySem.F.slot_set_iter ty entry_set_iter ?_ (PySem.F.args_set_iter_1 _))
 unfold Builtin.«frozenset.__iter__»
 change wpAny _ _ (Builtin.Frozenset.sizeOf a >>= _) _ _ s
 unfold Builtin.Frozenset.sizeOf
 refine wpAny_bind (wpAny_bind (entries_wp ho hd hf (wpAny_pure ?_)))
 unfold setDrawn
 refine wpAny_bind (wpAny_bind (wpAny_setState_of ho hd hf ?_))
 unfold setsByText
 refine wpAny_bind (wpAny_bind (wpAny_askSetting (wpAny_pure (wpAny_pure ?_))))
 change wpAny _ _ (if (!w.params.followText "set-order" && (!t.plain && decide (es.size > 1))) = true then _ else _) _ _ _
 by_cases hc : (!w.params.followText "set-order" && (!t.plain && decide (es.size > 1))) = true
 ·rw [if_pos hc]
  refine wpAny_bind (draw_perm es.size (List.range es.size) s _ (by rw [List.length_range]; exact Nat.le_refl _) fun ps d hp => ?_)
  have hl : (ps.map fun p : Nat => rawInt p).length ≤ sizeLine := by rw [List.length_map, hp.length_eq, List.length_range]; exact hsz
  unfold newTuple
  refine wpAny_bind (wpAny_newObj_type ?_ (by first | exact hl | simpa using hl))
  refine wpAny_bind (m := setEpoch a) (wpAny_setEpoch_of (Heap.get?_push_of_some _ ho) hd hf ?_)
  have sz : (s.heap.push { cls := .type "tuple", data := .seq (ps.map fun p : Nat => rawInt p).toArray }).objs.size = s.heap.objs.size + 1 := Heap.size_push ..
  refine wpAny_bind (wpAny_newObj_type (wpAny_pure ⟨_, rfl, "set_iterator", _, ⟨_, Heap.get?_push_size _ rfl, rfl⟩, slot_seti_next.lookup, ?_⟩))
  have z := q2 ps d hp
  rw [← sz] at z
  exact z
 ·rw [if_neg hc]
  refine wpAny_bind (wpAny_pure ?_)
  refine wpAny_bind (m := setEpoch a) (wpAny_setEpoch_of ho hd hf ?_)
  refine wpAny_bind (wpAny_newObj_type (wpAny_pure ⟨_, rfl, "set_iterator", _, ⟨_, Heap.get?_push_size _ rfl, rfl⟩, slot_seti_next.lookup, q1 ?_⟩))
  cases hT : w.params.followText "set-order" with
  | true => exact .inl rfl
  | false =>
   rw [hT] at hc
   exact .inr (Bool.eq_false_iff.mpr hc)
end
end HT
namespace HT
open PySem PyProof.Rows
structure WalkN (prog : Program) (w : World) (A : Around) (I : Addr) (fp : List Addr) (vs : List Value) (St : Nat → Heap → Prop) : Prop where
 inI : I ∈ fp
 frame : ∀ i h h', St i h → (∀ b ∈ fp, ∀ o, h.get? b = some o → h'.get? b = some o) → St i h'
 item : ∀ (i : Nat) (v : Value) (s : Shared) (Q : Option Value → Shared → Prop) (E : Value → Shared → Prop), vs[i]? = some v → St i s.heap → (∀ h', St (i + 1) h' → (∀ b o, b ≠ I → s.heap.get? b = some o → h'.get? b = some o) → Q (some v) { s with heap := h' }) → wpAny (model prog w) A (pyNext (.ref I)) Q E s
 done : ∀ (s : Shared) (Q : Option Value → Shared → Prop) (E : Value → Shared → Prop), St vs.length s.heap → (∀ h', (∀ b o, b ≠ I → s.heap.get? b = some o → h'.get? b = some o) → Q none { s with heap := h' }) → wpAny (model prog w) A (pyNext (.ref I)) Q E s
section
variable {prog : Program} {w : World} {A : Around} {E : Value → Shared → Prop} {s : Shared} {a I S : Addr}
theorem ext_loop {fp : List Addr} {vs : List Value} {St : Nat → Heap → Prop} {R : Result → Shared → Prop} {res : Value} (W : WalkN prog w A.in1 I fp vs St) (nS : S ∉ fp) (hz : vs.length ≤ sizeLine) : ∀ (k i : Nat) (s : Shared) (acc : Array Value) (c : Nat), i + k = vs.length → St i s.heap →
  s.heap.get? S = some { cls := .type "list", dict := none, data := .seq acc c, slots := #[] } → acc.toList = vs.take i →
  (∀ h' acc' c', acc'.toList = vs → h'.get? S = some { cls := .type "list", dict := none, data := .seq acc' c', slots := #[] } → (∀ b o, b ≠ I → b ≠ S → s.heap.get? b = some o → h'.get? b = some o) → R (.ok (.ret res)) { s with heap := h' }) →
  codeAny (model prog w) A (.builtin "list.extend.loop" ⟨[.ref S, .ref I, res], []⟩) R s := by
 have SI : S ≠ I := fun z => nS (by rw [z]; exact W.inI)
 intro k
 induction k with
 | zero =>
  intro i s acc c hi hst hS ha q
  have ei : i = vs.length := by omega
  subst ei
  refine codeAny_builtin F.entry_extend_loop ?_
  rw [Around.under_plainId F.plain_extend_loop _]
  refine wpAny_bind (m := pyNext (.ref I)) (W.done s _ _ hst fun h' kp => ?_)
  exact wpAny_pure (q h' acc c (by rw [ha, List.take_length]) (kp S _ SI hS) fun b o h1 _ h3 => kp b o h1 h3)
 | succ k ih =>
  intro i s acc c hi hst hS ha q
  have hlt : i < vs.length := by omega
  have sza : acc.size = i := by rw [← Array.length_toList, ha, List.length_take]; omega
  refine codeAny_builtin F.entry_extend_loop ?_
  rw [Around.under_plainId F.plain_extend_loop _]
  refine wpAny_bind (m := pyNext (.ref I)) (W.item i vs[i] s _ _ (List.getElem?_eq_getElem hlt) hst fun h1 st1 kp => ?_)
  have hS1 := kp S _ SI hS
  refine wpAny_bind (m := updateSeq S (·.push vs[i])) (wpAny_updateSeq hS1 rfl (wpAny_pure ⟨plainId_quiet F.plain_extend_loop _, ih (i + 1) _ (acc.push vs[i]) _ (by omega) (W.frame _ _ _ st1 fun b hb o h => ?_) (Heap.get?_update_self _ hS1 rfl) ?_ fun h' acc' c' h1' h2' h3' => q h' acc' c' h1' h2' fun b o b1 b2 b3 => h3' b o b1 b2 ?_⟩) (by rw [sza]; omega) (by show (acc.push vs[i]).size ≤ sizeLine + 1; rw [Array.size_push, sza]; omega))
  ·rw [Heap.get?_update_other _ _ (fun z : S = b => nS (by rw [z]; exact hb))]; exact h
  ·rw [Array.toList_push, ha, List.take_add_one, List.getElem?_eq_getElem hlt]; rfl
  ·rw [Heap.get?_update_other _ _ (Ne.symm b2)]; exact kp b o b1 b3
theorem set_hint {Q : Bool → Shared → Prop} (ty : s.TypeIs (.ref a) "set") (q : Q false s) : wpAny (model prog w) A (Builtin.List.listLengthHint (.ref a)) Q E s := by
 unfold Builtin.List.listLengthHint
 refine wpAny_bind (wpAny_specialOf ty PySem.F.slot_set_len.lookup ?_)
 generalize eid : ("set.__len__" : String) = id1
 wp_delta
 rw [show splitId id1 = some ("set", "__len__") from by subst eid; decide +kernel]
 subst eid
 refine wpAny_bind (wpAny_isInstance (T := "set") (b := true) ty (by rw [isSubtype_type]; kernel_rfl) ?_)
 refine wpAny_ite_split (fun z => absurd z (by decide)) (fun _ => ?_)
 refine wpAny_ite_split (fun _ => ?_) (fun z => absurd (by decide +kernel) z)
 exact wpAny_bind (wpAny_typeOf ty (wpAny_pure q))
theorem set_walk {ks : List Int} {Q : Value → Shared → Prop} (hh : A.handled = none) (hS : SetI s.heap a ks (ledW w))
  (q : ∀ (I : Addr) (fp : List Addr) (vs : List Value) (ks' : List Int) (St : Nat → Heap → Prop) (h' : Heap) (d : Drawn), IntsAre vs ks' → ks'.Perm ks → WalkN prog w A I fp vs St → St 0 h' → s.heap.objs.size ≤ I → (∀ b ∈ fp, b < h'.objs.size) → (∀ b ∈ fp, s.heap.objs.size ≤ b ∨ b = a) → (∀ b o, s.heap.get? b = some o → h'.get? b = some o) → Q (.ref I) { s with heap := h', drawn := d }) :
  wpAny (model prog w) A (pyIter (.ref a)) Q E s := by
 obtain ⟨o, es, ep, t, ho, hx, hd, hg, hk, nd, hb, hf, T⟩ := hS
 have la : a < s.heap.objs.size := Heap.lt_size ho
 have allI : ∀ (l : List (Int × Value)), (∀ e ∈ l, GoodE e) → IntsAre (l.map (·.2)) (l.map keyE) := by
  intro l
  induction l with
  | nil => intro _; exact .nil
  | cons e r ih =>
   intro h
   obtain ⟨k, tk, rfl⟩ := h e List.mem_cons_self
   exact .cons k tk (ih fun e he => h e (List.mem_cons_of_mem _ he))
 have szI : ∀ x : Obj, (s.heap.push x).objs.size = s.heap.objs.size + 1 := fun x => Heap.size_push ..
 refine iter_set ho hx hd hf (fun hm => ?_) (fun ps d hp => ?_) (fits_of_scanBound hb)
 ·have fr : ∀ {sl : Nat → Nat} (i : Nat) (h h' : Heap), (h.get? s.heap.objs.size = some (itO (rawInt (sl i)) i es.size ep a) ∧ h.get? a = some o) → (∀ b ∈ [s.heap.objs.size, a], ∀ o, h.get? b = some o → h'.get? b = some o) → (h'.get? s.heap.objs.size = some (itO (rawInt (sl i)) i es.size ep a) ∧ h'.get? a = some o) := fun i h h' st kp => ⟨kp _ (by simp) _ st.1, kp _ (by simp) _ st.2⟩
  have mk : ∀ (sl : Nat → Nat) (l : List (Int × Value)), sl 0 = 0 → l.Perm es.toList →
    (∀ (s1 : Shared) (i : Nat) (v : Value), (l.map (·.2))[i]? = some v → s1.heap.get? a = some o → ∀ (E' : Value → Shared → Prop) (Q' : Option (Value × Nat) → Shared → Prop), Q' (some (v, sl (i + 1))) s1 → wpAny (model prog w) A.in1 (setNext a (sl i) i ep) Q' E' s1) →
    (∀ (s1 : Shared), s1.heap.get? a = some o → ∀ (E' : Value → Shared → Prop) (Q' : Option (Value × Nat) → Shared → Prop), Q' none s1 → wpAny (model prog w) A.in1 (setNext a (sl l.length) l.length ep) Q' E' s1) →
    Q (.ref s.heap.objs.size) { s with heap := s.heap.push (itO (rawInt 0) 0 es.size ep a) } := by
   intro sl l h0 hp h1 h2
   refine q s.heap.objs.size [s.heap.objs.size, a] (l.map (·.2)) (l.map keyE) (fun i h => h.get? s.heap.objs.size = some (itO (rawInt (sl i)) i es.size ep a) ∧ h.get? a = some o) _ s.drawn (allI l fun e he => hg e (hp.mem_iff.mp he)) (by rw [← hk]; exact hp.map keyE) ⟨by simp, fr, fun i v s1 Q' E' hv st q' => ?_, fun s1 Q' E' st q' => ?_⟩
    ⟨by rw [h0]; exact Heap.get?_push_size _ rfl, Heap.get?_push_of_some _ ho⟩ (Nat.le_refl _) (fun b hb' => ?_) (fun b hb' => ?_) (fun b ob e => Heap.get?_push_of_some _ e)
   ·refine seti_item st.1 st.2 hd hf rfl (fun E' Q'' z => h1 s1 i v hv st.2 E' Q'' z) fun h' e' sb => q' h' ⟨e', ?_⟩ fun b ob hb' e => sb.extBut b ob hb' e
    exact sb.extBut a o (Nat.ne_of_lt la) st.2
   ·have st2 := st
    rw [List.length_map] at st2
    exact seti_end hh st2.1 st2.2 hd hf rfl (fun E' Q'' z => h2 s1 st2.2 E' Q'' z) fun h' eb => q' h' fun b ob hb' e => eb b ob hb' e
   ·rw [szI]
    rcases List.mem_cons.mp hb' with z | z
    ·rw [z]; exact Nat.lt_succ_self _
    ·rw [List.mem_singleton.mp z]; exact Nat.lt_succ_of_lt la
   ·rcases List.mem_cons.mp hb' with z | z
    ·exact .inl (by rw [z]; exact Nat.le_refl _)
    ·exact .inr (List.mem_singleton.mp z)
  cases hT : w.params.followText "set-order" with
  | true =>
   refine mk (fun _ => 0) (pickOrder (w.params.setOrder a ep) es).toList rfl (pick_perm _ _) (fun s1 i v hv e1 E' Q' z => ?_) (fun s1 e1 E' Q' z => ?_)
   ·refine next_text e1 hd hf hT ?_
    rw [List.getElem?_map] at hv
    cases he : (pickOrder (w.params.setOrder a ep) es).toList[i]? with
    | none => rw [he] at hv; cases hv
    | some x =>
     rw [he] at hv
     have he' : (pickOrder (w.params.setOrder a ep) es)[i]? = some x := by rw [← Array.getElem?_toList]; exact he
     rw [he']
     cases hv
     exact z
   ·refine next_text e1 hd hf hT ?_
    have he' : (pickOrder (w.params.setOrder a ep) es)[(pickOrder (w.params.setOrder a ep) es).toList.length]? = none := by rw [← Array.getElem?_toList]; exact List.getElem?_eq_none (Nat.le_refl _)
    rw [he']
    exact z
  | false =>
   have hp : (!t.plain && decide (es.size > 1)) = false := by
    rcases hm with z | z
    ·rw [hT] at z; cases z
    ·exact z
   have hl : t.led = true := by rw [T.led]; unfold ledW; rw [hT]; rfl
   have psz : t.place.size = es.size := by
    have := hf
    simp only [SetTable.fits, Bool.and_eq_true, beq_iff_eq] at this
    exact this.1
   refine mk (slotAt t.place) es.toList rfl (List.Perm.refl _) (fun s1 i v hv e1 E' Q' z => ?_) (fun s1 e1 E' Q' z => ?_)
   ·refine next_led e1 hd hf hT hl hp ?_
    rw [List.getElem?_map] at hv
    cases he : es.toList[i]? with
    | none => rw [he] at hv; cases hv
    | some x =>
     rw [he] at hv
     have hi : i < es.size := by
      have := (List.getElem?_eq_some_iff.mp he).1
      rw [Array.length_toList] at this
      exact this
     have he' : es[i]? = some x := by rw [← Array.getElem?_toList]; exact he
     rw [slotAt_below T.up (by omega), he', Array.getElem?_eq_getElem (by omega)]
     cases hv
     have e2 : slotAt t.place (i + 1) = t.place[i] + 1 := by
      unfold slotAt
      rw [if_neg (Nat.succ_ne_zero _), Nat.add_sub_cancel, Array.getD_eq_getD_getElem?, Array.getElem?_eq_getElem (by omega)]
      rfl
     rw [e2] at z
     exact z
   ·refine next_led e1 hd hf hT hl hp ?_
    rw [Array.length_toList, slotAt_below T.up (by omega)]
    have he' : es[es.size]? = none := Array.getElem?_eq_none (Nat.le_refl _)
    rw [he']
    exact z
 ·have psl : ps.length = es.size := by rw [hp.length_eq, List.length_range]
  have at_ : ∀ {i p : Nat}, ps[i]? = some p → p < es.size := fun h => List.mem_range.mp (hp.mem_iff.mp (List.mem_of_getElem? h))
  have lsp : (ps.filterMap fun p => es[p]?).Perm es.toList := (hp.filterMap _).trans (by rw [filterMap_getElem?_range])
  have lat : ∀ (i : Nat), (ps.filterMap fun p => es[p]?)[i]? = (ps[i]?).bind fun p => es[p]? := by
   have key : ∀ (ps : List Nat), (∀ p ∈ ps, p < es.size) → ∀ i : Nat, (ps.filterMap fun p => es[p]?)[i]? = (ps[i]?).bind fun p => es[p]? := by
    intro ps
    induction ps with
    | nil => intro _ i; rfl
    | cons p r ih =>
     intro h i
     have hpl := h p List.mem_cons_self
     rw [List.filterMap_cons, Array.getElem?_eq_getElem hpl]
     cases i with
     | zero => show some es[p] = es[p]?; rw [Array.getElem?_eq_getElem hpl]
     | succ i => exact ih (fun x hx => h x (List.mem_cons_of_mem _ hx)) i
   exact key ps fun p h => List.mem_range.mp (hp.mem_iff.mp h)
  have tl : (s.heap.push { cls := .type "tuple", data := .seq (ps.map fun p : Nat => rawInt p).toArray }).get? s.heap.objs.size = some { cls := .type "tuple", data := .seq (ps.map fun p : Nat => rawInt p).toArray } := Heap.get?_push_size _ rfl
  refine q (s.heap.objs.size + 1) [s.heap.objs.size + 1, s.heap.objs.size, a] ((ps.filterMap fun p => es[p]?).map (·.2)) ((ps.filterMap fun p => es[p]?).map keyE)
   (fun i h => h.get? (s.heap.objs.size + 1) = some (itO (.ref s.heap.objs.size) i es.size ep a) ∧ h.get? s.heap.objs.size = some { cls := .type "tuple", data := .seq (ps.map fun p : Nat => rawInt p).toArray } ∧ h.get? a = some o) _ d
   (allI _ fun e he => hg e (lsp.mem_iff.mp he)) (by rw [← hk]; exact lsp.map keyE) ⟨by simp, fun i h h' st kp => ⟨kp _ (by simp) _ st.1, kp _ (by simp) _ st.2.1, kp _ (by simp) _ st.2.2⟩, fun i v s1 Q' E' hv st q' => ?_, fun s1 Q' E' st q' => ?_⟩
   ⟨by rw [← szI { cls := .type "tuple", data := .seq (ps.map fun p : Nat => rawInt p).toArray }]; exact Heap.get?_push_size _ rfl, Heap.get?_push_of_some _ tl, Heap.get?_push_of_some _ (Heap.get?_push_of_some _ ho)⟩ (Nat.le_succ _) (fun b hb' => ?_) (fun b hb' => ?_) (fun b ob e => Heap.get?_push_of_some _ (Heap.get?_push_of_some _ e))
  ·rw [List.getElem?_map, lat i] at hv
   cases hpi : ps[i]? with
   | none => rw [hpi] at hv; cases hv
   | some p =>
    rw [hpi] at hv
    have hv' : (es[p]?).map (·.2) = some v := hv
    rw [Array.getElem?_eq_getElem (at_ hpi)] at hv'
    cases hv'
    refine setd_item st.1 ⟨_, st.2.1, rfl, 0, rfl⟩ st.2.2 hd hf rfl hpi (Array.getElem?_eq_getElem (at_ hpi)) fun h' e' sb => q' h' ⟨e', ?_, ?_⟩ fun b ob hb' e => sb.extBut b ob hb' e
    ·exact sb.extBut _ _ (Nat.ne_of_lt (Nat.lt_succ_self _)) st.2.1
    ·exact sb.extBut a o (Nat.ne_of_lt (Nat.lt_succ_of_lt la)) st.2.2
  ·have ln : ((ps.filterMap fun p => es[p]?).map (·.2)).length = ps.length := by rw [List.length_map, lsp.length_eq, Array.length_toList, psl]
   have st2 := st
   rw [ln] at st2
   exact setd_end hh st2.1 ⟨_, st2.2.1, rfl, 0, rfl⟩ st2.2.2 hd hf rfl (List.getElem?_eq_none (Nat.le_refl _)) fun h' eb => q' h' fun b ob hb' e => eb b ob hb' e
  ·rw [Heap.size_push, szI]
   rcases List.mem_cons.mp hb' with z | z
   ·rw [z]; exact Nat.lt_succ_self _
   ·rcases List.mem_cons.mp z with z | z
    ·rw [z]; exact Nat.lt_succ_of_lt (Nat.lt_succ_self _)
    ·rw [List.mem_singleton.mp z]; exact Nat.lt_succ_of_lt (Nat.lt_succ_of_lt la)
  ·rcases List.mem_cons.mp hb' with z | z
   ·exact .inl (by rw [z]; exact Nat.le_succ _)
   ·rcases List.mem_cons.mp z with z | z
    ·exact .inl (by rw [z]; exact Nat.le_refl _)
    ·exact .inr (List.mem_singleton.mp z)
end
end HT
namespace HT
open PySem PyProof.Rows
section
variable {prog : Program} {w : World} {A : Around} {E : Value → Shared → Prop} {s : Shared} {a : Addr}
theorem collect_set {ks : List Int} {R : List Value → Shared → Prop} (hh : A.handled = none) (hS : SetI s.heap a ks (ledW w)) (hz : ks.length ≤ sizeLine)
  (q : ∀ (vs : List Value) (ks' : List Int) (h' : Heap) (d : Drawn), IntsAre vs ks' → ks'.Perm ks → (∀ b o, s.heap.get? b = some o → h'.get? b = some o) → R vs { s with heap := h', drawn := d }) : wpAny (model prog w) A (collect (.ref a)) R E s := by
 have la : a < s.heap.objs.size := by obtain ⟨o, _, _, _, ho, _⟩ := hS; exact Heap.lt_size ho
 unfold collect
 refine wpAny_bind (wpAny_runValue (codeAny_builtin F.entry_proto_collect ?_))
 rw [Around.under_plainId F.plain_proto_collect _]
 refine wpAny_bind (m := newList []) (wpAny_newObj_type ?_)
 refine wpAny_pure ⟨plainId_quiet F.plain_list_iadd _, codeAny_builtin F.entry_list_iadd ?_⟩
 rw [Around.under_plainId F.plain_list_iadd _]
 have e1 : (s.heap.push { cls := .type "list", data := .seq ([] : List Value).toArray }).get? s.heap.objs.size = some { cls := .type "list", dict := none, data := .seq #[] 0, slots := #[] } := Heap.get?_push_size _ rfl
 have sz1 : (s.heap.push { cls := .type "list", data := .seq ([] : List Value).toArray }).objs.size = s.heap.objs.size + 1 := Heap.size_push ..
 have hS1 : SetI (s.heap.push { cls := .type "list", data := .seq ([] : List Value).toArray }) a ks (ledW w) := by
  obtain ⟨o, es, ep, t, ho, r⟩ := hS
  exact ⟨o, es, ep, t, Heap.get?_push_of_some _ ho, r⟩
 have ty : Shared.TypeIs { s with heap := s.heap.push { cls := .type "list", data := .seq ([] : List Value).toArray } } (.ref a) "set" := by
  obtain ⟨o, es, ep, t, ho, hx, _⟩ := hS1
  exact ⟨o, ho, hx.1⟩
 change wpAny _ A.in1 (Builtin.List.listExtendWith (.ref s.heap.objs.size) (.ref a) (.ref s.heap.objs.size)) _ _ _
 unfold Builtin.List.listExtendWith
 refine wpAny_bind (wpAny_typeOf ty ?_)
 have c1 : Builtin.List.listSameRef (.ref s.heap.objs.size) (.ref a) = false := by simp [Builtin.List.listSameRef, Nat.ne_of_gt la]
 have c2 : (Value.type "set" == Value.type "list") = false := by decide
 have c3 : (Value.type "set" == Value.type "tuple") = false := by decide
 simp only [c1, c2, c3, Bool.or_false, Bool.false_eq_true, if_false]
 refine wpAny_bind (set_walk (A := A.in1) (s := { s with heap := s.heap.push { cls := .type "list", data := .seq ([] : List Value).toArray } }) hh hS1 fun I fp vs ks' St h2 d hi hp W st hI hlt hfp kp => ?_)
 have e2 := kp _ _ e1
 have nS : s.heap.objs.size ∉ fp := fun z => by
  rcases hfp _ z with y | y
  ·have y' : s.heap.objs.size + 1 ≤ s.heap.objs.size := by rw [← sz1]; exact y
   exact absurd y' (Nat.not_succ_le_self _)
  ·exact absurd y (Nat.ne_of_gt la)
 have hvl : vs.length ≤ sizeLine := by rw [hi.length, hp.length_eq]; exact hz
 have ty2 : Shared.TypeIs { s with heap := h2, drawn := d } (.ref a) "set" := by
  obtain ⟨o, es, ep, t, ho, hx, _⟩ := hS1
  exact ⟨o, kp _ _ ho, hx.1⟩
 have fin : ∀ (h3 : Heap) (c : Nat), St 0 h3 → h3.get? s.heap.objs.size = some { cls := .type "list", dict := none, data := .seq #[] c, slots := #[] } → (∀ b o, b ≠ s.heap.objs.size → h2.get? b = some o → h3.get? b = some o) →
   codeAny (model prog w) A (.builtin "list.extend.loop" ⟨[.ref s.heap.objs.size, .ref I, .ref s.heap.objs.size], []⟩) (fun r s' => match r with | .ok (.ret v) => wpAny (model prog w) A (match v with | .ref a => (do match (← load a).data with | .seq xs _ => pure xs.toList | _ => unsupported "internal:collect") | _ => unsupported "internal:collect") R E s' | .ok _ => False | .error e => E e s') { s with heap := h3, drawn := d } := by
  intro h3 c st3 e3 k3
  refine ext_loop W nS hvl vs.length 0 _ #[] c (Nat.zero_add _) st3 e3 rfl fun h' acc c' ha e' k' => ?_
  refine wpAny_bind (wpAny_load e' (wpAny_pure ?_))
  rw [ha]
  refine q vs ks' h' d hi hp fun b o hb => ?_
  have lb := Heap.lt_size hb
  have nb : b ≠ s.heap.objs.size := Nat.ne_of_lt lb
  have nI : b ≠ I := fun z => by
   have y : s.heap.objs.size + 1 ≤ I := by rw [← sz1]; exact hI
   rw [← z] at y
   exact absurd (Nat.lt_of_lt_of_le (Nat.lt_succ_self _) y) (Nat.lt_asymm lb)
  exact k' b o nI nb (k3 b o nb (kp b o (Heap.get?_push_of_some _ hb)))
 refine wpAny_bind (wpAny_holding (set_hint ty2 ?_))
 refine wpAny_ite_split (fun _ => ?_) (fun _ => wpAny_pure ⟨plainId_quiet F.plain_extend_loop _, fin h2 0 st e2 fun b o _ e => e⟩)
 refine wpAny_bind (wpAny_rule ?_)
 refine wpAny_bind ?_
 change wpAny _ _ (updateSeq s.heap.objs.size (·.push .none) >>= fun _ => updateSeq s.heap.objs.size (·.pop)) _ _ _
 refine wpAny_bind (wpAny_updateSeq e2 rfl ?_)
 have e3 := Heap.get?_update_self (Obj.mapSeq (·.push Value.none)) e2 rfl
 refine wpAny_updateSeq (hz := by seq_fits) e3 rfl ?_
 have e4 := Heap.get?_update_self (Obj.mapSeq (·.pop)) e3 rfl
 refine wpAny_pure ⟨plainId_quiet F.plain_extend_loop _, fin _ _ (W.frame 0 _ _ st fun b hb o e => ?_) e4 fun b o hb e => ?_⟩
 ·have nb : s.heap.objs.size ≠ b := fun z => nS (by rw [z]; exact hb)
  rw [Heap.get?_update_other _ _ nb, Heap.get?_update_other _ _ nb]; exact e
 ·rw [Heap.get?_update_other _ _ (Ne.symm hb), Heap.get?_update_other _ _ (Ne.symm hb)]; exact e
end
end HT
namespace L2
open PySem PySem.Spec PyProof.Rows
section
variable {X : Cx}
theorem sub_lenI : ∀ {xs ys : List Int}, xs.Nodup → (∀ x ∈ xs, x ∈ ys) → xs.length ≤ ys.length
 | [], _, _, _ => Nat.zero_le _
 | x :: xs, ys, nd, h => by
  obtain ⟨h1, nd'⟩ := List.nodup_cons.mp nd
  have hx := h x List.mem_cons_self
  have ih := sub_lenI (ys := ys.erase x) nd' fun y hy => (List.mem_erase_of_ne (fun e : y = x => h1 (e ▸ hy))).mpr (h y (List.mem_cons_of_mem _ hy))
  rw [List.length_erase_of_mem hx] at ih
  have : 0 < ys.length := List.length_pos_of_mem hx
  rw [List.length_cons]
  omega
def tSortSet (K : PySem.W.Frag) (te : TE) : TE := fun σ H Q => te σ H fun x H1 => ∃ (p : Addr) (ns : List Int), x = .ref p ∧ SqL K H1 p (ns.map V.int) ∧ ns.length < 64 ∧
 ∀ (l : Addr) (ys : List Int), H1 l = none → ys.Pairwise (· < ·) → (∀ y, y ∈ ys ↔ y ∈ ns) → Q (.ref l) (upd H1 l (.lst (ys.map V.int)))
theorem boot_set : bootBuiltins "set" = some (.type "set") := by decide +kernel
theorem pe_sortSet {e : Expr} {te : TE} {p1 p2 pos pos2 : Pos} (hcalm : X.calm = true) (hg1 : Gl X "sorted") (hm1 : X.mg "sorted" = none) (hg2 : Gl X "set") (hm2 : X.mg "set" = none) (he : PE X e te) (hs : starEach (e :: []) X.env = (false, eval e X.env) :: starEach [] X.env := by rfl)
  (hs2 : starEach ((.Call (.Name "set" p2) [e] [] pos2) :: []) X.env = (false, eval (.Call (.Name "set" p2) [e] [] pos2) X.env) :: starEach [] X.env := by rfl) :
  PE X (.Call (.Name "sorted" p1) [.Call (.Name "set" p2) [e] [] pos2] [] pos) (tSortSet X.K te) := by
 intro pins s σ H Q I h
 refine wpAny_Call_Name_kw (ld_blt I hg1 hm1 boot_sorted ?_)
 refine PyProof.Rows.callWith_builtin1 ?_ hs2 rfl
 rw [hs2]
 show wpAny _ _ (spliced ((false, eval (.Call (.Name "set" p2) [e] [] pos2) X.env) :: backTo pos (starEach [] X.env))) _ _ s
 refine Calls.spliced_cons ?_
 refine wpAny_Call_Name_kw (ld_blt I hg2 hm2 boot_set ?_)
 refine PyProof.Rows.callWith_type1 ?_ hs rfl
 rw [hs]
 show wpAny _ _ (spliced ((false, eval e X.env) :: backTo pos2 (starEach [] X.env))) _ _ s
 refine Calls.spliced_cons (thn (he pins s σ H _ I h) fun u s1 ⟨x, H1, I1, r1, q1⟩ => Calls.spliced_nil ?_)
 obtain ⟨p, ns, rfl, hq, h64, q⟩ := q1
 cases r1
 obtain ⟨its, rv, pl, hz⟩ := I1.list hq
 have hi := vals_intsAre rv
 have hlen : its.length = ns.length := hi.length
 refine HT.call_setI (I1.ok.hd hcalm) pl.isList (by simpa using hi) (fun ks nd m => by have := sub_lenI nd m; unfold scanBound; omega) fun h2 tk ks S m kp => Calls.spliced_nil ?_
 have ks64 : ks.length < 64 := by
  obtain ⟨_, _, _, _, _, _, _, _, _, nd, _⟩ := S
  exact Nat.lt_of_le_of_lt (sub_lenI nd fun x hx => (m x).mp hx) h64
 have I2 : Inv X pins σ H1 { s1 with heap := h2, toks := tk } := I1.kept fun b o e => kp b o (Heap.lt_size e) e
 refine Calls.call_function_entry kind_sorted plain_sorted entry_sorted (args_sorted1 _) ?_
 unfold Builtin.«sorted»
 refine wpAny_bind (m := checkCount "sorted" 1 1 _) (wpAny_pure ?_)
 refine wpAny_bind (HT.collect_set (I2.ok.hd hcalm) S (Nat.le_trans (Nat.le_of_lt ks64) (by decide)) fun vs ks' h3 d hv hp k3 => ?_)
 have I3 : Inv X pins σ H1 { s1 with heap := h3, toks := tk, drawn := d } := by
  have I3' : Inv X pins σ H1 { s1 with heap := h3, toks := tk } := I2.kept (t' := tk) k3
  exact ⟨I3'.ok, I3'.os, I3'.bare, I3'.base, I3'.loc, I3'.cell, I3'.free, I3'.freeC, I3'.pin, I3'.hok, I3'.len⟩
 have lv : vs.length = ks.length := by rw [hv.length, hp.length_eq]
 refine wpAny_bind (wpAny_newList ?_ (by rw [lv]; exact Nat.le_trans (Nat.le_of_lt ks64) (by decide)))
 have oL : (h3.push (seqObj "list" vs.toArray 0)).get? h3.objs.size = some (seqObj "list" vs.toArray 0) := Heap.get?_push_size _ rfl
 refine wpAny_bind (wpAny_holding (wpAny_call_entry slot_list_sort ⟨_, oL, rfl⟩ entry_list_sort (list_sort_tree oL hv (by rw [lv]; exact ks64) fun out ys a1 a2 a3 => ⟨_, rfl, ?_⟩) (args_list_sort _)))
 obtain ⟨ee, he'⟩ := sortedHeap_at (out := out) oL
 have sz : (h3.push (seqObj "list" vs.toArray 0)).objs.size = h3.objs.size + 1 := Heap.size_push ..
 have up : ys.Pairwise (· < ·) := by
  have nd : ys.Nodup := by
   obtain ⟨_, _, _, _, _, _, _, _, _, nd, _⟩ := S
   exact (a2.trans hp).nodup_iff.mpr nd
  refine List.Pairwise.imp₂ (fun a b h1 h2 => ?_) a3 nd
  rcases Int.lt_or_eq_of_le h1 with z | z
  ·exact z
  ·exact absurd z h2
 refine wpAny_pure ⟨_, rfl, .ref h3.objs.size, _, I3.laid (t' := tk) (fun b o eb => ?_) (Nat.le_refl _) (show ObjOk X.prog X.w _ _ _ (.lst (ys.map V.int)) from ⟨?_, out.toList, ee, intsAre_vals a1, by simpa using he'⟩), rfl, q _ ys (I3.hok.fresh (Nat.le_refl _)) up fun y => ?_⟩
 ·have hb : b < h3.objs.size := Heap.lt_size eb
  exact (sortedHeap_old (Nat.ne_of_lt hb) (by rw [sz]; exact Nat.lt_succ_of_lt hb)).trans (Heap.get?_push_of_some _ eb)
 ·rw [List.length_map, a2.length_eq, hp.length_eq]
  exact Nat.le_trans (Nat.le_of_lt ks64) (by decide)
 ·rw [(a2.trans hp).mem_iff, m y]
end
end L2
namespace L2
open PySem PySem.Spec PyProof.Rows
section
variable {X : Cx}
end
end L2
namespace HT
open PySem PyProof.Rows
section
variable {prog : Program} {w : World} {A : Around} {E : Value → Shared → Prop} {s : Shared} {I l : Addr} {items : Array Value}
end
end HT
namespace L2
open PySem PySem.Spec PyProof.Rows
section
variable {X : Cx}
end
end L2
namespace HT
open PySem PySem.W PyProof.Rows
def kyA (key : Nat → Int) (p : Array Nat) (i : Nat) : Int := key (p.getD i 0)
def UpA (key : Nat → Int) (p : Array Nat) (m : Nat) : Prop := ∀ i j, i < j → j < m → kyA key p i < kyA key p j
def DnA (key : Nat → Int) (p : Array Nat) (m : Nat) : Prop := ∀ i j, i < j → j < m → kyA key p j < kyA key p i
def AllA (N : Nat) (p : Array Nat) : Prop := p.toList.Perm (List.range N)
section
variable {cmp : Nat → Nat → (Bool → Shared → Prop) → Shared → Prop} {key : Nat → Int} {N : Nat} {s : Shared} {p : Array Nat}
theorem AllA.size (h : AllA N p) : p.size = N := by
 have := h.length_eq
 rw [List.length_range] at this
 simpa using this
theorem AllA.lt (h : AllA N p) (hN : 0 < N) (i : Nat) : p.getD i 0 < N := by
 by_cases hi : i < p.size
 ·have e : p.getD i 0 = p[i] := by simp [Array.getD, hi]
  rw [e]
  have : p[i] ∈ p.toList := by simp
  exact List.mem_range.mp (h.mem_iff.mp this)
 ·have e : p.getD i 0 = 0 := by simp [Array.getD, hi]
  rw [e]; exact hN
theorem AllA.inj (h : AllA N p) {i j : Nat} (hi : i < N) (hj : j < N) (e : p.getD i 0 = p.getD j 0) : i = j := by
 have nd : p.toList.Nodup := h.symm.nodup List.nodup_range
 have hs := h.size
 have ei : p.getD i 0 = p.toList[i]'(by simp [hs, hi]) := by simp [Array.getD, hs, hi]
 have ej : p.getD j 0 = p.toList[j]'(by simp [hs, hj]) := by simp [Array.getD, hs, hj]
 rw [ei, ej] at e
 exact (List.getElem_inj nd).mp e
theorem AllA.perm {p' : Array Nat} (h : AllA N p) (hp : p'.Perm p) : AllA N p' := (Array.perm_iff_toList_perm.mp hp).trans h
variable (hN : 0 < N) (ask : ∀ i j C, i < N → j < N → i ≠ j → C (decide (key i < key j)) s → cmp i j C s) (inj : ∀ i j, i < N → j < N → key i = key j → i = j)
include hN ask inj
theorem kyA_ne (hp : AllA N p) {i j : Nat} (hi : i < N) (hj : j < N) (ne : i ≠ j) (h : ¬ kyA key p i < kyA key p j) : kyA key p j < kyA key p i := by
 rcases Int.lt_trichotomy (kyA key p i) (kyA key p j) with z | z | z
 ·exact absurd z h
 ·exact absurd (hp.inj hi hj (inj _ _ (hp.lt hN i) (hp.lt hN j) z)) ne
 ·exact z
theorem askA (hp : AllA N p) {α : Type} {k : Bool → KasT α} {G : α → Shared → Prop} (i j : Nat) (hi : i < N) (hj : j < N) (ne : i ≠ j) (h1 : kyA key p i < kyA key p j → (k true).kasWp cmp G s) (h2 : ¬ kyA key p i < kyA key p j → (k false).kasWp cmp G s) :
  (KasT.ask (p.getD i 0) (p.getD j 0) k).kasWp cmp G s := by
 refine ask _ _ _ (hp.lt hN i) (hp.lt hN j) (fun z => ne (hp.inj hi hj z)) ?_
 by_cases c : kyA key p i < kyA key p j
 ·have e : decide (key (p.getD i 0) < key (p.getD j 0)) = true := decide_eq_true c
  rw [e]; exact h1 c
 ·have e : decide (key (p.getD i 0) < key (p.getD j 0)) = false := decide_eq_false c
  rw [e]; exact h2 c
theorem ascA (hp : AllA N p) {G : Nat → Shared → Prop} : ∀ (f n : Nat), 1 ≤ n → n + f ≤ N → UpA key p n → (∀ m, n ≤ m → m ≤ n + f → UpA key p m → (m = n + f ∨ kyA key p m < kyA key p (m - 1)) → G m s) → (kas_asc p f n).kasWp cmp G s := by
 intro f
 induction f with
 | zero => intro n _ _ up q; exact q n (Nat.le_refl _) (Nat.le_refl _) up (.inl rfl)
 | succ f ih =>
  intro n h1 hn up q
  unfold kas_asc
  refine askA hN ask inj hp n (n - 1) (by omega) (by omega) (by omega) (fun c => ?_) (fun c => ?_)
  ·rw [if_pos rfl]
   exact q n (Nat.le_refl _) (by omega) up (.inr c)
  ·rw [if_neg (by decide)]
   have c' := kyA_ne hN ask inj hp (by omega) (by omega) (by omega) c
   refine ih (n + 1) (by omega) (by omega) (fun i j hij hj => ?_) fun m m1 m2 m3 m4 => q m (by omega) (by omega) m3 (m4.imp (fun z => by omega) id)
   rcases Nat.lt_or_ge j n with z | z
   ·exact up i j hij z
   ·have e : j = n := by omega
    subst e
    rcases Nat.lt_or_ge i (j - 1) with y | y
    ·exact Int.lt_trans (up i (j - 1) y (by omega)) c'
    ·have e : i = j - 1 := by omega
     rw [e]; exact c'
theorem descA (hp : AllA N p) {G : Array Nat × Nat × Nat → Shared → Prop} : ∀ (f n : Nat), 2 ≤ n → n + f ≤ N → DnA key p n → (∀ m, n ≤ m → m ≤ n + f → DnA key p m → G (p, m, 0) s) → (kas_desc f p n 0).kasWp cmp G s := by
 intro f
 induction f with
 | zero => intro n _ _ dn q; exact q n (Nat.le_refl _) (Nat.le_refl _) dn
 | succ f ih =>
  intro n h1 hn dn q
  unfold kas_desc
  refine askA hN ask inj hp n (n - 1) (by omega) (by omega) (by omega) (fun c => ?_) (fun c => ?_)
  ·rw [if_pos rfl, if_neg (by decide)]
   refine ih (n + 1) (by omega) (by omega) (fun i j hij hj => ?_) fun m m1 m2 m3 => q m (by omega) (by omega) m3
   rcases Nat.lt_or_ge j n with z | z
   ·exact dn i j hij z
   ·have e : j = n := by omega
    subst e
    rcases Nat.lt_or_ge i (j - 1) with y | y
    ·exact Int.lt_trans c (dn i (j - 1) y (by omega))
    ·have e : i = j - 1 := by omega
     rw [e]; exact c
  ·rw [if_neg (by decide)]
   have c' := kyA_ne hN ask inj hp (by omega) (by omega) (by omega) c
   refine askA hN ask inj hp (n - 1) n (by omega) (by omega) (by omega) (fun _ => ?_) (fun d => absurd c' d)
   rw [if_pos rfl]
   exact q n (Nat.le_refl _) (by omega) dn
theorem placeA (hp : AllA N p) {k : Nat} (hk : k < N) (up : UpA key p k) {G : Nat → Shared → Prop} : ∀ (f l r : Nat), r ≤ l + f → l ≤ r → r ≤ k → (∀ i < l, kyA key p i < kyA key p k) → (∀ i, r ≤ i → i < k → kyA key p k < kyA key p i) →
  (∀ l', l' ≤ k → (∀ i < l', kyA key p i < kyA key p k) → (∀ i, l' ≤ i → i < k → kyA key p k < kyA key p i) → G l' s) → (kas_place p k f l r).kasWp cmp G s := by
 intro f
 induction f with
 | zero => intro l r h1 h2 h3 lo hi q; exact q l (by omega) lo fun i hi' => hi i (by omega)
 | succ f ih =>
  intro l r h1 h2 h3 lo hi q
  unfold kas_place
  by_cases c : l ≥ r
  ·rw [if_pos c]
   exact q l (by omega) lo fun i hi' => hi i (by omega)
  rw [if_neg c]
  refine askA hN ask inj hp k ((l + r) / 2) (by omega) (by omega) (by omega) (fun c1 => ?_) (fun c1 => ?_)
  ·rw [if_pos rfl]
   refine ih l ((l + r) / 2) (by omega) (by omega) (by omega) lo (fun i h4 h5 => ?_) q
   rcases Nat.lt_or_ge ((l + r) / 2) i with z | z
   ·exact Int.lt_trans c1 (up _ i z h5)
   ·have e : i = (l + r) / 2 := by omega
    rw [e]; exact c1
  ·rw [if_neg (by decide)]
   have c2 := kyA_ne hN ask inj hp (by omega) (by omega) (by omega) c1
   refine ih ((l + r) / 2 + 1) r (by omega) (by omega) h3 (fun i h4 => ?_) hi q
   rcases Nat.lt_or_ge i ((l + r) / 2) with z | z
   ·exact Int.lt_trans (up i _ z (by omega)) c2
   ·have e : i = (l + r) / 2 := by omega
    rw [e]; exact c2
theorem binA {G : Array Nat → Shared → Prop} (q : ∀ p', AllA N p' → UpA key p' N → G p' s) : ∀ (f : Nat) (p : Array Nat) (k : Nat), AllA N p → k + f = N → UpA key p k → (kas_bin f p k).kasWp cmp G s := by
 intro f
 induction f with
 | zero =>
  intro p k hp hk up
  have e : k = N := by omega
  subst e
  exact q p hp up
 | succ f ih =>
  intro p k hp hk up
  unfold kas_bin
  rw [KasT.kasWp_bind]
  refine placeA hN ask inj hp (by omega) up k 0 k (by omega) (by omega) (Nat.le_refl _) (fun i h => absurd h (Nat.not_lt_zero _)) (fun i h1 h2 => absurd h1 (by omega)) fun l hl lo hi => ?_
  have hp' := hp.perm (bubble_perm p k (k - l))
  refine ih _ (k + 1) hp' (by omega) ?_
  have ks : k < p.size := by rw [hp.size]; omega
  have at_ : ∀ i, kyA key (bubble p k (k - l)) i = if i = l then kyA key p k else if l < i ∧ i ≤ k then kyA key p (i - 1) else kyA key p i := fun i => by
   have e := getElem?_bubble ks (k - l) (by omega) i
   rw [show k - (k - l) = l by omega] at e
   have gd : ∀ (a b : Array Nat) (x y : Nat), a[x]? = b[y]? → kyA key a x = kyA key b y := fun a b x y h => by
    unfold kyA
    rw [Array.getD_eq_getD_getElem?, Array.getD_eq_getD_getElem?, h]
   by_cases h1 : i = l
   ·rw [if_pos h1] at e ⊢; exact gd _ _ _ _ e
   ·rw [if_neg h1] at e ⊢
    by_cases h2 : l < i ∧ i ≤ k
    ·rw [if_pos h2] at e ⊢; exact gd _ _ _ _ e
    ·rw [if_neg h2] at e ⊢; exact gd _ _ _ _ e
  intro i j hij hj
  rw [at_ i, at_ j]
  by_cases h1 : i = l
  ·rw [if_pos h1, if_neg (by omega), if_pos (by omega)]
   exact hi (j - 1) (by omega) (by omega)
  rw [if_neg h1]
  by_cases h2 : j = l
  ·rw [if_pos h2, if_neg (by omega)]
   exact lo i (by omega)
  rw [if_neg h2]
  by_cases h3 : l < i ∧ i ≤ k
  ·rw [if_pos h3, if_pos (by omega)]
   exact up _ _ (by omega) (by omega)
  rw [if_neg h3]
  by_cases h4 : l < j ∧ j ≤ k
  ·rw [if_pos h4]
   have a1 := lo i (by omega)
   have a2 := hi (j - 1) (by omega) (by omega)
   omega
  ·rw [if_neg h4]
   exact up _ _ hij (by omega)
theorem countA (h2 : 2 ≤ N) (hp : AllA N p) {G : Nat × Array Nat → Shared → Prop} (q : ∀ m p', 1 ≤ m → m ≤ N → AllA N p' → UpA key p' m → G (m, p') s) : (kas_count N p).kasWp cmp G s := by
 unfold kas_count
 rw [KasT.kasWp_bind]
 refine ascA hN ask inj hp (N - 1) 1 (Nat.le_refl _) (by omega) (fun i j h1 h2 => absurd h2 (by omega)) fun m m1 m2 up last => ?_
 by_cases e1 : m = N
 ·rw [if_pos (beq_iff_eq.mpr e1)]
  exact q m p m1 (by omega) hp up
 rw [if_neg (fun z => e1 (beq_iff_eq.mp z))]
 by_cases e2 : m > 1
 ·rw [if_pos e2]
  refine askA hN ask inj hp 0 (m - 1) (by omega) (by omega) (by omega) (fun _ => ?_) (fun c => absurd (up 0 (m - 1) (by omega) (by omega)) c)
  rw [if_pos rfl]
  exact q m p m1 (by omega) hp up
 rw [if_neg e2]
 have em : m = 1 := by omega
 subst em
 have d1 : kyA key p 1 < kyA key p 0 := last.resolve_left (by omega)
 unfold kas_descPart
 rw [KasT.kasWp_bind]
 refine descA hN ask inj hp (N - (1 + 1)) (1 + 1) (Nat.le_refl _) (by omega) (fun i j hij hj => ?_) fun m m1 m2 dn => ?_
 ·have e : i = 0 ∧ j = 1 := by omega
  rw [e.1, e.2]; exact d1
 rw [if_neg (Nat.lt_irrefl _)]
 have hp' : AllA N (kas_rev p 0 m) := hp.perm (mirror_perm p 0 m _)
 unfold kas_tail3
 rw [KasT.kasWp_bind]
 have ms : m ≤ p.size := by rw [hp.size]; omega
 have at_ : ∀ i < m, kyA key (kas_rev p 0 m) i = kyA key p (m - 1 - i) := fun i hi => by
  have e := getElem?_mirror_all (i := 0) ms i
  rw [if_pos ⟨Nat.zero_le _, hi⟩, Nat.zero_add] at e
  unfold kyA kas_rev
  rw [Array.getD_eq_getD_getElem?, Array.getD_eq_getD_getElem?, e]
 refine ascA hN ask inj hp' (N - m) m (by omega) (by omega) (fun i j hij hj => ?_) fun m' m3 m4 up' _ => q m' _ (by omega) (by omega) hp' up'
 rw [at_ i (by omega), at_ j hj]
 exact dn _ _ (by omega) (by omega)
theorem sortA (h2 : 2 ≤ N) {G : Array Nat → Shared → Prop} (q : ∀ p', AllA N p' → UpA key p' N → G p' s) : (kas_sort N).kasWp cmp G s := by
 unfold kas_sort
 rw [KasT.kasWp_bind]
 refine countA hN ask inj h2 (p := List.toArray (List.range N)) (List.Perm.refl _) fun m p' m1 m2 hp up => ?_
 by_cases c : m < N
 ·rw [if_pos c]
  have e : max m 1 = m := by omega
  rw [e]
  exact binA hN ask inj q (N - m) p' m hp (by omega) up
 ·rw [if_neg c]
  have e : m = N := by omega
  subst e
  exact q p' hp up
end
end HT
namespace HT
open PySem PySem.W PyProof.Rows PySem.SeqAt PySem.MeetsSeq PySem.MeetsSeq2 PySem.MeetsSeq3
section
variable {prog : Program} {w : World} {A : Around} {E : Value → Shared → Prop} {s : Shared}
end
end HT
namespace HT
open PySem PySem.W PyProof.Rows
end HT
namespace L2
open PySem PySem.Spec PyProof.Rows
section
variable {X : Cx}
theorem refs_are : ∀ {as : List Addr} {its : List Value}, Vals (as.map V.ref) its → its = as.map Value.ref
 | [], _, .nil => rfl
 | a :: r, _, .cons h t => by
  cases h
  rw [refs_are t]
  rfl
end
end L2
namespace L2
open PySem PySem.Spec PyProof.Rows
theorem getD_int0 {L : List Int} {i : Nat} (h : i < L.length) : (L.map V.int).getD i .non = .int (L.getD i 0) ∧ L.getD i 0 ∈ L := by
 rw [List.getD_eq_getElem?_getD, List.getElem?_map, List.getD_eq_getElem?_getD, List.getElem?_eq_getElem h]
 exact ⟨rfl, List.getElem_mem h⟩
theorem turns_ints {K : PySem.W.Frag} {a : Addr} {L : List Int} {tc : TT} {te : TE} {D : Addr} {Q : Hp → Prop} {σ : St} {H1 : Hp} (c : Int → Bool) (v : Int → V) (hS : SqL K H1 a (L.map V.int)) (hD : H1 D = none) (hn : L.length ≤ 1000)
  (ht : ∀ x H', x ∈ L → Same H1 H' → Tells tc (some (.int x) :: σ) H' (c x)) (he : ∀ x H', x ∈ L → c x = true → Same H1 H' → Gives te (some (.int x) :: σ) H' (v x))
  (hq : ∀ H', Same H1 H' → H' D = some (.lst ((L.filter c).map v)) → Q H') : tTurns (Itl K a) (gName 0) tc te D Q (none :: σ) (upd H1 D (.lst [])) := by
 have ml : (L.map V.int).length = L.length := List.length_map _
 refine turns_list (xs := L.map V.int) (fun i => c (L.getD i 0)) (fun i => v (L.getD i 0)) hS hD (by rw [ml]; exact hn) (fun i H' hi g => ?_) (fun i H' hi hc g => ?_) fun H' g e => hq H' g ?_
 ·rw [ml] at hi
  rw [(getD_int0 hi).1]
  exact ht _ H' (getD_int0 hi).2 g
 ·rw [ml] at hi
  rw [(getD_int0 hi).1]
  exact he _ H' (getD_int0 hi).2 hc g
 ·rw [e, ml, ← range_getD_filter c 0 L, List.map_map]
  rfl
def RowsAt (H : Hp) (as : List Addr) (rs : List (List Int)) : Prop := Paired (fun a r => H a = some (.lst (r.map V.int))) as rs
theorem RowsAt.len {H : Hp} {as : List Addr} {rs : List (List Int)} (h : RowsAt H as rs) : as.length = rs.length := Paired.length h
theorem RowsAt.by {H H' : Hp} {as : List Addr} {rs : List (List Int)} (h : RowsAt H as rs) (g : ∀ a ∈ as, ∀ o, H a = some o → H' a = some o) : RowsAt H' as rs := by
 unfold RowsAt at h ⊢
 induction h with
 | nil => exact .nil
 | cons e _ ih => exact .cons (g _ List.mem_cons_self _ e) (ih fun a ha => g a (List.mem_cons_of_mem _ ha))
theorem RowsAt.same {H H' : Hp} {as : List Addr} {rs : List (List Int)} (h : RowsAt H as rs) (g : Same H H') : RowsAt H' as rs := h.by fun a _ o e => g a o e
theorem RowsAt.get {H : Hp} {as : List Addr} {rs : List (List Int)} (h : RowsAt H as rs) : ∀ {i : Nat}, i < as.length → H (as.getD i 0) = some (.lst ((rs.getD i []).map V.int)) ∧ as.getD i 0 ∈ as ∧ rs.getD i [] ∈ rs := by
 unfold RowsAt at h
 induction h with
 | nil => intro i hi; exact absurd hi (Nat.not_lt_zero _)
 | cons e _ ih =>
  intro i hi
  cases i with
  | zero => exact ⟨e, List.mem_cons_self, List.mem_cons_self⟩
  | succ i =>
   obtain ⟨a, b, c⟩ := ih (Nat.lt_of_succ_lt_succ hi)
   exact ⟨a, List.mem_cons_of_mem _ b, List.mem_cons_of_mem _ c⟩
theorem RowsAt.snoc {H : Hp} {as : List Addr} {rs : List (List Int)} {a : Addr} {r : List Int} (h : RowsAt H as rs) (e : H a = some (.lst (r.map V.int))) : RowsAt H (as ++ [a]) (rs ++ [r]) := Paired.snoc h e
theorem RowsAt.mem {H : Hp} {as : List Addr} {rs : List (List Int)} (h : RowsAt H as rs) {a : Addr} (ha : a ∈ as) : ∃ r ∈ rs, H a = some (.lst (r.map V.int)) := by
 unfold RowsAt at h
 induction h with
 | nil => cases ha
 | cons e _ ih =>
  rcases List.mem_cons.mp ha with z | z
  ·rw [z]; exact ⟨_, List.mem_cons_self, e⟩
  ·obtain ⟨r, hr, er⟩ := ih z
   exact ⟨r, List.mem_cons_of_mem _ hr, er⟩
theorem rcv_rows {K : PySem.W.Frag} {H : Hp} {p q : Addr} {as bs : List Addr} {rs ts : List (List Int)} (h1 : H p = some (.lst (as.map V.ref))) (h2 : H q = some (.lst (bs.map V.ref))) (r1 : RowsAt H as rs) (r2 : RowsAt H bs ts) : RcV K H (.ref p) (.ref q) (rs == ts) := by
 have l1 := r1.len
 have l2 := r2.len
 by_cases hl : rs.length = ts.length
 ·have k := RcV.lst (K := K) (e := fun j => rs[j]? == ts[j]?) (SqL.of h1) (SqL.of h2) (by rw [List.length_map, List.length_map]; omega) fun j x y hx hy => by
   have hj : j < as.length := by have := (List.getElem?_eq_some_iff.mp hx).1; rwa [List.length_map] at this
   have hj' : j < bs.length := by omega
   rw [List.getElem?_map, List.getElem?_eq_getElem hj] at hx
   rw [List.getElem?_map, List.getElem?_eq_getElem hj'] at hy
   cases hx
   cases hy
   obtain ⟨e1, _, _⟩ := r1.get hj
   obtain ⟨e2, _, _⟩ := r2.get hj'
   have ga : as.getD j 0 = as[j] := by rw [List.getD_eq_getElem?_getD, List.getElem?_eq_getElem hj]; rfl
   have gb : bs.getD j 0 = bs[j] := by rw [List.getD_eq_getElem?_getD, List.getElem?_eq_getElem hj']; rfl
   have gr : rs.getD j [] = rs[j]'(by omega) := by rw [List.getD_eq_getElem?_getD, List.getElem?_eq_getElem (by omega)]; rfl
   have gt : ts.getD j [] = ts[j]'(by omega) := by rw [List.getD_eq_getElem?_getD, List.getElem?_eq_getElem (by omega)]; rfl
   rw [ga, gr] at e1
   rw [gb, gt] at e2
   rw [List.getElem?_eq_getElem (by omega), List.getElem?_eq_getElem (by omega)]
   show EqV K H 4 (.ref as[j]) (.ref bs[j]) (rs[j] == ts[j])
   by_cases z : as[j] = bs[j]
   ·rw [z] at e1 ⊢
    have e3 : rs[j] = ts[j] := by rw [← rowOf_is e1, rowOf_is e2]
    rw [e3, beq_self_eq_true]
    exact .same _
   ·exact eqv_ints z (SqL.of e1) (SqL.of e2)
  rw [List.length_map, l1, range_all_eq hl] at k
  exact k
 ·have e : (rs == ts) = false := beq_eq_false_iff_ne.mpr fun z => hl (by rw [z])
  rw [e]
  exact .lstN (SqL.of h1) (SqL.of h2) (by rw [List.length_map, List.length_map]; omega)
end L2
namespace L2
open PySem PySem.Spec PyProof.Rows
end L2
namespace L2
open PySem PySem.Spec PyProof.Rows
theorem turns_newI {K : PySem.W.Frag} {a : Addr} {L : List Int} {tc : TT} {te : TE} {D : Addr} {Q : Hp → Prop} {σ : St} {H1 : Hp} (c : Int → Bool) (F : Int → List Int) (hS : SqL K H1 a (L.map V.int)) (hD : H1 D = none) (hn : L.length ≤ 1000)
  (ht : ∀ (x : Int) (H' : Hp), x ∈ L → Same H1 H' → Tells tc (some (.int x) :: σ) H' (c x))
  (he : ∀ (x : Int) (H' : Hp) (P : VK), x ∈ L → c x = true → Same H1 H' → (∀ (o : Addr) (H2 : Hp), Same H' H2 → H' o = none → H2 o = some (.lst ((F x).map V.int)) → P (.ref o) H2) → te (some (.int x) :: σ) H' P)
  (hq : ∀ (us : List Addr) (H' : Hp), Same H1 H' → (∀ u ∈ us, H1 u = none) → us.Nodup → D ∉ us → H' D = some (.lst (us.map V.ref)) → RowsAt H' us ((L.filter c).map F) → Q H') : tTurns (Itl K a) (gName 0) tc te D Q (none :: σ) (upd H1 D (.lst [])) := by
 refine turns_any (n := L.length) (fun i σ' H' => ∃ (x : Option V) (us : List Addr), σ' = x :: σ ∧ Same H1 H' ∧ (∀ u ∈ us, H1 u = none) ∧ us.Nodup ∧ D ∉ us ∧ H' D = some (.lst (us.map V.ref)) ∧ RowsAt H' us (((L.take i).filter c).map F))
  ⟨none, [], rfl, Same.new hD _, fun _ h => (nomatch h), List.nodup_nil, (fun h => nomatch h), upd_same, .nil⟩ ?_ ?_
 ·rintro i σ' H' hi ⟨x, us, rfl, g, fre, nd, du, hl, rows⟩
  have ex : (L.map V.int)[i]? = some (.int L[i]) := by rw [List.getElem?_map, List.getElem?_eq_getElem hi]; rfl
  refine ⟨⟨_, _, g.seq hS, ex⟩, fun y H7 hy => ?_⟩
  obtain ⟨rfl, hy⟩ := hy
  have ey := hy _ (g.seq hS)
  rw [ex] at ey
  cases ey
  have hm : L[i] ∈ L := List.getElem_mem hi
  have ul : us.length ≤ i := by
   have := rows.len
   rw [List.length_map] at this
   have := List.length_filter_le c (L.take i)
   rw [List.length_take] at this
   omega
  have tk : ((L.take (i + 1)).filter c) = (L.take i).filter c ++ [L[i]].filter c := by
   rw [List.take_succ, List.getElem?_eq_getElem hi, List.filter_append]
   rfl
  rw [tk]
  refine ht _ _ hm g _ fun H3 g3 => ?_
  have hl3 := g3 _ _ hl
  have g13 := g.trans g3
  have rows3 := rows.same g3
  by_cases hc : c L[i] = true
  ·rw [if_pos hc]
   have e1 : [L[i]].filter c = [L[i]] := by rw [List.filter_cons, if_pos hc]; rfl
   rw [e1, List.map_append]
   refine he _ _ _ hm hc g13 fun o H2 g2 no eo => ?_
   have oD : o ≠ D := Ne.symm (ne_of_none hl3 no)
   have oH : H1 o = none := by
    cases e : H1 o with
    | none => rfl
    | some u => rw [g13 _ _ e] at no; cases no
   refine ⟨_, g2 _ _ hl3, small2000 (by rw [List.length_map]; omega), some (.int L[i]), us ++ [o], rfl, fun c' o' hc' => ?_, fun u hu => ?_, ?_, fun z => ?_, by rw [upd_same, List.map_append]; rfl, ?_⟩
   ·rw [upd_ne (fun e => by rw [e, hD] at hc'; cases hc')]
    exact g2 _ _ (g13 _ _ hc')
   ·rcases List.mem_append.mp hu with z | z
    ·exact fre u z
    ·rw [List.mem_singleton.mp z]; exact oH
   ·refine List.nodup_append.mpr ⟨nd, List.nodup_cons.mpr ⟨(fun h => nomatch h), List.nodup_nil⟩, fun c' hc' d hd z => ?_⟩
    rw [List.mem_singleton.mp hd] at z
    obtain ⟨r', _, e⟩ := rows3.mem hc'
    rw [z, no] at e
    cases e
   ·rcases List.mem_append.mp z with z | z
    ·exact du z
    ·exact oD (List.mem_singleton.mp z).symm
   ·refine RowsAt.snoc ((rows3.same g2).by fun c' hc' o' h => ?_) (by rw [upd_ne oD]; exact eo)
    have ne : c' ≠ D := fun z => du (by rw [← z]; exact hc')
    rw [upd_ne ne]
    exact h
  ·rw [if_neg hc]
   have e1 : [L[i]].filter c = [] := by rw [List.filter_cons, if_neg hc]; rfl
   rw [e1, List.append_nil]
   exact ⟨_, us, rfl, g13, fre, nd, du, hl3, rows3⟩
 ·rintro σ' H' ⟨x, us, rfl, g, fre, nd, du, hl, rows⟩
  rw [List.take_length] at rows
  exact ⟨⟨_, g.seq hS, by rw [List.length_map]; exact Nat.le_refl _⟩, hq us H' g fre nd du hl rows⟩
end L2
namespace L2
open PySem PySem.Spec PyProof.Rows
section
variable {X : Cx}
end
end L2
namespace HT
open PySem PySem.W PyProof.Rows PySem.SeqAt PySem.MeetsSeq PySem.MeetsSeq2 PySem.MeetsSeq3
def RowL (h : Heap) (a : Addr) (ns : List Int) : Prop := ∃ vs, IntsAre vs ns ∧ lstAt h a vs
theorem RowL.kept {h h' : Heap} {a : Addr} {ns : List Int} (r : RowL h a ns) (k : ∀ o, h.get? a = some o → h'.get? a = some o) : RowL h' a ns := let ⟨vs, iv, n, e⟩ := r; ⟨vs, iv, n, k _ e⟩
theorem rows_ask {prog : Program} {w : World} {A : Around} {E : Value → Shared → Prop} {s : Shared} {l b : Addr} {ns ms : List Int} {Q : Bool → Shared → Prop} (hu : A.units < cLine) (h1 : RowL s.heap l ns) (h2 : RowL s.heap b ms) (hl : ns.length = ms.length)
  (q : Q (ordL .lt ns ms) s) : wpAny (model prog w) A (keyLt' oneType' (.ref l) (.ref b)) Q E s := by
 obtain ⟨vs, iv, n1, e1⟩ := h1
 obtain ⟨ws, iw, n2, e2⟩ := h2
 rw [keyLt'_oneType, oneLt'_eq, if_pos rfl]
 have ty : s.TypeIs (.ref l) "list" := ⟨_, e1, rfl⟩
 refine wpAny_bind (wpAny_cRoomFor hu (wpAny_bind (wpAny_callSpecialIfBound?_slot ty PySem.F.slot_list_lt (call_meets PySem.F.slot_list_lt ty PySem.F.entry_list_lt (PySem.F.args_list_lt_2 _ _) (meets_lt l b iv iw hl) ⟨⟨n1, e1⟩, ⟨n2, e2⟩, ?_⟩))))
 exact wpAny_truthy_bool q
section
variable {prog : Program} {w : World} {A : Around} {E : Value → Shared → Prop} {s : Shared}
theorem sort_rowsL {a : Addr} {n : Nat} {as : List Addr} {hd : Nat → Int} {rs : Nat → List Int} {P : PySem.Fin → Shared → Prop} (hu : A.units < cLine) (ho : s.heap.get? a = some (seqObj "list" (as.map Value.ref).toArray n)) (h64 : as.length < 64)
  (hr : ∀ i < as.length, as.getD i 0 ≠ a ∧ RowL s.heap (as.getD i 0) (rs i)) (inj : ∀ i j, i < as.length → j < as.length → hd i = hd j → i = j)
  (hlen : ∀ i j, i < as.length → j < as.length → (rs i).length = (rs j).length) (hord : ∀ i j, i < as.length → j < as.length → i ≠ j → ordL .lt (rs i) (rs j) = decide (hd i < hd j))
  (h : ∀ p : Array Nat, AllA as.length p → UpA hd p as.length → P (.done (.ret .none)) { s with heap := sortedHeap s.heap a (as.map Value.ref) ((p.toList.map fun i => Value.ref (as.getD i 0)).toArray) }) :
  wpAny (model prog w) A (Builtin.«list.sort» ⟨[.ref a], []⟩) P E s := by
 have lenV : (as.map Value.ref).length = as.length := List.length_map _
 have sz : (as.map Value.ref).toArray.size = as.length := by rw [List.size_toArray, lenV]
 have al : a < s.heap.objs.size := Heap.lt_size ho
 obtain ⟨c1, o1⟩ : ∃ c, (s.heap.update a (Obj.mapSeq fun _ => #[])).get? a = some (seqObj "list" #[] c) := ⟨_, get?_update_seq ho fun _ => #[]⟩
 rw [list_sort_plain]
 refine wpAny_bind (listItems_at ho rfl (wpAny_bind (listUpdate_at ho rfl ?_ (by rw [sz, sizeLine_eq]; omega) (Nat.zero_le _))))
 refine wpAny_bind (seqEpoch_at o1 rfl (wpAny_bind (wpAny_newTuple ?_ (by show (as.map Value.ref).length ≤ _; rw [lenV, sizeLine_eq]; omega))))
 refine wpAny_bind (wpAny_newList (wpAny_holding ?_) (Nat.zero_le _))
 change wpAny (model prog w) A _ P E { s with heap := ((s.heap.update a (Obj.mapSeq fun _ => #[])).push (seqObj "tuple" (as.map Value.ref).toArray 0)).push (seqObj "list" #[] 0) }
 generalize hH : ((s.heap.update a (Obj.mapSeq fun _ => #[])).push (seqObj "tuple" (as.map Value.ref).toArray 0)).push (seqObj "list" #[] 0) = H6
 dsimp only
 have old : ∀ (b : Addr) (o : Obj), b < s.heap.objs.size → (s.heap.update a (Obj.mapSeq fun _ => #[])).get? b = some o → H6.get? b = some o := fun b o hb e => by
  rw [← hH, Heap.get?_push_ne _ _ _ (by rw [size_push', Heap.size_update]; exact Nat.ne_of_lt (Nat.lt_succ_of_lt hb)), Heap.get?_push_ne _ _ _ (by rw [Heap.size_update]; exact Nat.ne_of_lt hb)]
  exact e
 have o6 : H6.get? a = some (seqObj "list" #[] c1) := old _ _ al o1
 have hr6 : ∀ i < as.length, RowL H6 (as.getD i 0) (rs i) := fun i hi => by
  obtain ⟨ne, r⟩ := hr i hi
  refine r.kept fun o e => old _ _ (Heap.lt_size e) ?_
  rw [Heap.get?_update_ne _ _ _ _ ne]
  exact e
 have fin : ∀ (out : Array Value), H6.update a (Obj.mapSeq fun _ => out) = sortedHeap s.heap a (as.map Value.ref) out := fun out => by rw [← hH]; rfl
 by_cases h2 : (as.map Value.ref).toArray.size < 2
 ·rw [if_pos h2, if_pos h2]
  refine wpAny_bind (wpAny_pure ?_)
  rw [StateT.run_pure]
  refine wpAny_bind (wpAny_pure ?_)
  dsimp only
  have hp : ((arrOf (SortSt.mk' general' ((as.map Value.ref).toArray.zip (as.map Value.ref).toArray) #[] 7 none)).map (·.2)) = (((List.toArray (List.range as.length)).toList.map fun i => Value.ref (as.getD i 0)).toArray) := by
   apply Array.toList_inj.mp
   rw [Array.toList_map]
   show (((as.map Value.ref).toArray.zip (as.map Value.ref).toArray).toList.map fun x : Keyed => x.2) = ((List.range as.length).map fun i => Value.ref (as.getD i 0))
   have e1 : ((as.map Value.ref).toArray.zip (as.map Value.ref).toArray).toList = (as.map Value.ref).zip (as.map Value.ref) := by simp
   rw [e1, List.map_snd_zip (Nat.le_refl _)]
   conv => lhs; rw [← L2.rgD as 0, List.map_map]
   rfl
  rw [hp]
  refine wpAny_bind (seqEpoch_at (s := { s with heap := H6 }) o6 rfl (wpAny_bind (listUpdate_at (s := { s with heap := H6 }) o6 rfl ?_ (Nat.zero_le _) ?_)))
  ·simp only [bne_self_eq_false, Bool.false_eq_true, if_false]
   have e := h (List.toArray (List.range as.length)) (List.Perm.refl _) (fun i j h1 h3 => absurd h2 (by rw [sz]; omega))
   rw [← fin] at e
   exact wpAny_pure e
  ·show ((List.range as.length).map fun i => Value.ref (as.getD i 0)).toArray.size ≤ _
   rw [List.size_toArray, List.length_map, List.length_range, sizeLine_eq]
   omega
 ·rw [if_neg h2, if_neg h2]
  rw [sz] at h2
  refine wpAny_bind (kas_kind (T := .type "list") (s := { s with heap := H6 }) (by rw [lenV]; omega) (fun v hv => ?_) rfl rfl ?_)
  ·obtain ⟨b, hb, rfl⟩ := List.mem_map.mp hv
   obtain ⟨i, hi, rfl⟩ := List.mem_iff_getElem.mp hb
   have e0 : as.getD i 0 = as[i] := by rw [List.getD_eq_getElem?_getD, List.getElem?_eq_getElem hi]; rfl
   obtain ⟨vs, iv, m, e⟩ := hr6 i hi
   rw [e0] at e
   exact (Looks.ld e).andThen .now
  have est : SortSt.mk' oneType' ((as.map Value.ref).toArray.zip (as.map Value.ref).toArray) #[] 7 none = kas_st oneType' (pairsOf (as.map Value.ref)) (List.toArray (List.range (as.map Value.ref).length)) := by
   have e := kas_range (pairsOf (as.map Value.ref))
   rw [pairsOf_size] at e
   unfold kas_st
   rw [e]
   rfl
  rw [est]
  have run := kas_runs (prog := prog) (w := w) (A := A) (E := E) (κ := oneType') (it := pairsOf (as.map Value.ref)) (n := (as.map Value.ref).length) (s := { s with heap := H6 })
   (Q := fun _ st' s' => ∃ p : Array Nat, s' = { s with heap := H6 } ∧ arrOf st' = p.map (kas_item (pairsOf (as.map Value.ref))) ∧ failedOf st' = none ∧ AllA as.length p ∧ UpA hd p as.length)
   (G := fun p s' => s' = { s with heap := H6 } ∧ AllA as.length p ∧ UpA hd p as.length) (by rw [lenV]; omega) (by rw [lenV]; exact h64) (fun p st' s' _ a2 a3 a4 => ⟨p, a4.1, a2, a3, a4.2⟩) (by
    rw [lenV]
    refine sortA (key := hd) (by omega) (fun i j C hi hj ne hc => ?_) inj (by omega) fun p' a1 a2 => ⟨rfl, a1, a2⟩
    rw [← kas_ask_eq]
    unfold kas_ask
    have gv : ∀ k < as.length, (as.map Value.ref).getD k Value.none = .ref (as.getD k 0) := fun k hk => by
     rw [List.getD_eq_getElem?_getD, List.getD_eq_getElem?_getD, List.getElem?_map, List.getElem?_eq_getElem hk]
     rfl
    rw [gv i hi, gv j hj]
    exact rows_ask hu (hr6 i hi) (hr6 j hj) (hlen i j hi hj) (by rw [hord i j hi hj ne]; exact hc))
  refine wpAny_bind (wpAny_mono run ?_ fun _ _ e => e)
  rintro ⟨⟨⟩, st'⟩ s' ⟨p, rfl, har, hf, a1, a2⟩
  dsimp only
  have ho' : (arrOf st').map (·.2) = (p.toList.map fun i => Value.ref (as.getD i 0)).toArray := by
   apply Array.toList_inj.mp
   rw [har, Array.map_map, Array.toList_map]
   refine List.map_congr_left fun i hi => ?_
   show (kas_item (pairsOf (as.map Value.ref)) i).2 = _
   have hi' : i < as.length := List.mem_range.mp (a1.mem_iff.mp hi)
   rw [kas_item_eq, List.getD_eq_getElem?_getD, List.getD_eq_getElem?_getD, List.getElem?_map, List.getElem?_eq_getElem hi']
   rfl
  rw [ho']
  refine wpAny_bind (seqEpoch_at (s := { s with heap := H6 }) o6 rfl (wpAny_bind (listUpdate_at (s := { s with heap := H6 }) o6 rfl ?_ (Nat.zero_le _) ?_)))
  ·rw [hf]
   simp only [bne_self_eq_false, Bool.false_eq_true, if_false]
   have e := h p a1 a2
   rw [← fin] at e
   exact wpAny_pure e
  ·rw [List.size_toArray, List.length_map, a1.length_eq, List.length_range, sizeLine_eq]
   omega
end
end HT
namespace HT
open PySem PySem.W PyProof.Rows
theorem sorted_rowsL {prog : Program} {w : World} {A : Around} {E : Value → Shared → Prop} {s : Shared} {l : Addr} {as : List Addr} {hd : Nat → Int} {rs : Nat → List Int} {Q : Value → Shared → Prop} (hu : A.in1.in1.units < cLine) (hl : s.heap.IsList l (as.map Value.ref).toArray) (h64 : as.length < 64)
  (hr : ∀ i < as.length, RowL s.heap (as.getD i 0) (rs i)) (inj : ∀ i j, i < as.length → j < as.length → hd i = hd j → i = j)
  (hlen : ∀ i j, i < as.length → j < as.length → (rs i).length = (rs j).length) (hord : ∀ i j, i < as.length → j < as.length → i ≠ j → ordL .lt (rs i) (rs j) = decide (hd i < hd j))
  (h : ∀ p : Array Nat, AllA as.length p → UpA hd p as.length → Q (.ref (s.heap.objs.size + 1)) { s with heap := sortedAll s.heap (as.map Value.ref) ((p.toList.map fun i => Value.ref (as.getD i 0)).toArray) }) :
  wpAny (model prog w) A (call (.builtin "sorted") [.ref l]) Q E s := by
 have lenV : (as.map Value.ref).length ≤ sizeLine := by rw [List.length_map, sizeLine_eq]; omega
 refine Calls.call_function_entry kind_sorted plain_sorted entry_sorted (args_sorted1 _) ?_
 unfold Builtin.«sorted»
 refine wpAny_bind (m := checkCount "sorted" 1 1 _) (wpAny_pure (wpAny_bind (collect_list hl (wpAny_bind (wpAny_newList ?_ lenV)) lenV)))
 have e1 : ((s.heap.push (seqObj "list" #[] 0)).update s.heap.objs.size (Obj.mapSeq (· ++ (as.map Value.ref).toArray))).objs.size = s.heap.objs.size + 1 := (Heap.size_update ..).trans (size_push' _ _)
 change wpAny _ _ _ _ _ { s with heap := ((s.heap.push (seqObj "list" #[] 0)).update s.heap.objs.size (Obj.mapSeq (· ++ (as.map Value.ref).toArray))).push (seqObj "list" (as.map Value.ref).toArray 0) }
 have e2 : (((s.heap.push (seqObj "list" #[] 0)).update s.heap.objs.size (Obj.mapSeq (· ++ (as.map Value.ref).toArray))).push (seqObj "list" (as.map Value.ref).toArray 0)).get? (s.heap.objs.size + 1) = some (seqObj "list" (as.map Value.ref).toArray 0) := e1 ▸ Heap.get?_push_size _ rfl
 rw [e1]
 refine wpAny_bind (wpAny_holding (wpAny_call_entry slot_list_sort ⟨_, e2, rfl⟩ entry_list_sort (sort_rowsL hu e2 h64 (fun i hi => ?_) inj hlen hord fun p a1 a2 => ⟨_, rfl, wpAny_pure ⟨_, rfl, h p a1 a2⟩⟩) (args_list_sort _)))
 obtain ⟨vs, iv, n, e⟩ := hr i hi
 have lt : as.getD i 0 < s.heap.objs.size := Heap.lt_size e
 refine ⟨Nat.ne_of_lt (Nat.lt_succ_of_lt lt), vs, iv, n, ?_⟩
 change (((s.heap.push (seqObj "list" #[] 0)).update s.heap.objs.size (Obj.mapSeq (· ++ (as.map Value.ref).toArray))).push (seqObj "list" (as.map Value.ref).toArray 0)).get? (as.getD i 0) = _
 rw [Heap.get?_push_ne _ _ _ (by rw [e1]; exact Nat.ne_of_lt (Nat.lt_succ_of_lt lt)), Heap.get?_update_ne _ _ _ _ (Nat.ne_of_lt lt), Heap.get?_push_ne _ _ _ (Nat.ne_of_lt lt)]
 exact e
end HT
namespace L2
open PySem PySem.Spec PyProof.Rows
section
variable {X : Cx}
theorem call_sortedL (hu : X.A.units + 64 < cLine) : CallR X (.builtin "sorted") (fun vs H Q => ∃ (p : Addr) (as : List Addr) (rs : List (List Int)) (hd : Nat → Int), vs = [.ref p] ∧ H p = some (.lst (as.map V.ref)) ∧ as.length < 64 ∧ RowsAt H as rs ∧ (∀ i j, i < j → j < as.length → hd i < hd j) ∧ (∀ i j, i < as.length → j < as.length → (rs.getD i []).length = (rs.getD j []).length) ∧ (∀ i j, i < as.length → j < as.length → i ≠ j → HT.ordL .lt (rs.getD i []) (rs.getD j []) = decide (hd i < hd j)) ∧
  ∀ (l : Addr), H l = none → Q (.ref l) (upd H l (.lst (as.map V.ref)))) := by
 rintro pins s σ H xs us Q I r ⟨p, as, rs, hd, rfl, hp, h64, rows, up, hlen, hord, q⟩
 obtain ⟨u, rfl, ru⟩ := r.one
 cases ru
 obtain ⟨hz, its, n, rv, hlen0, e⟩ := I.lstM hp
 have ei := refs_are rv
 subst ei
 have inj : ∀ i j, i < as.length → j < as.length → hd i = hd j → i = j := fun i j hi hj z => by
  rcases Nat.lt_trichotomy i j with y | y | y
  ·have := up i j y hj; omega
  ·exact y
  ·have := up j i y hi; omega
 refine HT.sorted_rowsL (hd := hd) (rs := fun i => rs.getD i []) (by show X.A.units + 1 + 1 < cLine; omega) ⟨_, e, rfl, _, rfl⟩ h64 (fun i hi => ?_) inj hlen hord fun p' a1 a2 => ?_
 ·obtain ⟨_, vs, n', rv', _, e'⟩ := I.lstM (rows.get hi).1
  exact ⟨_, vals_intsAre rv', n', e'⟩
 ·have same : (p'.toList.map fun i => as.getD i 0) = as := by
   have e2 : p'.toList = List.range as.length := by
    refine List.Perm.eq_of_pairwise (le := fun a b => a ≤ b) (fun a b _ _ h1 h2 => Nat.le_antisymm h1 h2) ?_ (List.pairwise_lt_range.imp fun h => Nat.le_of_lt h) a1
    rw [List.pairwise_iff_getElem]
    intro i j hi hj hij
    have sz := a1.size
    have hj' : j < p'.size := by simpa using hj
    have k := a2 i j hij (by rw [← sz]; exact hj')
    unfold HT.kyA at k
    rw [Array.getD_eq_getD_getElem?, Array.getD_eq_getD_getElem?, Array.getElem?_eq_getElem (by omega), Array.getElem?_eq_getElem hj'] at k
    rw [Array.getElem_toList, Array.getElem_toList]
    have m1 : p'[i] < as.length := List.mem_range.mp (a1.mem_iff.mp (by rw [← Array.getElem_toList]; exact List.getElem_mem _))
    rcases Nat.lt_or_ge p'[j] p'[i] with z | z
    ·have := up _ _ z m1
     have k' : hd p'[i] < hd p'[j] := k
     omega
    ·exact z
   rw [e2, rgD]
  obtain ⟨c, he⟩ := sortedAll_at s.heap (as.map Value.ref) ((p'.toList.map fun i => Value.ref (as.getD i 0)).toArray)
  have vals : ∀ l : List Addr, Vals (l.map V.ref) (l.map Value.ref) := fun l => by
   induction l with
   | nil => exact .nil
   | cons x r ih => exact .cons rfl ih
  have ev : (p'.toList.map fun i => Value.ref (as.getD i 0)) = (p'.toList.map fun i => as.getD i 0).map Value.ref := by rw [List.map_map]; rfl
  rw [ev, same] at he ⊢
  refine ⟨.ref _, _, I.laid (t' := s.toks) (fun _ _ => sortedAll_old) (Nat.le_succ _) (show ObjOk X.prog X.w _ _ _ (.lst (as.map V.ref)) from ⟨?_, _, c, vals _, he⟩), rfl, q _ (I.hok.fresh (Nat.le_succ _))⟩
  rw [List.length_map]
  exact Nat.le_trans (Nat.le_of_lt h64) (by decide)
end
end L2
namespace L2
open PySem PySem.Spec PyProof.Rows
theorem for_zip {a b : Addr} {xs ys : List V} {g : TG} {tb : TS} {D : Ends} {σ : St} {H : Hp} (Pv : Nat → St → Hp → Prop) (hlen : xs.length = ys.length) (h0 : Pv 0 σ H) (hl : ∀ i σ H, i ≤ xs.length → Pv i σ H → H a = some (.lst xs) ∧ H b = some (.lst ys))
  (hs : ∀ i x y σ H T, xs[i]? = some x → ys[i]? = some y → Pv i σ H → H T = none → g (.ref T) σ (upd H T (.tup [x, y])) fun σ2 H2 => tb { D with nx := Pv (i + 1), ct := Pv (i + 1), bk := D.nx } σ2 H2) (hd : ∀ σ H, Pv xs.length σ H → D.nx σ H) :
  ∃ W : Nat → Nat → St → Hp → Prop, (∃ m, W 0 m σ H) ∧ ∀ i m σ H, W i m σ H →
   ((Itz a b).stop i H ∧ D.nx σ H) ∨ ((Itz a b).go i H ∧ ∃ N : St → Hp → Prop, (∀ σ' H', N σ' H' → ∃ m', m' < m ∧ W (i + 1) m' σ' H') ∧ ∀ x H', (Itz a b).yld i H x H' → g x σ H' fun σ2 H2 => tb { D with nx := N, ct := N, bk := D.nx } σ2 H2) := by
 refine ⟨fun i m σ H => m = xs.length - i ∧ i ≤ xs.length ∧ Pv i σ H, ⟨xs.length, by simp, Nat.zero_le _, h0⟩, ?_⟩
 rintro i m σ H ⟨rfl, hi, p⟩
 obtain ⟨q1, q2⟩ := hl i σ H hi p
 by_cases hlt : i < xs.length
 ·refine .inr ⟨⟨xs, ys, xs[i], ys[i], q1, q2, List.getElem?_eq_getElem hlt, List.getElem?_eq_getElem (by omega)⟩, Pv (i + 1), fun σ' H' p' => ⟨xs.length - (i + 1), by omega, rfl, hlt, p'⟩, fun x H' y => ?_⟩
  obtain ⟨T, xs', ys', u, u', hT, hxs, hys, hu, hu', rfl, rfl⟩ := y
  rw [q1] at hxs
  rw [q2] at hys
  cases hxs
  cases hys
  exact hs i u u' σ H T hu hu' p hT
 ·have e : i = xs.length := by omega
  subst e
  exact .inl ⟨⟨xs, ys, q1, q2, .inl (Nat.le_refl _)⟩, hd σ H p⟩
end L2
namespace N18
open PySem PySem.Spec PyProof.Rows L2
abbrev Kee (K : PySem.W.Frag) (f : Addr) : Prop := PySem.W.keepIn K (.ref f) = true
theorem two_le : 2 ≤ sizeLine := by decide
variable {P : Program} {w : World} {K : PySem.W.Frag} {mg : Str → Option Value} {base : Heap}
def top (i : Nat) : Stmt := PySem.Challenge.pw_nearsums_k18_whole_counts_together.main.body.getD i (.Pass ⟨0, 0, 0, 0⟩)
structure Bt (mg : Str → Option Value) : Prop where
 len : mg "len" = none
 max : mg "max" = none
 min : mg "min" = none
 range : mg "range" = none
 list : mg "list" = none
 int : mg "int" = none
structure Dk (H : Hp) (d p : Addr) (qs : List Addr) : Prop where
 dk : ∃ c : Int, H d = some (.lst [.ref p, .int c])
 pl : H p = some (.lst (qs.map V.ref))
 ne : 0 < qs.length
 le : qs.length ≤ 63
 q : ∀ q ∈ qs, ∃ a b c : Int, H q = some (.lst [.int a, .int b, .int c])
structure Bt2 (mg : Str → Option Value) : Prop extends Bt mg where
 all : mg "all" = none
 isinstance : mg "isinstance" = none
 bool : mg "bool" = none
 str : mg "str" = none
 tuple : mg "tuple" = none
 sorted : mg "sorted" = none
theorem none_of_same {H H' : Hp} {p : Addr} (g : Same H H') (h : H' p = none) : H p = none := by
 cases e : H p with
 | none => rfl
 | some o => rw [g _ _ e] at h; cases h
abbrev sWhole : Stmt := top 8
def spWhole : Sp := fun vs H Q _ => ∃ i : Int, vs = [.int i] ∧ Q (.bl true) H
section
variable {f : Addr} {fd : FuncData}
theorem scWhole : FnScope ["thing"] ["thing"] (defScope sWhole) := ⟨rfl, rfl, rfl, by decide +kernel, rfl, by decide +kernel, by decide +kernel⟩
theorem ok_whole (F : Fun K "is_whole" "is_whole" sWhole f fd) (B : Bt2 mg) : FnOk P w K mg base CX0 1 f fd ["thing"] spWhole := by
 refine F.ok scWhole (fun vs H Q E h => ?_) (fun cdv A outer s H vs Q E hr h => ?_)
 ·obtain ⟨a, rfl, _⟩ := h
  rfl
 obtain ⟨i, rfl, q⟩ := h
 refine ⟨_, (@pss_one _ _ _ (ps_ret (pe_and (pe_callB (call_isi "int") rfl B.isinstance boot_isinstance (pa_cons (pv 0) (pa_cons (pe_bltn (v := .ty "int") rfl B.int PyProof.Rows.boot_int rfl) pa_nil))) (pe_one (pe_not (pe_callB (call_isi "bool") rfl B.isinstance boot_isinstance (pa_cons (pv 0) (pa_cons (pe_bltn (v := .ty "bool") rfl B.bool PyProof.Rows.boot_bool rfl) pa_nil)))))))), ?_⟩
 refine ⟨_, rfl, _, _, _, rfl, .int i, rfl, _, rfl, ite2 (fun c => ?_) (fun c => absurd rfl c)⟩
 exact ⟨_, rfl, _, _, false, rfl, .int i, rfl, _, rfl, q⟩
end
structure Rise (xs : List Int) : Prop where
 up : xs.Pairwise (· < ·)
 bd : ∀ x ∈ xs, 0 ≤ x
structure PlanOk (ns ss : List Int) : Prop where
 n : Rise ns
 s : Rise ss
 n1 : 1 ≤ ns.length
 n2 : ns.length ≤ 10
 s2 : ss.length ≤ 10
theorem comp_true {x : V} {σ : L2.St} {H : Hp} {A B : L2.St → Hp → Prop} (h : A (σ.set 0 (some x)) H) : gName 0 x σ H fun σ2 H2 => tTrue σ2 H2 fun b H3 => if b = true then A σ2 H3 else B σ2 H3 := by
 have z : (if true = true then A (σ.set 0 (some x)) H else B (σ.set 0 (some x)) H) := iteT h
 exact z
theorem erase_map {α β : Type} (f : α → β) : ∀ (l : List α) (i : Nat), (l.map f).eraseIdx i = (l.eraseIdx i).map f
 | [], _ => rfl
 | _ :: _, 0 => rfl
 | x :: r, i + 1 => by
  rw [List.map_cons, List.eraseIdx_cons_succ, List.eraseIdx_cons_succ, List.map_cons, erase_map f r i]
theorem perm_erase {α : Type} : ∀ {l : List α} {i : Nat} (h : i < l.length), (l[i] :: l.eraseIdx i).Perm l
 | x :: r, 0, _ => List.Perm.refl _
 | x :: r, i + 1, h => by
  have h' : i < r.length := by simpa using h
  show (r[i] :: x :: r.eraseIdx i).Perm (x :: r)
  exact (List.Perm.swap _ _ _).trans (List.Perm.cons x (perm_erase h'))
def SumsOk (H : Hp) (sd : Addr) (n : Nat) : Prop := ∃ (kvs : List (Key × V)) (ks : List Int), H sd = some (.dK kvs) ∧ kvs.map (·.1) = ks.map Sum.inl ∧ ks.Nodup ∧ (∀ x ∈ ks, 0 ≤ x ∧ x < 2 ^ 96) ∧ ks.length ≤ n
theorem SumsOk.stay {H H' : Hp} {sd : Addr} {n : Nat} (h : SumsOk H sd n) (e : ∀ {o}, H sd = some o → H' sd = some o) : SumsOk H' sd n := by
 obtain ⟨kvs, ks, h1, h2⟩ := h
 exact ⟨kvs, ks, e h1, h2⟩
theorem SumsOk.upto {H : Hp} {sd : Addr} {n m : Nat} (h : SumsOk H sd n) (e : n ≤ m) : SumsOk H sd m := by
 obtain ⟨kvs, ks, h1, h2, h3, h4, h5⟩ := h
 exact ⟨kvs, ks, h1, h2, h3, h4, Nat.le_trans h5 e⟩
theorem SumsOk.more {H : Hp} {sd : Addr} {n : Nat} (h : SumsOk H sd n) : SumsOk H sd (n + 1) := h.upto (Nat.le_succ _)
theorem SumsOk.put {H : Hp} {sd : Addr} {n : Nat} {x : Int} (h : SumsOk H sd n) (x0 : 0 ≤ x) (x1 : x < 2 ^ 96) : ∃ kvs, H sd = some (.dK kvs) ∧ kvs.length ≤ n ∧ SumsOk (upd H sd (.dK (putK kvs (Sum.inl x) (.bl true)))) sd (n + 1) := by
 obtain ⟨kvs, ks, h1, h2, h3, h4, h5⟩ := h
 have hl : kvs.length = ks.length := by have := congrArg List.length h2; simpa using this
 refine ⟨kvs, h1, by omega, _, _, upd_same, putK_keys h2, ?_, ?_, ?_⟩
 ·split
  ·exact h3
  ·rename_i hx
   refine List.nodup_append.mpr ⟨h3, List.nodup_cons.mpr ⟨(fun h => nomatch h), List.nodup_nil⟩, fun a ha b hb e => ?_⟩
   have : b = x := List.mem_singleton.mp hb
   exact hx (this ▸ e ▸ ha)
 ·intro y hy
  split at hy
  ·exact h4 y hy
  ·rcases List.mem_append.mp hy with z | z
   ·exact h4 y z
   ·rw [List.mem_singleton.mp z]; exact ⟨x0, x1⟩
 ·split
  ·omega
  ·rw [List.length_append, List.length_singleton]; omega
theorem strict {xs : List Int} (h : xs.Pairwise (· ≤ ·)) (n : xs.Nodup) : xs.Pairwise (· < ·) := by
 induction xs with
 | nil => exact .nil
 | cons x r ih =>
  rw [List.pairwise_cons] at h ⊢
  rw [List.nodup_cons] at n
  refine ⟨fun y hy => ?_, ih h.2 n.2⟩
  have h1 := h.1 y hy
  have h2 : x ≠ y := fun e => n.1 (e ▸ hy)
  omega
def uptoN (m : Nat) : List Int := (List.range m).map fun k : Nat => 1 + (k : Int)
theorem uptoN_rise (m : Nat) (h : m ≤ 10) : Rise (uptoN m) ∧ ∀ x ∈ uptoN m, x < 2 ^ 96 := by
 have key : ∀ m : _root_.Fin 11, (uptoN m.val).Pairwise (· < ·) ∧ (∀ x ∈ uptoN m.val, 0 ≤ x) ∧ ∀ x ∈ uptoN m.val, x < 2 ^ 96 := by decide +kernel
 have k := key ⟨m, by omega⟩
 exact ⟨⟨k.1, k.2.1⟩, k.2.2⟩
theorem uptoN_is (n : Int) : ((List.range (n + 1 - 1).toNat).map fun k : Nat => V.int (1 + (k : Int))) = (uptoN n.toNat).map V.int := by
 have e : n + 1 - 1 = n := by omega
 rw [e]
 unfold uptoN
 rw [List.map_map]
 rfl
structure Bt3 (mg : Str → Option Value) : Prop extends Bt2 mg where
 enumerate : mg "enumerate" = none
abbrev sDs : Stmt := top 38
abbrev sTk : Stmt := top 39
structure BtA (mg : Str → Option Value) : Prop extends Bt3 mg where
 abs : mg "abs" = none
structure Sto (H : Hp) (d p : Addr) : Prop where
 at_ : ∃ c : Int, H d = some (.lst [.ref p, .int c])
 pl : ∃ xs : List Int, H p = some (.lst (xs.map V.int)) ∧ 0 < xs.length ∧ xs.length ≤ 1000 ∧ ∀ x ∈ xs, 0 ≤ x
theorem Sto.ne {H : Hp} {d p : Addr} (S : Sto H d p) : p ≠ d := fun e => by
 obtain ⟨c, hc⟩ := S.at_
 obtain ⟨xs, hx, h0, _⟩ := S.pl
 rw [e, hc] at hx
 cases xs with
 | nil => exact absurd h0 (by decide)
 | cons x r => cases hx
theorem Sto.ex {H H' : Hp} {d p : Addr} (S : Sto H d p) (g : Same H H') : Sto H' d p := ⟨let ⟨c, h⟩ := S.at_; ⟨c, g _ _ h⟩, let ⟨xs, h, r⟩ := S.pl; ⟨xs, g _ _ h, r⟩⟩
def OffD (d : Addr) (H H' : Hp) : Prop := ∀ b, b ≠ d → H' b = H b
theorem OffD.ex {d : Addr} {H H' : Hp} (o : OffD d H H') : Ex (· = d) H H' := fun b u n h => (o b n).trans h
def spTk : Sp := fun vs H Q _ => ∃ (d p : Addr) (many : Int), vs = [.ref d, .int many] ∧ Sto H d p ∧ 0 < many ∧ ∀ (r : Int) (H' : Hp), 0 ≤ r → r < many → Sto H' d p → OffD d H H' → Q (.int r) H'
def spDs (K : PySem.W.Frag) : Sp := fun vs H Q _ => ∃ (a : Addr) (ns : List Int), vs = [.ref a, .int 300] ∧ SqL K H a (ns.map V.int) ∧ ns.length ≤ 63 ∧
 ∀ (p : Addr) (xs : List Int) (H' : Hp), Same H H' → H p = none → H' p = some (.lst (xs.map V.int)) → 0 < xs.length → xs.length ≤ 1000 → (∀ x ∈ xs, 0 ≤ x) → Q (.ref p) H'
theorem cut63 (ns : List Int) (h : ns.length ≤ 63) : cutV (ns.map V.int) none (some 63) = ns.map V.int := by
 unfold cutV
 have h1 : HT.sIx (ns.map V.int).length 0 none = 0 := rfl
 have h2 : HT.sIx (ns.map V.int).length (ns.map V.int).length (some 63) = ns.length := by
  unfold HT.sIx
  rw [List.length_map]
  simp
  omega
 rw [h1, h2, List.drop_zero, Nat.sub_zero, ← List.length_map (f := V.int), List.take_length]
section
variable {f : Addr} {fd : FuncData}
theorem scTk : FnScope ["store", "many"] ["store", "many"] (defScope sTk) := ⟨rfl, rfl, rfl, by decide +kernel, rfl, by decide +kernel, by decide +kernel⟩
theorem ok_tk (F : Fun K "_law_take" "_law_take" sTk f fd) (B : Bt3 mg) : FnOk P w K mg base CX0 1 f fd ["store", "many"] spTk := by
 refine F.ok scTk (fun vs H Q E h => ?_) (fun cdv A outer s H vs Q E hr h => ?_)
 ·obtain ⟨d, p, many, rfl, _⟩ := h
  rfl
 obtain ⟨d, p, many, rfl, S, hm, q⟩ := h
 refine ⟨_, (@pss_cons _ _ _ _ _ (ps_asg (pe_op op_add (pe_ix ix_list (pv 0) pe_int (fun _ _ => rfl)) pe_int) (pg_sub (pv 0) pe_int set_list)) (@pss_one _ _ _ (ps_ret (pe_op op_mod (pe_ix ix_list (pe_ix ix_list (pv 0) pe_int (fun _ _ => rfl)) (pe_op op_mod (pe_op op_sub (pe_ix ix_list (pv 0) pe_int (fun _ _ => rfl)) pe_int) (pe_callB call_len_seq rfl B.len PySem.boot_len (pa_cons (pe_ix ix_list (pv 0) pe_int (fun _ _ => rfl)) pa_nil))) (fun _ _ => rfl)) (pv 1))))), ?_⟩
 obtain ⟨c, hd⟩ := S.at_
 obtain ⟨xs, hx, x0, x1000, xn⟩ := S.pl
 have pd := S.ne
 refine ⟨_, rfl, d, _, 1, _, rfl, rfl, SqL.of hd, rfl, _, _, rfl, rfl, _, rfl, d, _, 1, 1, rfl, rfl, hd, rfl, ?_⟩
 have hd1 : (upd H d (.lst [.ref p, .int (c + 1)])) d = some (.lst [.ref p, .int (c + 1)]) := upd_same
 have hx1 : (upd H d (.lst [.ref p, .int (c + 1)])) p = some (.lst (xs.map V.int)) := by rw [upd_ne pd]; exact hx
 have xml : (xs.map V.int).length = xs.length := List.length_map _
 have hpos : (0 : Int) < (((xs.map V.int).length : Nat) : Int) := by rw [xml]; omega
 have hr0 := Int.emod_nonneg (c + 1 - 1) (show (((xs.map V.int).length : Nat) : Int) ≠ 0 by omega)
 have hr1 := Int.emod_lt_of_pos (c + 1 - 1) hpos
 obtain ⟨x, ax, mx⟩ := pick_int xs (r := (c + 1 - 1) % (((xs.map V.int).length : Nat) : Int)) hr0 (by rw [xml] at hr1 ⊢; exact hr1)
 refine ⟨_, rfl, d, _, 0, _, rfl, rfl, SqL.of hd1, rfl, _, rfl, d, _, 1, _, rfl, rfl, SqL.of hd1, rfl, _, _, rfl, rfl, _, rfl, d, _, 0, _, rfl, rfl, SqL.of hd1, rfl, p, _, rfl, .inl (SqL.of hx1), _, _, rfl, rfl, hpos, p, _, _, _, rfl, rfl, SqL.of hx1, ax, _, rfl, _, _, rfl, rfl, hm, ?_⟩
 exact q _ _ (Int.emod_nonneg _ (by omega)) (Int.emod_lt_of_pos _ hm) ⟨⟨_, hd1⟩, ⟨xs, hx1, x0, x1000, xn⟩⟩ (fun b hb => upd_ne hb)
theorem scDs : FnScope ["script", "many", "drawn", "base", "k", "cell", "number", "one"] ["script", "many"] (defScope sDs) := ⟨rfl, rfl, rfl, by decide +kernel, rfl, by decide +kernel, by decide +kernel⟩
theorem ok_ds (F : Fun K "_law_draws" "_law_draws" sDs f fd) (B : BtA mg) : FnOk P w K mg base CX0 1 f fd ["script", "many"] (spDs K) := by
 refine F.ok scDs (fun vs H Q E h => ?_) (fun cdv A outer s H vs Q E hr h => ?_)
 ·obtain ⟨a, ns, rfl, _⟩ := h
  rfl
 obtain ⟨a, ns, rfl, hS, h63, q⟩ := h
 refine ⟨_, (@pss_cons _ _ _ _ _ (ps_set (i := 2) scDs.nd rfl (Or.inl rfl) (pe_lst pa_nil)) (@pss_cons _ _ _ _ _ (ps_set (i := 3) scDs.nd rfl (Or.inl rfl) pe_int) (@pss_cons _ _ _ _ _ (ps_for PassesOwn.never rfl (pi_enum rfl B.enumerate (pa_cons (pe_slice sl_list (pv 0) po_none (po_some pe_int)) pa_nil)) (pg_tup rfl (pgs_cons (pg_name (i := 4) scDs.nd rfl (Or.inl rfl)) (pgs_cons (pg_name (i := 5) scDs.nd rfl (Or.inl rfl)) pgs_nil))) (@pss_cons _ _ _ _ _ (ps_set (i := 6) scDs.nd rfl (Or.inl rfl) (pe_callB call_abs rfl B.abs boot_abs (pa_cons (pv 5) pa_nil))) (@pss_cons _ _ _ _ _ (ps_set (i := 3) scDs.nd rfl (Or.inl rfl) (pe_op op_mod (pe_op op_add (pe_op op_mul (pv 3) pe_int) (pv 6)) pe_int)) (@pss_one _ _ _ (ps_if (pt_cmpR op_ge (pv 6) (pe_op op_pow pe_int pe_int) (nomark _)) (@pss_one _ _ _ (ps_while PassesOwn.never (PW.pt (pw_and (pt_cmpR op_gt (pv 6) pe_int (nomark _)) (pw_and1 (pt_cmpR op_lt (pe_callB call_len_seq rfl B.len PySem.boot_len (pa_cons (pv 2) pa_nil)) (pv 1) (nomark _))))) (@pss_cons _ _ _ _ _ (ps_expr (pe_bm PySem.F.plainAttrs_list PySem.F.slot_list_append PySem.F.type_list_append mt_append (pv 2) (pa_cons (pe_op op_mod (pv 6) pe_int) pa_nil))) (@pss_one _ _ _ (ps_set (i := 6) scDs.nd rfl (Or.inl rfl) (pe_op op_fdiv (pv 6) pe_int)))))) (@pss_cons _ _ _ _ _ (ps_set (i := 7) scDs.nd rfl (Or.inl rfl) (pe_op op_mod (pe_op op_mul (pe_op op_add (pe_op op_add (pe_op op_mod (pv 6) pe_int) (pv 4)) pe_int) pe_int) pe_int)) (@pss_cons _ _ _ _ _ (ps_set (i := 7) scDs.nd rfl (Or.inl rfl) (pe_op op_mod (pe_op op_mul (pv 7) (pv 7)) pe_int)) (@pss_cons _ _ _ _ _ (ps_expr (pe_bm PySem.F.plainAttrs_list PySem.F.slot_list_append PySem.F.type_list_append mt_append (pv 2) (pa_cons (pe_op op_mod (pe_op op_fdiv (pv 7) pe_int) pe_int) pa_nil))) (@pss_cons _ _ _ _ _ (ps_set (i := 7) scDs.nd rfl (Or.inl rfl) (pe_op op_mod (pe_op op_add (pe_op op_add (pe_op op_mul (pv 7) pe_int) (pe_op op_mul pe_int (pv 4))) pe_int) pe_int)) (@pss_cons _ _ _ _ _ (ps_set (i := 7) scDs.nd rfl (Or.inl rfl) (pe_op op_mod (pe_op op_mul (pv 7) (pv 7)) pe_int)) (@pss_one _ _ _ (ps_expr (pe_bm PySem.F.plainAttrs_list PySem.F.slot_list_append PySem.F.type_list_append mt_append (pv 2) (pa_cons (pe_op op_mod (pe_op op_fdiv (pv 7) pe_int) pe_int) pa_nil)))))))))))))) (@pss_cons _ _ _ _ _ (ps_for PassesOwn.never rfl (pi_range1 rfl B.range (pa_cons (pe_op op_sub (pv 1) (pe_callB call_len_seq rfl B.len PySem.boot_len (pa_cons (pv 2) pa_nil))) pa_nil)) (pg_name (i := 4) scDs.nd rfl (Or.inl rfl)) (@pss_cons _ _ _ _ _ (ps_set (i := 7) scDs.nd rfl (Or.inl rfl) (pe_op op_mod (pe_op op_add (pe_op op_add (pv 3) (pe_op op_mul pe_int (pv 4))) pe_int) pe_int)) (@pss_cons _ _ _ _ _ (ps_set (i := 7) scDs.nd rfl (Or.inl rfl) (pe_op op_mod (pe_op op_mul (pv 7) (pv 7)) pe_int)) (@pss_cons _ _ _ _ _ (ps_set (i := 7) scDs.nd rfl (Or.inl rfl) (pe_op op_mod (pe_op op_add (pe_op op_mul (pv 7) pe_int) (pv 4)) pe_int)) (@pss_one _ _ _ (ps_expr (pe_bm PySem.F.plainAttrs_list PySem.F.slot_list_append PySem.F.type_list_append mt_append (pv 2) (pa_cons (pe_op op_mod (pe_op op_fdiv (pe_op op_mod (pe_op op_mul (pv 7) (pv 7)) pe_int) pe_int) pe_int) pa_nil)))))))) (@pss_one _ _ _ (ps_ret (pv 2))))))), ?_⟩
 refine ⟨(by show 0 ≤ sizeLine; decide), fun l hl => ?_⟩
 have g1 : Same H (upd H l (.lst [])) := Same.new hl _
 have e1 : (upd H l (.lst [])) l = some (.lst (([] : List Int).map V.int)) := upd_same
 generalize upd H l (.lst []) = H1 at g1 e1 ⊢
 refine ⟨_, rfl, 63, rfl, a, _, rfl, g1.seq hS, fun c hc => ?_⟩
 rw [cut63 ns h63]
 have g2 : Same H1 (upd H1 c (.lst (ns.map V.int))) := Same.new hc _
 have ec : (upd H1 c (.lst (ns.map V.int))) c = some (.lst (ns.map V.int)) := upd_same
 have lc : l ≠ c := ne_of_none e1 hc
 have e2 := g2 _ _ e1
 have gA := g1.trans g2
 generalize upd H1 c (.lst (ns.map V.int)) = H2 at g2 ec e2 gA ⊢
 have nml : (ns.map V.int).length = ns.length := List.length_map _
 refine ⟨c, _, rfl, ec, ?_⟩
 refine for_enum (xs := ns.map V.int) (fun i σ H' => ∃ (x4 x5 x6 x7 : Option V) (ds : List Int) (bs : Int), σ = [some (.ref a), some (.int 300), some (.ref l), some (.int bs), x4, x5, x6, x7] ∧ Ex (· = l) H2 H' ∧ H' l = some (.lst (ds.map V.int)) ∧ ds.length ≤ 300 + 2 * i ∧ (∀ x ∈ ds, 0 ≤ x) ∧ 0 ≤ bs ∧ bs < 2147483648)
  ⟨none, none, none, none, [], 7, rfl, Ex.refl, e2, Nat.zero_le _, (fun _ h => nomatch h), by decide, by decide⟩ (fun i σ H' _ ⟨_, _, _, _, _, _, _, ex, _⟩ => ex _ _ (Ne.symm lc) ec) ?_ ?_
 ·rintro i x σ H3 T hx ⟨x4, x5, x6, x7, ds, bs, rfl, ex, el, hlen, hnn, b0, b1⟩ hT
  have hi : i < ns.length := by rw [← nml]; exact (List.getElem?_eq_some_iff.mp hx).1
  rw [List.getElem?_map, List.getElem?_eq_getElem hi] at hx
  cases hx
  have gT : Same H3 (upd H3 T (.tup [.int (i : Int), .int ns[i]])) := Same.new hT _
  have exT := ex.trans (Ex.same gT)
  have elT := gT _ _ el
  have eT : (upd H3 T (.tup [.int (i : Int), .int ns[i]])) T = some (.tup [.int (i : Int), .int ns[i]]) := upd_same
  generalize upd H3 T (.tup [.int (i : Int), .int ns[i]]) = H4 at exT elT eT ⊢
  refine ⟨T, _, rfl, SqT.of eT, rfl, _, _, rfl, _, _, rfl, rfl, ?_⟩
  refine ⟨_, rfl, ns[i], rfl, ?_⟩
  obtain ⟨nu, enu, nu0⟩ : ∃ nu : Int, nu = (if ns[i] < 0 then -ns[i] else ns[i]) ∧ 0 ≤ nu := ⟨_, rfl, by split <;> omega⟩
  rw [← enu]
  refine ⟨_, rfl, _, _, rfl, rfl, .inl ⟨by omega, by omega⟩, _, rfl, _, _, rfl, rfl, _, _, rfl, rfl, (by show (0 : Int) < 2147483629; decide), ?_⟩
  obtain ⟨b2, eb2, b20, b21⟩ : ∃ b2 : Int, b2 = (bs * 31 + nu) % 2147483629 ∧ 0 ≤ b2 ∧ b2 < 2147483648 := ⟨_, rfl, by omega, by omega⟩
  dsimp only [gName, tSeq]
  rw [← eb2]
  have put : ∀ (x6' x7' : Option V) (ds' : List Int) (H' : Hp), Ex (· = l) H2 H' → H' l = some (.lst (ds'.map V.int)) → ds'.length ≤ 300 + 2 * (i + 1) → (∀ x ∈ ds', 0 ≤ x) → ∃ (y4 y5 y6 y7 : Option V) (es : List Int) (cs : Int), [some (V.ref a), some (.int 300), some (.ref l), some (.int b2), some (.int (i : Int)), some (.int ns[i]), x6', x7'] = [some (.ref a), some (.int 300), some (.ref l), some (.int cs), y4, y5, y6, y7] ∧ Ex (· = l) H2 H' ∧ H' l = some (.lst (es.map V.int)) ∧ es.length ≤ 300 + 2 * (i + 1) ∧ (∀ x ∈ es, 0 ≤ x) ∧ 0 ≤ cs ∧ cs < 2147483648 :=
   fun x6' x7' ds' H' h1 h2 h3 h4 => ⟨_, _, _, _, ds', b2, rfl, h1, h2, h3, h4, b20, b21⟩
  refine ⟨_, rfl, _, _, rfl, rfl, ⟨by decide, by decide, by decide⟩, _, _, rfl, rfl, _, rfl, ite2 (fun _ => ?_) (fun _ => ?_)⟩
  ·refine while_by2 (fun σ H' => ∃ (m : Int) (ds' : List Int), σ = [some (.ref a), some (.int 300), some (.ref l), some (.int b2), some (.int (i : Int)), some (.int ns[i]), some (.int m), x7] ∧ 0 ≤ m ∧ Ex (· = l) H2 H' ∧ H' l = some (.lst (ds'.map V.int)) ∧ ds'.length ≤ 300 + 2 * (i + 1) ∧ (∀ x ∈ ds', 0 ≤ x))
    (fun σ _ => slotN 6 σ) ⟨nu, ds, rfl, nu0, exT, elT, by omega, hnn⟩ ?_
   rintro σ H5 ⟨m, ds', rfl, m0, ex5, el5, hl5, hn5⟩
   have dml : (ds'.map V.int).length = ds'.length := List.length_map _
   refine ⟨_, rfl, _, _, rfl, rfl, _, rfl, ite2 (fun c1 => ?_) (fun c1 => ?_)⟩
   ·have m1 : 0 < m := of_decide_eq_true c1
    refine ⟨_, rfl, l, _, rfl, .inl (SqL.of el5), _, rfl, _, _, rfl, rfl, _, rfl, ite2 (fun c2 => ?_) (fun c2 => ?_)⟩
    ·have l300 : ds'.length < 300 := by
      have z := of_decide_eq_true c2
      rw [dml] at z
      omega
     refine next_by (H := H5) (μ := fun σ _ => slotN 6 σ) ?_
     refine ⟨_, rfl, .inl ⟨rfl, _, SqL.of el5⟩, _, rfl, _, _, rfl, rfl, (by show (0 : Int) < 10007; decide), l, _, _, rfl, rfl, el5, small1000 (by rw [dml]; omega), ?_⟩
     refine ⟨_, rfl, _, _, rfl, rfl, ⟨by decide, by decide⟩, ?_⟩
     refine ⟨⟨m / 10007, ds' ++ [m % 10007], rfl, by omega, fun c o hc ho => ?_, by rw [upd_same, List.map_append]; rfl, by rw [List.length_append]; show ds'.length + 1 ≤ _; omega, fun x hx => ?_⟩, ?_⟩
     ·rw [upd_ne hc]
      exact ex5 _ _ hc ho
     ·rcases List.mem_append.mp hx with z | z
      ·exact hn5 x z
      ·rw [List.mem_singleton.mp z]; omega
     ·show (m / 10007).toNat < m.toNat
      omega
    ·exact put _ _ ds' H5 ex5 el5 hl5 hn5
   ·exact iteF (put _ _ ds' H5 ex5 el5 hl5 hn5)
  ·have dml : (ds.map V.int).length = ds.length := List.length_map _
   have hi63 : i < 63 := by omega
   refine ⟨_, rfl, _, _, rfl, rfl, (by show (0 : Int) < 2147483647; decide), _, rfl, _, _, rfl, rfl, _, _, rfl, rfl, _, _, rfl, rfl, .inr ⟨by decide, by decide⟩, _, _, rfl, rfl, (by show (0 : Int) < 2147483647; decide), ?_⟩
   refine ⟨_, rfl, _, rfl, _, _, rfl, rfl, .inl ⟨by omega, by omega⟩, _, _, rfl, rfl, (by show (0 : Int) < 2147483629; decide), ?_⟩
   refine ⟨_, rfl, .inl ⟨rfl, _, SqL.of elT⟩, _, rfl, _, _, rfl, rfl, ⟨by decide, by decide⟩, _, _, rfl, rfl, (by show (0 : Int) < 10007; decide), l, _, _, rfl, rfl, elT, small1000 (by rw [dml]; omega), ?_⟩
   refine ⟨_, rfl, _, _, rfl, rfl, .inr ⟨by decide, by decide⟩, _, rfl, _, _, rfl, rfl, .inl ⟨by decide, by decide⟩, _, _, rfl, rfl, _, _, rfl, rfl, _, _, rfl, rfl, (by show (0 : Int) < 2147483563; decide), ?_⟩
   refine ⟨_, rfl, _, rfl, _, _, rfl, rfl, .inl ⟨by omega, by omega⟩, _, _, rfl, rfl, (by show (0 : Int) < 2147483647; decide), ?_⟩
   refine ⟨_, rfl, .inl ⟨rfl, _, SqL.of upd_same⟩, _, rfl, _, _, rfl, rfl, ⟨by decide, by decide⟩, _, _, rfl, rfl, (by show (0 : Int) < 10007; decide), l, _, _, rfl, rfl, upd_same, small1000 (by rw [List.length_append, dml]; show ds.length + 1 ≤ 1000; omega), ?_⟩
   rw [upd_upd]
   refine put _ _ (ds ++ [?v1] ++ [?v2]) _ (fun c o hc ho => ?ga) ?gb ?gc ?gd
   case gb =>
    rw [upd_same, List.map_append, List.map_append]
    rfl
   case ga =>
    rw [upd_ne hc]
    exact exT _ _ hc ho
   case gc =>
    rw [List.length_append, List.length_append]
    show ds.length + 1 + 1 ≤ _
    omega
   case gd =>
    intro x hx
    rcases List.mem_append.mp hx with z | z
    ·rcases List.mem_append.mp z with z | z
     ·exact hnn x z
     ·rw [List.mem_singleton.mp z]; omega
    ·rw [List.mem_singleton.mp z]; omega
 ·rintro σ H3 ⟨x4, x5, x6, x7, ds, bs, rfl, ex, el, hlen, hnn, b0, b1⟩
  have dml : (ds.map V.int).length = ds.length := List.length_map _
  rw [nml] at hlen
  refine ⟨_, rfl, _, rfl, l, _, rfl, .inl (SqL.of el), _, _, rfl, rfl, _, rfl, by rw [dml]; omega, by rw [dml]; omega, ?_⟩
  rw [dml]
  refine for_range (lo := 0) (n := ((300 : Int) - (ds.length : Int)).toNat) (fun i σ H' => ∃ (y4 y7 : Option V) (es : List Int), σ = [some (.ref a), some (.int 300), some (.ref l), some (.int bs), y4, x5, x6, y7] ∧ Ex (· = l) H2 H' ∧ H' l = some (.lst (es.map V.int)) ∧ es.length = ds.length + i ∧ (∀ x ∈ es, 0 ≤ x))
   ⟨_, _, ds, rfl, ex, el, rfl, hnn⟩ ?_ ?_
  ·rintro i σ H4 hi ⟨y4, y7, es, rfl, ex4, el4, hl4, hn4⟩
   have eml : (es.map V.int).length = es.length := List.length_map _
   rw [Int.zero_add]
   refine ⟨_, rfl, _, rfl, _, _, rfl, rfl, .inl ⟨by decide, by decide⟩, _, _, rfl, rfl, _, _, rfl, rfl, _, _, rfl, rfl, (by show (0 : Int) < 2147483629; decide), ?_⟩
   refine ⟨_, rfl, _, rfl, _, _, rfl, rfl, .inl ⟨by omega, by omega⟩, _, _, rfl, rfl, (by show (0 : Int) < 2147483647; decide), ?_⟩
   refine ⟨_, rfl, _, _, rfl, rfl, .inr ⟨by decide, by decide⟩, _, rfl, _, _, rfl, rfl, _, _, rfl, rfl, (by show (0 : Int) < 2147483563; decide), ?_⟩
   refine ⟨_, rfl, .inl ⟨rfl, _, SqL.of el4⟩, _, rfl, _, rfl, _, _, rfl, rfl, .inl ⟨by omega, by omega⟩, _, _, rfl, rfl, (by show (0 : Int) < 2147483629; decide), _, _, rfl, rfl, ⟨by decide, by decide⟩, _, _, rfl, rfl, (by show (0 : Int) < 10007; decide), l, _, _, rfl, rfl, el4, small1000 (by rw [eml]; omega), ?_⟩
   refine ⟨_, _, es ++ [?w1], rfl, fun c o hc ho => ?ha, ?hb, ?hc, ?hd⟩
   case hb =>
    rw [upd_same, List.map_append]
    rfl
   case ha =>
    rw [upd_ne hc]
    exact ex4 _ _ hc ho
   case hc =>
    rw [List.length_append, hl4]
    show ds.length + i + 1 = _
    omega
   case hd =>
    intro x hx
    rcases List.mem_append.mp hx with z | z
    ·exact hn4 x z
    ·rw [List.mem_singleton.mp z]; omega
  ·rintro σ H4 ⟨y4, y7, es, rfl, ex4, el4, hl4, hn4⟩
   have e300 : 0 < es.length := by omega
   exact ⟨_, rfl, q l es H4 (fun b o hb => ex4 _ _ (ne_of_none hb hl) (gA _ _ hb)) hl el4 e300 (by omega) hn4⟩
end
abbrev sNu : Stmt := top 40
def spNu : Sp := fun vs H Q _ => ∃ (d p : Addr) (many : Int), vs = [.ref d, .int many] ∧ Sto H d p ∧ 1 ≤ many ∧ many ≤ 10 ∧
 ∀ (l : Addr) (ns : List Int) (H' : Hp), Ex (· = d) H H' → Sto H' d p → H l = none → H' l = some (.lst (ns.map V.int)) → Rise ns → (ns.length : Int) = many → (∀ x ∈ ns, x < 2 ^ 95) → Q (.ref l) H'
theorem Sto.stay {H H' : Hp} {d p : Addr} (S : Sto H d p) (h : ∀ b o, (b = d ∨ b = p) → H b = some o → H' b = some o) : Sto H' d p :=
 ⟨let ⟨c, e⟩ := S.at_; ⟨c, h _ _ (.inl rfl) e⟩, let ⟨xs, e, r⟩ := S.pl; ⟨xs, h _ _ (.inr rfl) e, r⟩⟩
theorem Sto.out {H : Hp} {d p x : Addr} (S : Sto H d p) (h : H x = none) : x ≠ d := fun z => by
 obtain ⟨c, e⟩ := S.at_
 rw [z, e] at h
 cases h
theorem exN {d p x : Addr} {H H' : Hp} (S : Sto H' d p) (o : Ex (· = d) H H') (h : H' x = none) : H x = none := by
 cases e : H x with
 | none => rfl
 | some u =>
  have z := o x u (S.out h) e
  rw [h] at z; cases z
theorem rise_by {start step : Int} (h0 : 0 ≤ start) (h1 : 1 ≤ step) (n : Nat) : Rise ((List.range n).map fun k : Nat => start + step * (k : Int)) := by
 refine ⟨List.pairwise_map.mpr (List.pairwise_lt_range.imp fun {a b} h => ?_), fun x hx => ?_⟩
 ·have : step * (a : Int) < step * (b : Int) := Int.mul_lt_mul_of_pos_left (by omega) (by omega)
  omega
 ·obtain ⟨k, _, rfl⟩ := List.mem_map.mp hx
  have : 0 ≤ step * (k : Int) := Int.mul_nonneg (by omega) (by omega)
  omega
def NumsD (H : Hp) (fd : Addr) (n : Nat) : Prop := ∃ (kvs : List (Key × V)) (ks : List Int), H fd = some (.dK kvs) ∧ kvs.map (·.1) = ks.map Sum.inl ∧ ks.Nodup ∧ (∀ x ∈ ks, 0 ≤ x ∧ x < 10 ^ 25 + 100) ∧ ks.length = n
theorem valV_keys {kvs : List (Key × V)} {ks : List Int} (h : kvs.map (·.1) = ks.map Sum.inl) (x : Int) : (valV kvs (Sum.inl x)).isSome = decide (x ∈ ks) := by
 rw [← valV_any]
 have e1 : (kvs.any fun kv => decide (kv.1 = Sum.inl x)) = (kvs.map (·.1)).any fun k => decide (k = Sum.inl x) := by rw [List.any_map]; rfl
 rw [e1, h, List.any_map, Bool.eq_iff_iff, List.any_eq_true, decide_eq_true_iff]
 constructor
 ·rintro ⟨y, hy, e⟩
  have e' : (Sum.inl y : Key) = Sum.inl x := of_decide_eq_true e
  cases e'
  exact hy
 ·intro hx
  exact ⟨x, hx, decide_eq_true rfl⟩
def above (ks : List Int) (x : Int) : Nat := (ks.filter fun y => decide (x ≤ y)).length
theorem above_next {ks : List Int} {x : Int} (h : x ∈ ks) : above ks (x + 1) < above ks x := by
 unfold above
 induction ks with
 | nil => cases h
 | cons y r ih =>
  have mono : ∀ l : List Int, (l.filter fun y => decide (x + 1 ≤ y)).length ≤ (l.filter fun y => decide (x ≤ y)).length := by
   intro l
   induction l with
   | nil => exact Nat.le_refl _
   | cons z q ih2 =>
    rw [List.filter_cons, List.filter_cons]
    by_cases h1 : x + 1 ≤ z
    ·rw [decide_eq_true h1, decide_eq_true (by omega : x ≤ z), if_pos rfl, if_pos rfl, List.length_cons, List.length_cons]
     omega
    ·rw [decide_eq_false h1, if_neg Bool.false_ne_true]
     split
     ·rw [List.length_cons]; omega
     ·exact ih2
  rw [List.filter_cons, List.filter_cons]
  rcases List.mem_cons.mp h with z | z
  ·rw [decide_eq_false (by omega : ¬ x + 1 ≤ y), decide_eq_true (by omega : x ≤ y), if_neg Bool.false_ne_true, if_pos rfl, List.length_cons]
   have := mono r
   omega
  ·have := ih z
   by_cases h1 : x + 1 ≤ y
   ·rw [decide_eq_true h1, decide_eq_true (by omega : x ≤ y), if_pos rfl, if_pos rfl, List.length_cons, List.length_cons]
    omega
   ·rw [decide_eq_false h1, if_neg Bool.false_ne_true]
    split
    ·rw [List.length_cons]; omega
    ·exact this
theorem seq_post {t u : TS} {D : Ends} {σ : L2.St} {H : Hp} (R : L2.St → Hp → Prop) (ht : ∀ N : L2.St → Hp → Prop, (∀ σ' H', R σ' H' → N σ' H') → t { D with nx := N } σ H) (hu : ∀ σ' H', R σ' H' → u D σ' H') : tSeq t u D σ H := ht _ hu
def slotI (i : Nat) (σ : L2.St) : Int := match σ[i]? with
 | some (some (.int v)) => v
 | _ => 0
section
variable {f tk : Addr} {fd tkd : FuncData}
theorem scNu : FnScope ["store", "many", "way", "start", "step", "reach", "found", "k", "number"] ["store", "many"] (defScope sNu) := ⟨rfl, rfl, rfl, by decide +kernel, rfl, by decide +kernel, by decide +kernel⟩
theorem ok_nu (F : Fun K "_law_numbers" "_law_numbers" sNu f fd) (B : Bt3 mg)
  (GT : FnOk P w K mg base CX0 1 tk tkd ["store", "many"] spTk) (bT : Binds K tkd ["store", "many"] []) (kT : Kee K tk) (mT : mg "_law_take" = some (.ref tk)) : FnOk P w K mg base CX0 2 f fd ["store", "many"] spNu := by
 refine F.ok scNu (fun vs H Q E h => ?_) (fun cdv A outer s H vs Q E hr h => ?_)
 ·obtain ⟨d, p, many, rfl, _⟩ := h
  rfl
 obtain ⟨d, p, many, rfl, S0, m1, m10, q⟩ := h
 have hu := hu_of hr
 refine ⟨_, (@pss_cons _ _ _ _ _ (ps_set (i := 2) scNu.nd rfl (Or.inl rfl) (pe_call GT hr rfl mT kT bT .nil pass0 (pa_cons (pv 0) (pa_cons pe_int pa_nil)))) (@pss_cons _ _ _ _ _ (ps_if (pt_cmpR op_eq (pv 2) pe_int (nomark _)) (@pss_one _ _ _ (ps_ret (pe_list_range2 rfl rfl B.range rfl B.list (pa_cons pe_int (pa_cons (pe_op op_add (pv 1) pe_int) pa_nil))))) pss_nil) (@pss_cons _ _ _ _ _ (ps_if (pt_cmpR op_eq (pv 2) pe_int (nomark _)) (@pss_cons _ _ _ _ _ (ps_set (i := 3) scNu.nd rfl (Or.inr rfl) (pe_call GT hr rfl mT kT bT .nil pass0 (pa_cons (pv 0) (pa_cons pe_int pa_nil)))) (@pss_cons _ _ _ _ _ (ps_set (i := 4) scNu.nd rfl (Or.inr rfl) (pe_op op_add pe_int (pe_call GT hr rfl mT kT bT .nil pass0 (pa_cons (pv 0) (pa_cons pe_int pa_nil))))) (@pss_one _ _ _ (ps_ret (pe_comp ["k"] rfl (blk_ok (defScope sNu) ["store", "many", "way", "start", "step", "reach", "found", "k", "number"] rfl rfl (by decide +kernel)) (pi_range1 rfl B.range (pa_cons (pv 1) pa_nil)) (fun pins C fp s3 H3 => ⟨(pg_name (i := 0) (show (blkN ["k"] ["store", "many", "way", "start", "step", "reach", "found", "k", "number"]).Nodup by decide +kernel) rfl (Or.inl rfl)), pif_nil, (pe_op op_add (pv 4) (pe_op op_mul (pv 5) (pv 0)))⟩)))))) pss_nil) (@pss_cons _ _ _ _ _ (ps_set (i := 5) scNu.nd rfl (Or.inl rfl) (pe_ix ix_list (pe_lst (pa_cons pe_int (pa_cons pe_int (pa_cons (pe_op op_mul pe_int (pe_op op_pow pe_int pe_int)) pa_nil)))) (pe_op op_sub (pv 2) pe_int) (fun _ _ => rfl))) (@pss_cons _ _ _ _ _ (ps_set (i := 6) scNu.nd rfl (Or.inl rfl) pe_dnewK) (@pss_cons _ _ _ _ _ (ps_for PassesOwn.never rfl (pi_range1 rfl B.range (pa_cons (pv 1) pa_nil)) (pg_name (i := 7) scNu.nd rfl (Or.inl rfl)) (@pss_cons _ _ _ _ _ (ps_set (i := 8) scNu.nd rfl (Or.inl rfl) (pe_call GT hr rfl mT kT bT .nil pass0 (pa_cons (pv 0) (pa_cons pe_int pa_nil)))) (@pss_cons _ _ _ _ _ (ps_if (pt_cmpR op_gt (pv 5) (pe_op op_pow pe_int pe_int) (nomark _)) (@pss_one _ _ _ (ps_set (i := 8) scNu.nd rfl (Or.inl rfl) (pe_op op_add (pe_op op_mul (pv 8) (pe_op op_pow pe_int pe_int)) (pe_call GT hr rfl mT kT bT .nil pass0 (pa_cons (pv 0) (pa_cons pe_int pa_nil)))))) pss_nil) (@pss_cons _ _ _ _ _ (ps_set (i := 8) scNu.nd rfl (Or.inl rfl) (pe_op op_mod (pv 8) (pv 5))) (@pss_cons _ _ _ _ _ (ps_while PassesOwn.never (pt_cmp (pc_din hu (pv 8) (pv 6))) (@pss_one _ _ _ (ps_set (i := 8) scNu.nd rfl (Or.inl rfl) (pe_op op_add (pv 8) pe_int)))) (@pss_one _ _ _ (ps_dput hu (pv 6) (pv 8) pe_bl rfl))))))) (@pss_one _ _ _ (ps_ret (pe_callB (call_sorted_dict rfl) rfl B.sorted boot_sorted (pa_cons (pv 6) pa_nil)))))))))), ?_⟩
 refine ⟨_, rfl, d, p, 5, rfl, S0, by decide, fun way H1 w0 w1 S1 o1 => ?_⟩
 have E1 : Ex (· = d) H H1 := o1.ex
 refine ⟨_, rfl, rfl, _, rfl, ite2 (fun _ => ?_) (fun c0 => ?_)⟩
 ·refine ⟨_, rfl, _, _, rfl, rfl, _, _, rfl, ⟨by decide, by decide, by omega, by omega⟩, fun a ha => ?_⟩
  rw [uptoN_is]
  have s2 := Same.new ha (.lst ((uptoN many.toNat).map V.int))
  refine q a (uptoN many.toNat) _ (E1.trans (Ex.same s2)) (S1.ex s2) (exN S1 E1 ha) upd_same (uptoN_rise _ (by omega)).1 ?_ fun x hx => ?_
  ·unfold uptoN; rw [List.length_map, List.length_range]; omega
  ·unfold uptoN at hx
   obtain ⟨k, hk, rfl⟩ := List.mem_map.mp hx
   have := List.mem_range.mp hk
   omega
 have way0 : way ≠ 0 := fun z => c0 (by rw [z]; exact decide_eq_true rfl)
 refine ⟨_, rfl, rfl, _, rfl, ite2 (fun _ => ?_) (fun c1 => ?_)⟩
 ·refine ⟨_, rfl, d, p, 20, rfl, S1, by decide, fun start H2 a0 a1 S2 o2 => ?_⟩
  refine ⟨_, rfl, d, p, 4, rfl, S2, by decide, fun st H3 b0 b1 S3 o3 => ⟨_, _, rfl, rfl, ?_⟩⟩
  have E3 : Ex (· = d) H H3 := E1.trans (o2.ex.trans o3.ex)
  refine ⟨_, rfl, many, rfl, by omega, by omega, fun D hD => ?_⟩
  refine turns_range (lo := 0) (n := many.toNat) (σ := [some (.ref d), some (.int many), some (.int way), some (.int start), some (.int (1 + st)), none, none, none, none]) (fun _ => true) (fun k => .int (start + (1 + st) * (k : Int))) hD (by omega) (fun i H' hi g => tells_true) (fun i H' hi _ g P hP => ?_) fun H4 g4 e4 => ?_
  ·have e : start + (1 + st) * (0 + (i : Int)) = start + (1 + st) * (i : Int) := by rw [Int.zero_add]
   rw [← e] at hP
   exact ⟨_, rfl, _, rfl, _, rfl, _, _, rfl, rfl, .inl ⟨by omega, by omega⟩, _, _, rfl, rfl, hP _ Same.rfl'⟩
  refine q D ((List.range many.toNat).map fun k : Nat => start + (1 + st) * (k : Int)) H4 (E3.trans (Ex.same g4)) (S3.ex g4) (exN S3 E3 hD) (by rw [e4, fltT, List.map_map]; rfl) (rise_by a0 (by omega) _) (by rw [List.length_map, List.length_range]; omega) fun x hx => ?_
  obtain ⟨k, hk, rfl⟩ := List.mem_map.mp hx
  have hk' := List.mem_range.mp hk
  have h2 : (1 + st) * (k : Int) ≤ 4 * 10 := Int.mul_le_mul (by omega) (by omega) (by omega) (by omega)
  omega
 have way1 : way ≠ 1 := fun z => c1 (by rw [z]; exact decide_eq_true rfl)
 refine ⟨_, _, rfl, rfl, ⟨by decide, by decide, by decide⟩, _, _, rfl, rfl, .inl ⟨by decide, by decide⟩, (by show 3 ≤ sizeLine; decide), fun l hl => ?_⟩
 obtain ⟨rv, hrv, mrv⟩ := pick_int [16, 1000, 9 * 10 ^ (24 : Int).toNat] (r := way - 2) (by omega) (by show way - 2 < 3; omega)
 refine ⟨_, rfl, _, _, rfl, rfl, l, _, _, _, rfl, rfl, SqL.of upd_same, hrv, ?_⟩
 have rb : 16 ≤ rv ∧ rv ≤ 9000000000000000000000000 := by
  have e : (9 : Int) * 10 ^ (24 : Int).toNat = 9000000000000000000000000 := by decide
  rw [e] at mrv
  simp only [List.mem_cons, List.not_mem_nil, or_false] at mrv
  omega
 have s2 := Same.new hl (.lst [.int 16, .int 1000, .int (9 * 10 ^ (24 : Int).toNat)])
 have S2 := S1.ex s2
 have E2 : Ex (· = d) H (upd H1 l (.lst [.int 16, .int 1000, .int (9 * 10 ^ (24 : Int).toNat)])) := E1.trans (Ex.same s2)
 generalize upd H1 l (.lst [.int 16, .int 1000, .int (9 * 10 ^ (24 : Int).toNat)]) = H2 at S2 E2 ⊢
 refine fun fa hfa => ?_
 have s3 := Same.new hfa (.dK [])
 have S3 := S2.ex s3
 have hfH : H fa = none := exN S2 E2 hfa
 have fd_ne : fa ≠ d := S2.out hfa
 have E3 : Ex (· = d) H (upd H2 fa (.dK [])) := E2.trans (Ex.same s3)
 have e3 : (upd H2 fa (.dK [])) fa = some (.dK []) := upd_same
 generalize upd H2 fa (.dK []) = H3 at S3 E3 e3 ⊢
 refine ⟨_, rfl, many, rfl, by omega, by omega, ?_⟩
 refine for_range (lo := 0) (n := many.toNat) (fun i σ H' => ∃ (x7 x8 : Option V), σ = [some (.ref d), some (.int many), some (.int way), none, none, some (.int rv), some (.ref fa), x7, x8] ∧ Sto H' d p ∧ Ex (fun b => b = d ∨ b = fa) H3 H' ∧ NumsD H' fa i)
  ⟨_, _, rfl, S3, Ex.refl, [], [], e3, rfl, List.nodup_nil, (fun _ h => nomatch h), rfl⟩ ?_ ?_
 ·rintro i σ H4 hi ⟨x7, x8, rfl, S4, E4, N4⟩
  refine ⟨_, rfl, d, p, 10007, rfl, S4, by decide, fun r1 H5 a0 a1 S5 o5 => ?_⟩
  dsimp only [gName]
  refine seq_post (fun σ' H' => ∃ nu : Int, σ' = [some (.ref d), some (.int many), some (.int way), none, none, some (.int rv), some (.ref fa), some (.int (0 + (i : Int))), some (.int nu)] ∧ Sto H' d p ∧ Ex (· = d) H4 H') (fun N hN => ?_) ?_
  ·refine ⟨_, rfl, _, _, rfl, rfl, ⟨by decide, by decide, by decide⟩, _, _, rfl, rfl, _, rfl, ite2 (fun _ => ?_) (fun _ => hN _ _ ⟨r1, rfl, S5, o5.ex⟩)⟩
   refine ⟨_, rfl, _, _, rfl, rfl, ⟨by decide, by decide, by decide⟩, _, _, rfl, rfl, .inl ⟨by omega, by omega⟩, _, rfl, d, p, 7, rfl, S5, by decide, fun r2 H6 b0 b1 S6 o6 => ⟨_, _, rfl, rfl, hN _ _ ⟨_, rfl, S6, o5.ex.trans o6.ex⟩⟩⟩
  rintro σ' H6 ⟨nu, rfl, S6, E6⟩
  refine ⟨_, rfl, _, rfl, _, _, rfl, rfl, (by omega), ?_⟩
  obtain ⟨n0, en0, n00, n01⟩ : ∃ n0 : Int, n0 = nu % rv ∧ 0 ≤ n0 ∧ n0 < rv := ⟨_, rfl, Int.emod_nonneg _ (by omega), Int.emod_lt_of_pos _ (by omega)⟩
  dsimp only [gName, tSeq]
  obtain ⟨kvs, ks, k1, k2, k3, k4, k5⟩ := N4
  have k6 : H6 fa = some (.dK kvs) := E6 _ _ fd_ne k1
  have hkl : kvs.length = ks.length := by have := congrArg List.length k2; simpa using this
  rw [← en0]
  refine while_by2 (fun σ H' => ∃ m : Int, σ = [some (.ref d), some (.int many), some (.int way), none, none, some (.int rv), some (.ref fa), some (.int (0 + (i : Int))), some (.int m)] ∧ H' = H6 ∧ 0 ≤ m ∧ m + (above ks m : Int) ≤ n0 + (ks.length : Int))
   (fun σ _ => above ks (slotI 8 σ)) ⟨n0, rfl, rfl, n00, by unfold above; have := List.length_filter_le (fun y => decide (n0 ≤ y)) ks; omega⟩ ?_
  rintro σ H7 ⟨m, rfl, rfl, m0, mb⟩
  refine ⟨_, rfl, _, rfl, fa, _, rfl, DGet.k (k := Sum.inl m) k6, _, rfl, ?_⟩
  rw [valV_keys k2]
  refine ite2 (fun c => ?_) (fun c => ?_)
  ·have hm : m ∈ ks := of_decide_eq_true c
   have ab := above_next hm
   refine next_by (H := H7) (μ := fun σ _ => above ks (slotI 8 σ)) ⟨_, rfl, _, _, rfl, rfl, ⟨m + 1, rfl, rfl, by omega, by omega⟩, ab⟩
  ·have hm : m ∉ ks := fun z => c (decide_eq_true z)
   refine ⟨_, rfl, _, rfl, fa, _, rfl, DPut.k (k := Sum.inl m) k6 (small1000 (by omega)), ?_⟩
   refine ⟨_, _, rfl, S6.stay fun b o hb e => ?_, ?_, ⟨_, ks ++ [m], upd_same, by rw [putK_keys k2, if_neg hm], ?_, fun x hx => ?_, by rw [List.length_append, k5]; rfl⟩⟩
   ·have hne : b ≠ fa := fun z => by
     rcases hb with y | y
     ·exact fd_ne (z ▸ y)
     ·obtain ⟨xs, hx, h0, _⟩ := S6.pl
      rw [← y, z, k6] at hx
      cases hx
    rw [upd_ne hne]; exact e
   ·exact (E4.trans (E6.wide fun b h => .inl h)).trans (Ex.put _ (.inr rfl))
   ·exact List.nodup_append.mpr ⟨k3, List.nodup_cons.mpr ⟨(fun h => nomatch h), List.nodup_nil⟩, fun a ha b hb e => by rw [List.mem_singleton.mp hb] at e; exact hm (e ▸ ha)⟩
   ·rcases List.mem_append.mp hx with z | z
    ·exact k4 x z
    ·rw [List.mem_singleton.mp z]
     exact ⟨m0, by omega⟩
 ·rintro σ H4 ⟨x7, x8, rfl, S4, E4, kvs, ks, k1, k2, k3, k4, k5⟩
  refine ⟨_, rfl, fa, kvs, ks, rfl, k1, k2, by omega, fun l2 ys hl2 py ly => ?_⟩
  have s5 := Same.new hl2 (.lst (ys.map V.int))
  have EH : Ex (· = d) H H4 := fun c o nc hc => E4 c o (fun z => z.elim nc fun z => by rw [z, hfH] at hc; cases hc) (E3 c o nc hc)
  refine q l2 ys _ (EH.trans (Ex.same s5)) (S4.ex s5) (exN S4 EH hl2) upd_same ⟨strict ly (py.nodup_iff.mpr k3), fun x hx => (k4 x (py.mem_iff.mp hx)).1⟩ (by rw [py.length_eq, k5]; omega) fun x hx => ?_
  have := (k4 x (py.mem_iff.mp hx)).2
  omega
end
abbrev sSp : Stmt := top 41
def spSp : Sp := fun vs H Q _ => ∃ (d p : Addr), vs = [.ref d] ∧ Sto H d p ∧
 ∀ (t a b : Addr) (ns ss : List Int) (H' : Hp), Sto H' d p → Ex (· = d) H H' → H t = none → H a = none → H b = none → a ≠ b → H' t = some (.tup [.ref a, .ref b]) → H' a = some (.lst (ns.map V.int)) → H' b = some (.lst (ss.map V.int)) → PlanOk ns ss → Q (.ref t) H'
theorem Sto.outp {H : Hp} {d p x : Addr} (S : Sto H d p) (h : H x = none) : x ≠ p := fun z => by
 obtain ⟨xs, hx, _⟩ := S.pl
 rw [← z, h] at hx
 cases hx
theorem Sto.off2 {H : Hp} {d p x : Addr} {o : HO} (S : Sto H d p) (h1 : x ≠ d) (h2 : x ≠ p) : Sto (upd H x o) d p := S.stay fun b u hb e => by
 rw [upd_ne (fun z => by rcases hb with y | y; exact h1 (z ▸ y); exact h2 (z ▸ y))]
 exact e
theorem last_int {R : List Int} (h : R ≠ []) : ∃ x, atI (R.map V.int) (-1) = some (.int x) ∧ x ∈ R := by
 refine ⟨R.getLast h, ?_, List.getLast_mem h⟩
 have e : R = R.dropLast ++ [R.getLast h] := (List.dropLast_concat_getLast h).symm
 have e2 : R.map V.int = R.dropLast.map V.int ++ [.int (R.getLast h)] := by
  conv => lhs; rw [e, List.map_append]
  rfl
 rw [e2]
 exact atI_last _ _
section
variable {f tk nu : Addr} {fd tkd nud : FuncData}
theorem scSp : FnScope ["store", "x", "many", "numbers", "left", "row", "sums", "k", "one", "other"] ["store"] (defScope sSp) := ⟨rfl, rfl, rfl, by decide +kernel, rfl, by decide +kernel, by decide +kernel⟩
theorem ok_sp (F : Fun K "_law_plan" "_law_plan" sSp f fd) (B : Bt3 mg)
  (GT : FnOk P w K mg base CX0 2 tk tkd ["store", "many"] spTk) (bT : Binds K tkd ["store", "many"] []) (kT : Kee K tk) (mT : mg "_law_take" = some (.ref tk))
  (GN : FnOk P w K mg base CX0 2 nu nud ["store", "many"] spNu) (bN : Binds K nud ["store", "many"] []) (kN : Kee K nu) (mN : mg "_law_numbers" = some (.ref nu)) : FnOk P w K mg base CX0 3 f fd ["store"] spSp := by
 refine F.ok scSp (fun vs H Q E h => ?_) (fun cdv A outer s H vs Q E hr h => ?_)
 ·obtain ⟨d, p, rfl, _⟩ := h
  rfl
 obtain ⟨d, p, rfl, S0, q⟩ := h
 have hu := hu_of hr
 refine ⟨_, (@pss_cons _ _ _ _ _ (ps_set (i := 1) scSp.nd rfl (Or.inl rfl) (pe_call GT hr rfl mT kT bT .nil pass0 (pa_cons (pv 0) (pa_cons pe_int pa_nil)))) (@pss_cons _ _ _ _ _ (ps_set (i := 2) scSp.nd rfl (Or.inl rfl) (pe_ix ix_list (pe_lst (pa_cons (pe_op op_add pe_int (pe_op op_mod (pv 1) pe_int)) (pa_cons pe_int (pa_cons (pe_op op_add pe_int (pe_op op_mod (pv 1) pe_int)) (pa_cons (pe_op op_add pe_int (pe_op op_mod (pv 1) pe_int)) pa_nil))))) (pe_call GT hr rfl mT kT bT .nil pass0 (pa_cons (pv 0) (pa_cons pe_int pa_nil))) (fun _ _ => rfl))) (@pss_cons _ _ _ _ _ (ps_set (i := 3) scSp.nd rfl (Or.inl rfl) (pe_call GN hr rfl mN kN bN .nil pass0 (pa_cons (pv 0) (pa_cons (pv 2) pa_nil)))) (@pss_cons _ _ _ _ _ (ps_set (i := 4) scSp.nd rfl (Or.inr rfl) (pe_callTy call_list_of rfl B.list PyProof.Rows.boot_list (pa_cons (pv 3) pa_nil))) (@pss_cons _ _ _ _ _ (ps_comp ["one"] rfl (blk_ok (defScope sSp) ["store", "x", "many", "numbers", "left", "row", "sums", "k", "one", "other"] rfl rfl (by decide +kernel)) (pi_list (pv 3)) (fun pins C fp s3 H3 => ⟨(pg_name (i := 0) (show (blkN ["one"] ["store", "x", "many", "numbers", "left", "row", "sums", "k", "one", "other"]).Nodup by decide +kernel) rfl (Or.inl rfl)), pif_nil, (pe_bmK K PySem.F.plainAttrs_list PySem.F.slot_list_pop PySem.F.type_list_pop mt_popAt (pv 5) (pa_cons (pe_call GT hr rfl mT kT bT .nil pass0 (pa_cons (pv 1) (pa_cons (pe_callB (call_len_seqK K) rfl B.len PySem.boot_len (pa_cons (pv 5) pa_nil)) pa_nil))) pa_nil))⟩) (j := 5) scSp.nd rfl (Or.inl rfl) rfl) (@pss_cons _ _ _ _ _ (ps_set (i := 6) scSp.nd rfl (Or.inl rfl) pe_dnewK) (@pss_cons _ _ _ _ _ (ps_if (pt_cmpR op_eq (pe_call GT hr rfl mT kT bT .nil pass0 (pa_cons (pv 0) (pa_cons pe_int pa_nil))) pe_int (nomark _)) (@pss_one _ _ _ (ps_for PassesOwn.never rfl (pi_range2 rfl B.range (pa_cons pe_int (pa_cons (pv 2) pa_nil))) (pg_name (i := 7) scSp.nd rfl (Or.inl rfl)) (@pss_one _ _ _ (ps_dput hu (pv 6) (pe_op op_add (pe_ix ix_list (pv 5) (pe_op op_sub (pv 7) pe_int) (fun _ _ => rfl)) (pe_ix ix_list (pv 5) (pv 7) (fun _ _ => rfl))) pe_bl rfl)))) pss_nil) (@pss_cons _ _ _ _ _ (ps_if (PW.pt (pw_and (pt_cmpR op_eq (pe_call GT hr rfl mT kT bT .nil pass0 (pa_cons (pv 0) (pa_cons pe_int pa_nil))) pe_int (nomark _)) (pw_and1 (pt_cmpR op_gt (pv 2) pe_int (nomark _))))) (@pss_one _ _ _ (ps_dput hu (pv 6) (pe_op op_add (pe_ix ix_list (pv 5) pe_int (fun _ _ => rfl)) (pe_ix ix_list (pv 5) (pe_un un_neg pe_int) (fun _ _ => rfl))) pe_bl rfl)) pss_nil) (@pss_cons _ _ _ _ _ (ps_set (i := 1) scSp.nd rfl (Or.inl rfl) (pe_call GT hr rfl mT kT bT .nil pass0 (pa_cons (pv 0) (pa_cons pe_int pa_nil)))) (@pss_cons _ _ _ _ _ (ps_for PassesOwn.never rfl (pi_range1 rfl B.range (pa_cons (pe_ix ix_list (pe_lst (pa_cons pe_int (pa_cons (pe_op op_mod (pv 1) pe_int) (pa_cons (pe_op op_mod (pv 1) pe_int) pa_nil)))) (pe_call GT hr rfl mT kT bT .nil pass0 (pa_cons (pv 0) (pa_cons pe_int pa_nil))) (fun _ _ => rfl)) pa_nil)) (pg_name (i := 7) scSp.nd rfl (Or.inl rfl)) (@pss_cons _ _ _ _ _ (ps_set (i := 8) scSp.nd rfl (Or.inl rfl) (pe_ix ix_list (pv 3) (pe_call GT hr rfl mT kT bT .nil pass0 (pa_cons (pv 0) (pa_cons (pv 2) pa_nil))) (fun _ _ => rfl))) (@pss_cons _ _ _ _ _ (ps_set (i := 9) scSp.nd rfl (Or.inl rfl) (pe_ix ix_list (pv 3) (pe_call GT hr rfl mT kT bT .nil pass0 (pa_cons (pv 0) (pa_cons (pv 2) pa_nil))) (fun _ _ => rfl))) (@pss_cons _ _ _ _ _ (ps_if (pt_cmpR op_eq (pe_call GT hr rfl mT kT bT .nil pass0 (pa_cons (pv 0) (pa_cons pe_int pa_nil))) pe_int (nomark _)) (@pss_one _ _ _ (ps_set (i := 9) scSp.nd rfl (Or.inl rfl) (pe_call GT hr rfl mT kT bT .nil pass0 (pa_cons (pv 0) (pa_cons pe_int pa_nil))))) pss_nil) (@pss_one _ _ _ (ps_if (pt_cmpR op_lt (pe_callB call_lenD rfl B.len PySem.boot_len (pa_cons (pv 6) pa_nil)) pe_int (nomark _)) (@pss_one _ _ _ (ps_dput hu (pv 6) (pe_op op_add (pv 8) (pv 9)) pe_bl rfl)) pss_nil)))))) (@pss_one _ _ _ (ps_ret (pe_tup (pa_cons (pv 3) (pa_cons (pe_callB (call_sorted_dict rfl) rfl B.sorted boot_sorted (pa_cons (pv 6) pa_nil)) pa_nil))))))))))))))), ?_⟩
 refine ⟨_, rfl, d, p, 10007, rfl, S0, by decide, fun x H1 x0 x1 S1 o1 => ?_⟩
 refine ⟨_, rfl, _, _, rfl, rfl, (by show (0 : Int) < 10; decide), _, _, rfl, rfl, _, rfl, _, _, rfl, rfl, (by show (0 : Int) < 5; decide), _, _, rfl, rfl, _, rfl, _, _, rfl, rfl, (by show (0 : Int) < 5; decide), _, _, rfl, rfl, (by show 4 ≤ sizeLine; decide), fun l hl => ?_⟩
 refine ⟨_, rfl, d, p, 4, rfl, S1.ex (Same.new hl _), by decide, fun r2 H2 a2 b2 S2 o2 => ?_⟩
 obtain ⟨nv, hnv, mnv⟩ := pick_int [1 + x % 10, 10, 1 + x % 5, 6 + x % 5] a2 b2
 refine ⟨l, _, _, _, rfl, rfl, SqL.of ((o2 l (S1.out hl)).trans upd_same), hnv, ?_⟩
 have nb : 1 ≤ nv ∧ nv ≤ 10 := by
  simp only [List.mem_cons, List.not_mem_nil, or_false] at mnv
  omega
 have E2 : Ex (· = d) H H2 := o1.ex.trans ((Ex.new _ hl).trans o2.ex)
 clear o1 o2 hl hnv mnv S1 a2 b2 r2
 refine ⟨_, rfl, _, rfl, d, p, nv, rfl, S2, nb.1, nb.2, fun a ns H3 E3 S3 na ea rise hlen hbd => ?_⟩
 have EH3 : Ex (· = d) H H3 := E2.trans E3
 have naH : H a = none := exN S2 E2 na
 have oa : a ≠ d := S2.out na
 have nlen : ns.length = nv.toNat := by omega
 refine ⟨_, rfl, a, _, rfl, .inl (SqL.of ea), fun lf hlf => ?_⟩
 have olf : lf ≠ d := S3.out hlf
 have olp : lf ≠ p := S3.outp hlf
 have alf : a ≠ lf := ne_of_none ea hlf
 have s4 := Same.new hlf (.lst (ns.map V.int))
 have e4 : upd H3 lf (.lst (ns.map V.int)) lf = some (.lst (ns.map V.int)) := upd_same
 have ea4 := s4 _ _ ea
 have S4 := S3.ex s4
 have E4 : Ex (· = d) H3 (upd H3 lf (.lst (ns.map V.int))) := Ex.same s4
 generalize upd H3 lf (.lst (ns.map V.int)) = H4 at s4 e4 ea4 S4 E4 ⊢
 refine ⟨_, rfl, a, rfl, ⟨_, SqL.of ea4⟩, fun D hD => ?_⟩
 have oD : D ≠ d := S4.out hD
 have oDp : D ≠ p := S4.outp hD
 have lfD : lf ≠ D := ne_of_none e4 hD
 have aD : a ≠ D := ne_of_none ea4 hD
 have nml : (ns.map V.int).length = ns.length := List.length_map _
 refine turns_any (n := ns.length) (fun i σ' H' => ∃ (y : Option V) (rs ls : List Int), σ' = y :: [some (.ref d), some (.int x), some (.int nv), some (.ref a), some (.ref lf), none, none, none, none, none] ∧ Sto H' d p ∧
   Ex (fun b => b = d ∨ b = lf ∨ b = D) H4 H' ∧ H' lf = some (.lst (ls.map V.int)) ∧ H' D = some (.lst (rs.map V.int)) ∧ rs.length = i ∧ (rs ++ ls).Perm ns)
  ⟨none, [], ns, rfl, S4.ex (Same.new hD _), Ex.new _ hD, by rw [upd_ne lfD]; exact e4, upd_same, rfl, List.Perm.refl _⟩ ?_ ?_
 ·rintro i σ' HE hi ⟨y, rs, ls, rfl, SE, EE, lE, dE, hrs, hperm⟩
  have aE : HE a = some (.lst (ns.map V.int)) := EE _ _ (fun z => z.elim oa fun z => z.elim alf aD) ea4
  refine ⟨⟨_, .int ns[i], SqL.of aE, by rw [List.getElem?_map, List.getElem?_eq_getElem hi]; rfl⟩, fun x' H' yl => ?_⟩
  obtain ⟨rfl, _⟩ := yl
  refine comp_true ?_
  have hNl : rs.length + ls.length = ns.length := by
   have := hperm.length_eq
   rw [List.length_append] at this
   exact this
  have hml : (ls.map V.int).length = ls.length := List.length_map _
  refine ⟨_, rfl, .inl ⟨rfl, _, SqL.of lE⟩, _, rfl, _, rfl, lf, _, rfl, .inl (SqL.of lE), d, p, _, rfl, SE, by rw [hml]; omega, fun r HF r0 r1 SF oF => ?_⟩
  rw [hml] at r1
  have lF : HF lf = some (.lst (ls.map V.int)) := (oF lf olf).trans lE
  have dF : HF D = some (.lst (rs.map V.int)) := (oF D oD).trans dE
  have hrn : r.toNat < ls.length := by omega
  obtain ⟨wv, hwv⟩ : ∃ wv, wv = ls[r.toNat] := ⟨_, rfl⟩
  refine ⟨lf, _, r, r.toNat, .int wv, rfl, rfl, lF, by omega, by omega, by rw [hml]; exact seqIndex_of r0 (by omega), by rw [List.getElem?_map, List.getElem?_eq_getElem hrn, hwv]; rfl, ?_⟩
  rw [erase_map V.int ls r.toNat]
  refine ⟨rs.map V.int, by rw [upd_ne (Ne.symm lfD)]; exact dF, ?_, ?_⟩
  ·rw [List.length_map, hrs]; exact small1000 (by omega)
  ·refine ⟨_, rs ++ [wv], ls.eraseIdx r.toNat, rfl, ?_, ?_, ?_, ?_, by rw [List.length_append, List.length_singleton, hrs], ?_⟩
   ·exact (SF.off2 olf olp).off2 oD oDp
   ·exact EE.trans ((oF.ex.wide fun b h => .inl h).trans ((Ex.put _ (.inr (.inl rfl))).trans (Ex.put _ (.inr (.inr rfl)))))
   ·rw [upd_ne lfD, upd_same]
   ·rw [upd_same, List.map_append]; rfl
   ·refine List.Perm.trans ?_ hperm
    rw [List.append_assoc]
    refine List.Perm.append_left rs ?_
    show (wv :: ls.eraseIdx r.toNat).Perm ls
    rw [hwv]
    exact perm_erase hrn
 rintro σ' HE ⟨y, R, ls, rfl, SE, EE, _, dE, hrs, hperm⟩
 have aE : HE a = some (.lst (ns.map V.int)) := EE _ _ (fun z => z.elim oa fun z => z.elim alf aD) ea4
 refine ⟨⟨_, SqL.of aE, by rw [nml]; exact Nat.le_refl _⟩, ?_⟩
 have Rb : ∀ x ∈ R, 0 ≤ x ∧ x < 2 ^ 95 := fun x hx => by
  have hm := (hperm.mem_iff (a := x)).mp (List.mem_append_left _ hx)
  exact ⟨rise.bd x hm, hbd x hm⟩
 have Nb : ∀ x ∈ ns, 0 ≤ x ∧ x < 2 ^ 95 := fun x hm => ⟨rise.bd x hm, hbd x hm⟩
 have E34 : Ex (· = d) H3 HE := fun b o nb' hb => by
  have hbl : b ≠ lf := fun z => by rw [z, hlf] at hb; cases hb
  have h1 := E4 b o nb' hb
  have hbD : b ≠ D := fun z => by rw [z, hD] at h1; cases h1
  exact EE b o (fun z => z.elim nb' fun z => z.elim hbl hbD) h1
 have E9 : Ex (· = d) H HE := EH3.trans E34
 clear hperm EE E4 E34 s4 e4 ea4 lfD olf olp alf hlf
 refine fun sd hsd => ?_
 have oS : sd ≠ d := SE.out hsd
 have oSp : sd ≠ p := SE.outp hsd
 have hsH : H sd = none := exN SE E9 hsd
 have DS : D ≠ sd := ne_of_none dE hsd
 have aS : a ≠ sd := ne_of_none aE hsd
 have s10 := Same.new hsd (.dK [])
 have S10 := SE.ex s10
 have d10 := s10 _ _ dE
 have a10 := s10 _ _ aE
 have E10 : Ex (· = d) H (upd HE sd (.dK [])) := E9.trans (Ex.same s10)
 have so10 : SumsOk (upd HE sd (.dK [])) sd 0 := ⟨[], [], upd_same, rfl, List.nodup_nil, (fun _ h => nomatch h), Nat.le_refl _⟩
 generalize upd HE sd (.dK []) = HS at s10 S10 d10 a10 E10 so10 ⊢
 have exS : ∀ {H' : Hp}, Ex (fun b => b = d ∨ b = sd) HS H' → H' D = some (.lst (R.map V.int)) ∧ H' a = some (.lst (ns.map V.int)) := fun E' => ⟨E' _ _ (fun z => z.elim oD fun z => DS z) d10, E' _ _ (fun z => z.elim oa fun z => aS z) a10⟩
 dsimp only [gName]
 refine seq_post (fun σ' H' => ∃ x7, σ' = [some (.ref d), some (.int x), some (.int nv), some (.ref a), some (.ref lf), some (.ref D), some (.ref sd), x7, none, none] ∧ Sto H' d p ∧ Ex (fun b => b = d ∨ b = sd) HS H' ∧ SumsOk H' sd 9) (fun N hN => ?_) ?_
 ·refine ⟨_, rfl, d, p, 2, rfl, S10, by decide, fun r11 H11 _ _ S11 o11 => ⟨rfl, _, rfl, ?_⟩⟩
  have E11 : Ex (fun b => b = d ∨ b = sd) HS H11 := o11.ex.wide fun b h => .inl h
  have so11 : SumsOk H11 sd 0 := so10.stay fun h => (o11 _ oS).trans h
  refine ite2 (fun _ => ?_) (fun _ => hN _ _ ⟨none, rfl, S11, E11, so11.upto (by omega)⟩)
  refine ⟨_, rfl, 1, nv, rfl, ⟨by decide, by decide, by omega, by omega⟩, ?_⟩
  refine for_range (lo := 1) (n := (nv - 1).toNat) (fun i σ H' => ∃ x7, σ = [some (.ref d), some (.int x), some (.int nv), some (.ref a), some (.ref lf), some (.ref D), some (.ref sd), x7, none, none] ∧ Sto H' d p ∧ Ex (fun b => b = d ∨ b = sd) HS H' ∧ SumsOk H' sd i) ⟨_, rfl, S11, E11, so11⟩ ?_ ?_
  ·rintro i σ H1 hi ⟨x7, rfl, S12, E12, so12⟩
   have d2 := (exS E12).1
   obtain ⟨x1, h1, m1⟩ := pick_int R (r := 1 + (i : Int) - 1) (by omega) (by omega)
   obtain ⟨x2, h2, m2⟩ := pick_int R (r := 1 + (i : Int)) (by omega) (by omega)
   have b1 := Rb x1 m1
   have b2 := Rb x2 m2
   obtain ⟨kvs, e2, len2, so13⟩ := so12.put (x := x1 + x2) (by omega) (by omega)
   exact ⟨_, rfl, _, rfl, _, rfl, _, _, rfl, rfl, D, _, _, _, rfl, rfl, SqL.of d2, h1, _, rfl, _, rfl, D, _, _, _, rfl, rfl, SqL.of d2, h2, _, _, rfl, rfl, sd, _, rfl, DPut.k (k := Sum.inl (x1 + x2)) e2 (small1000 (by omega)), _, rfl, S12.off2 oS oSp, E12.trans (Ex.put _ (.inr rfl)), so13⟩
  ·rintro σ H1 ⟨x7, rfl, S12, E12, so12⟩
   exact hN _ _ ⟨_, rfl, S12, E12, so12.upto (by omega)⟩
 rintro σ' H12 ⟨x7, rfl, S12, E12, so12⟩
 refine seq_post (fun σ' H' => σ' = [some (.ref d), some (.int x), some (.int nv), some (.ref a), some (.ref lf), some (.ref D), some (.ref sd), x7, none, none] ∧ Sto H' d p ∧ Ex (fun b => b = d ∨ b = sd) HS H' ∧ SumsOk H' sd 10) (fun N hN => ?_) ?_
 ·refine ⟨_, rfl, d, p, 4, rfl, S12, by decide, fun r13 H13 _ _ S13 o13 => ⟨rfl, _, rfl, ?_⟩⟩
  have E13 : Ex (fun b => b = d ∨ b = sd) HS H13 := E12.trans (o13.ex.wide fun b h => .inl h)
  have so13 : SumsOk H13 sd 9 := so12.stay fun h => (o13 _ oS).trans h
  refine ite2 (fun _ => ?_) (fun _ => iteF (hN _ _ ⟨rfl, S13, E13, so13.more⟩))
  refine ⟨_, rfl, _, _, rfl, rfl, _, rfl, ite2 (fun _ => ?_) (fun _ => hN _ _ ⟨rfl, S13, E13, so13.more⟩)⟩
  have d2 := (exS E13).1
  have Rne : R ≠ [] := fun z => by rw [z] at hrs; simp at hrs; omega
  obtain ⟨x1, h1, m1⟩ := pick_int R (r := 0) (by omega) (by omega)
  obtain ⟨x2, h2, m2⟩ := last_int Rne
  have b1 := Rb x1 m1
  have b2 := Rb x2 m2
  obtain ⟨kvs, e2, len2, so14⟩ := so13.put (x := x1 + x2) (by omega) (by omega)
  exact ⟨_, rfl, _, rfl, D, _, _, _, rfl, rfl, SqL.of d2, h1, _, rfl, _, rfl, D, _, _, _, rfl, rfl, SqL.of d2, h2, _, _, rfl, rfl, sd, _, rfl, DPut.k (k := Sum.inl (x1 + x2)) e2 (small1000 (by omega)), hN _ _ ⟨rfl, S13.off2 oS oSp, E13.trans (Ex.put _ (.inr rfl)), so14⟩⟩
 rintro σ' H14 ⟨rfl, S14, E14, so14⟩
 refine ⟨_, rfl, d, p, 10007, rfl, S14, by decide, fun z H15 z0 z1 S15 o15 => ?_⟩
 have E15 : Ex (fun b => b = d ∨ b = sd) HS H15 := E14.trans (o15.ex.wide fun b h => .inl h)
 have so15 : SumsOk H15 sd 10 := so14.stay fun h => (o15 _ oS).trans h
 refine ⟨_, rfl, _, _, rfl, rfl, (by show (0 : Int) < 4; decide), _, rfl, _, _, rfl, rfl, (by show (0 : Int) < 11; decide), (by show 3 ≤ sizeLine; decide), fun l hl => ?_⟩
 have s16 := Same.new hl (.lst [.int 0, .int (z % 4), .int (z % 11)])
 refine ⟨_, rfl, d, p, 3, rfl, S15.ex s16, by decide, fun r17 H17 c0 c1 S17 o17 => ?_⟩
 obtain ⟨cv, hcv, mcv⟩ := pick_int [0, z % 4, z % 11] c0 c1
 have cb : 0 ≤ cv ∧ cv ≤ 10 := by
  simp only [List.mem_cons, List.not_mem_nil, or_false] at mcv
  omega
 refine ⟨l, _, _, .int cv, rfl, rfl, SqL.of ((o17 l (S15.out hl)).trans upd_same), hcv, _, rfl, by omega, by omega, ?_⟩
 have E17 : Ex (fun b => b = d ∨ b = sd) HS H17 := E15.trans ((Ex.trans (Ex.same s16) o17.ex).wide fun b h => .inl h)
 have so17 : SumsOk H17 sd 10 := (so15.stay fun h => s16 _ _ h).stay fun h => (o17 _ oS).trans h
 refine for_range (lo := 0) (n := cv.toNat) (fun i σ H' => ∃ (x7 x8 x9 : Option V), σ = [some (.ref d), some (.int z), some (.int nv), some (.ref a), some (.ref lf), some (.ref D), some (.ref sd), x7, x8, x9] ∧ Sto H' d p ∧ Ex (fun b => b = d ∨ b = sd) HS H' ∧ SumsOk H' sd 10)
  ⟨_, _, _, rfl, S17, E17, so17⟩ ?_ ?_
 ·rintro i σ H18 hi ⟨x7, x8, x9, rfl, S18, E18, so18⟩
  refine ⟨_, rfl, _, rfl, _, rfl, d, p, nv, rfl, S18, by omega, fun r1 H19 r10 r11 S19 o19 => ?_⟩
  have E19 : Ex (fun b => b = d ∨ b = sd) HS H19 := E18.trans (o19.ex.wide fun b h => .inl h)
  obtain ⟨x1, h1, m1⟩ := pick_int ns (r := r1) r10 (by omega)
  refine ⟨a, _, _, _, rfl, rfl, SqL.of (exS E19).2, h1, ?_⟩
  refine ⟨_, rfl, _, rfl, _, rfl, d, p, nv, rfl, S19, by omega, fun r2 H20 r20 r21 S20 o20 => ?_⟩
  have E20 : Ex (fun b => b = d ∨ b = sd) HS H20 := E19.trans (o20.ex.wide fun b h => .inl h)
  obtain ⟨x2, h2, m2⟩ := pick_int ns (r := r2) r20 (by omega)
  refine ⟨a, _, _, _, rfl, rfl, SqL.of (exS E20).2, h2, ?_⟩
  have b1 := Nb x1 m1
  have b2 := Nb x2 m2
  have so20 : SumsOk H20 sd 10 := (so18.stay fun h => (o19 _ oS).trans h).stay fun h => (o20 _ oS).trans h
  dsimp only [gName]
  refine seq_post (fun σ' H' => ∃ ov : Int, σ' = [some (.ref d), some (.int z), some (.int nv), some (.ref a), some (.ref lf), some (.ref D), some (.ref sd), some (.int (0 + (i : Int))), some (.int x1), some (.int ov)] ∧ 0 ≤ ov ∧ ov < 2 ^ 95 ∧ Sto H' d p ∧ Ex (fun b => b = d ∨ b = sd) HS H' ∧ SumsOk H' sd 10) (fun N hN => ?_) ?_
  ·refine ⟨_, rfl, d, p, 6, rfl, S20, by decide, fun r3 H21 _ _ S21 o21 => ⟨rfl, _, rfl, ?_⟩⟩
   have E21 : Ex (fun b => b = d ∨ b = sd) HS H21 := E20.trans (o21.ex.wide fun b h => .inl h)
   have so21 : SumsOk H21 sd 10 := so20.stay fun h => (o21 _ oS).trans h
   refine ite2 (fun _ => ?_) (fun _ => hN _ _ ⟨x2, rfl, b2.1, b2.2, S21, E21, so21⟩)
   exact ⟨_, rfl, d, p, 40, rfl, S21, by decide, fun r4 H22 r40 r41 S22 o22 => hN _ _ ⟨r4, rfl, r40, by omega, S22, E21.trans (o22.ex.wide fun b h => .inl h), so21.stay fun h => (o22 _ oS).trans h⟩⟩
  rintro σ' H23 ⟨ov, rfl, v0, v1, S23, E23, so23⟩
  obtain ⟨kvs, ks, k1, k2, k3, k4, k5⟩ := id so23
  have hkl : kvs.length = ks.length := by have := congrArg List.length k2; simpa using this
  refine ⟨_, rfl, sd, kvs, rfl, k1, _, _, rfl, rfl, _, rfl, ite2 (fun c => ?_) (fun _ => ⟨_, _, _, rfl, S23, E23, so23⟩)⟩
  have c' : (kvs.length : Int) < 10 := of_decide_eq_true c
  have so24 : SumsOk H23 sd 9 := ⟨kvs, ks, k1, k2, k3, k4, by omega⟩
  obtain ⟨kvs', e2, len2, so25⟩ := so24.put (x := x1 + ov) (by omega) (by omega)
  exact ⟨_, rfl, _, rfl, _, rfl, _, _, rfl, rfl, sd, _, rfl, DPut.k (k := Sum.inl (x1 + ov)) e2 (small1000 (by omega)), _, _, _, rfl, S23.off2 oS oSp, E23.trans (Ex.put _ (.inr rfl)), so25⟩
 ·rintro σ H18 ⟨x7, x8, x9, rfl, S18, E18, kvs, ks, k1, k2, k3, k4, k5⟩
  refine ⟨_, rfl, _, rfl, sd, kvs, ks, rfl, k1, k2, by omega, fun b ss hb ps ss' => ⟨two_le, fun t ht => ?_⟩⟩
  have sb := Same.new hb (.lst (ss.map V.int))
  have st := Same.new ht (.tup [.ref a, .ref b])
  have a18 := (exS E18).2
  have EH : Ex (· = d) H H18 := fun c o nc hc => E18 c o (fun z => z.elim nc fun z => by rw [z, hsH] at hc; cases hc) (E10 c o nc hc)
  have fr : ∀ x, H18 x = none → H x = none := fun x hx => exN S18 EH hx
  refine q t a b ns ss _ (S18.ex (sb.trans st)) (EH.trans (Ex.same (sb.trans st))) (fr t (none_of_same sb ht)) naH (fr b hb) (ne_of_none a18 hb) upd_same (st _ _ (sb _ _ a18)) (st _ _ upd_same) ⟨rise, ⟨strict ss' (ps.nodup_iff.mpr k3), fun x hx => (k4 x (ps.mem_iff.mp hx)).1⟩, by omega, by omega, by rw [ps.length_eq]; exact k5⟩
end
abbrev sRise : Stmt := top 10
abbrev sIsP : Stmt := top 11
abbrev sCkP : Stmt := top 12
abbrev sAdd : Stmt := top 14
structure IsPl (H : Hp) (t a b : Addr) (ns ss : List Int) : Prop where
 t : H t = some (.tup [.ref a, .ref b])
 a : H a = some (.lst (ns.map V.int))
 b : H b = some (.lst (ss.map V.int))
 ok : PlanOk ns ss
theorem IsPl.same {H H' : Hp} {t a b : Addr} {ns ss : List Int} (h : IsPl H t a b ns ss) (g : Same H H') : IsPl H' t a b ns ss := ⟨g _ _ h.t, g _ _ h.a, g _ _ h.b, h.ok⟩
def addUp (ss : List Int) (x y : Int) : Bool := decide (x ≠ y) && ss.contains (x + y)
def spRise : Sp := fun vs H Q _ => ∃ (a : Addr) (xs : List Int) (few : Int), vs = [.ref a, .int few] ∧ H a = some (.lst (xs.map V.int)) ∧ Rise xs ∧ few ≤ (xs.length : Int) ∧ xs.length ≤ 10 ∧ Q (.bl true) H
def spIsP : Sp := fun vs H Q _ => ∃ (t a b : Addr) (ns ss : List Int), vs = [.ref t] ∧ IsPl H t a b ns ss ∧ Q (.bl true) H
def spCkP : Sp := fun vs H Q _ => ∃ (t a b : Addr) (ns ss : List Int), vs = [.ref t] ∧ IsPl H t a b ns ss ∧ Q .non H
def spAdd : Sp := fun vs H Q _ => ∃ (t a b : Addr) (ns ss : List Int) (x y : Int), vs = [.ref t, .int x, .int y] ∧ IsPl H t a b ns ss ∧ Q (.bl (addUp ss x y)) H
section
variable {f wh ri ip cp cn ad : Addr} {fd whd rid ipd cpd cnd add : FuncData} {t10 : Tok}
theorem scRise : FnScope ["thing", "fewest", "below", "number"] ["thing", "fewest"] (defScope sRise) := ⟨rfl, rfl, rfl, by decide +kernel, rfl, by decide +kernel, by decide +kernel⟩
theorem ok_rise (F : Fun K "is_rising_list" "is_rising_list" sRise f fd) (B : Bt2 mg) (m10 : mg "MOST" = some (.int 10 t10))
  (GW : FnOk P w K mg base CX0 1 wh whd ["thing"] spWhole) (bW : Binds K whd ["thing"] []) (kW : Kee K wh) (mW : mg "is_whole" = some (.ref wh)) : FnOk P w K mg base CX0 2 f fd ["thing", "fewest"] spRise := by
 refine F.ok scRise (fun vs H Q E h => ?_) (fun cdv A outer s H vs Q E hr h => ?_)
 ·obtain ⟨a, xs, few, rfl, _⟩ := h
  rfl
 obtain ⟨a, xs, few, rfl, ha, rise, l1, l2, q⟩ := h
 refine ⟨_, (@pss_cons _ _ _ _ _ (ps_if (PW.pt (pw_or (pt_not (pt_val (pe_callB (call_isi "list") rfl B.isinstance boot_isinstance (pa_cons (pv 0) (pa_cons (pe_bltn (v := .ty "list") rfl B.list PyProof.Rows.boot_list rfl) pa_nil))))) (pw_or1 (pt_not (pt_chain op_le op_le (pv 1) (pe_callB call_len_seq rfl B.len PySem.boot_len (pa_cons (pv 0) pa_nil)) (pe_glob (v := .int 10) rfl m10 ⟨_, rfl⟩)))))) (@pss_one _ _ _ (ps_ret pe_bl)) pss_nil) (@pss_cons _ _ _ _ _ (ps_set (i := 2) scRise.nd rfl (Or.inl rfl) (pe_un un_neg pe_int)) (@pss_cons _ _ _ _ _ (ps_for PassesOwn.never rfl (pi_list (pv 0)) (pg_name (i := 3) scRise.nd rfl (Or.inl rfl)) (@pss_cons _ _ _ _ _ (ps_if (PW.pt (pw_or (pt_not (pt_val (pe_call GW hr rfl mW kW bW .nil pass0 (pa_cons (pv 3) pa_nil)))) (pw_or1 (pt_cmpR op_le (pv 3) (pv 2) (nomark _))))) (@pss_one _ _ _ (ps_ret pe_bl)) pss_nil) (@pss_one _ _ _ (ps_set (i := 2) scRise.nd rfl (Or.inl rfl) (pv 3))))) (@pss_one _ _ _ (ps_ret pe_bl))))), ?_⟩
 have hml : (xs.map V.int).length = xs.length := List.length_map _
 refine ⟨_, rfl, _, _, true, rfl, .lst ha, rfl, _, rfl, iteF ?_⟩
 refine ⟨_, rfl, _, rfl, a, _, rfl, .inl (SqL.of ha), _, _, rfl, rfl, _, rfl, ite2 (fun _ => ?_) (fun c => absurd (decide_eq_true (by rw [hml]; exact l1)) c)⟩
 refine ⟨_, _, rfl, rfl, _, rfl, ite2 (fun c => ?_) (fun _ => ?_)⟩
 ·have e : decide ((((xs.map V.int).length : Nat) : Int) ≤ 10) = true := decide_eq_true (by rw [hml]; omega)
  have c' : (!decide ((((xs.map V.int).length : Nat) : Int) ≤ 10)) = true := c
  rw [e] at c'
  cases c'
 refine ⟨_, rfl, _, rfl, a, rfl, ⟨_, SqL.of ha⟩, ?_⟩
 refine for_list (xs := xs.map V.int) (fun i σ H' => ∃ (bl : Int) (y : Option V), σ = [some (.ref a), some (.int few), some (.int bl), y] ∧ H' = H ∧ ∀ z ∈ xs.drop i, bl < z)
  ⟨-1, none, rfl, rfl, fun z hz => by have := rise.bd z (List.mem_of_mem_drop hz); omega⟩ (fun i σ H' _ ⟨_, _, _, e, _⟩ => by rw [e]; exact SqL.of ha) ?_ ?_
 ·rintro i x σ H' hx ⟨bl, y, rfl, rfl, hb⟩
  rw [List.getElem?_map] at hx
  cases ex : xs[i]? with
  | none => rw [ex] at hx; cases hx
  | some v =>
   rw [ex] at hx
   cases hx
   have hi : i < xs.length := (List.getElem?_eq_some_iff.mp ex).1
   have ev : xs[i] = v := (List.getElem?_eq_some_iff.mp ex).2
   have hd : xs.drop i = v :: xs.drop (i + 1) := by rw [List.drop_eq_getElem_cons hi, ev]
   have hbv : bl < v := hb v (by rw [hd]; exact List.mem_cons_self)
   refine ⟨_, rfl, v, rfl, _, rfl, iteF ?_⟩
   refine ⟨_, rfl, _, rfl, _, _, rfl, rfl, _, rfl, ite2 (fun c => ?_) (fun _ => ?_)⟩
   ·have c' : v ≤ bl := of_decide_eq_true c
    omega
   ·refine ⟨_, rfl, v, _, rfl, rfl, fun z hz => ?_⟩
    have up := rise.up
    rw [← List.take_append_drop i xs, List.pairwise_append, hd, List.pairwise_cons] at up
    exact up.2.1.1 z hz
 ·rintro σ H' ⟨bl, y, rfl, rfl, hb⟩
  exact q
theorem scIsP : FnScope ["thing"] ["thing"] (defScope sIsP) := ⟨rfl, rfl, rfl, by decide +kernel, rfl, by decide +kernel, by decide +kernel⟩
theorem ok_isP (F : Fun K "is_plan" "is_plan" sIsP f fd) (B : Bt2 mg) (GI : FnOk P w K mg base CX0 2 ri rid ["thing", "fewest"] spRise) (bI : Binds K rid ["thing", "fewest"] []) (kI : Kee K ri) (mI : mg "is_rising_list" = some (.ref ri)) : FnOk P w K mg base CX0 3 f fd ["thing"] spIsP := by
 refine F.ok scIsP (fun vs H Q E h => ?_) (fun cdv A outer s H vs Q E hr h => ?_)
 ·obtain ⟨t, a, b, ns, ss, rfl, _⟩ := h
  rfl
 obtain ⟨t, a, b, ns, ss, rfl, pl, q⟩ := h
 refine ⟨_, (@pss_cons _ _ _ _ _ (ps_if (PW.pt (pw_or (pt_not (pt_val (pe_callB (call_isi "tuple") rfl B.isinstance boot_isinstance (pa_cons (pv 0) (pa_cons (pe_bltn (v := .ty "tuple") rfl B.tuple PyProof.Rows.boot_tuple rfl) pa_nil))))) (pw_or1 (pt_cmpR op_ne (pe_callB call_len_seq rfl B.len PySem.boot_len (pa_cons (pv 0) pa_nil)) pe_int (nomark _))))) (@pss_one _ _ _ (ps_ret pe_bl)) pss_nil) (@pss_one _ _ _ (ps_ret (pe_and (pe_call GI hr rfl mI kI bI .nil pass0 (pa_cons (pe_ix ix_tup (pv 0) pe_int (fun _ _ => rfl)) (pa_cons pe_int pa_nil))) (pe_one (pe_call GI hr rfl mI kI bI .nil pass0 (pa_cons (pe_ix ix_tup (pv 0) pe_int (fun _ _ => rfl)) (pa_cons pe_int pa_nil)))))))), ?_⟩
 refine ⟨_, rfl, _, _, true, rfl, .tup pl.t, rfl, _, rfl, iteF ?_⟩
 refine ⟨_, rfl, t, _, rfl, .inr (SqT.of pl.t), rfl, _, rfl, iteF ?_⟩
 refine ⟨_, rfl, t, _, 0, _, rfl, rfl, SqT.of pl.t, rfl, a, ns, 1, rfl, pl.a, pl.ok.n, by have := pl.ok.n1; omega, pl.ok.n2, _, rfl, iteT ?_⟩
 exact ⟨_, rfl, t, _, 1, _, rfl, rfl, SqT.of pl.t, rfl, b, ss, 0, rfl, pl.b, pl.ok.s, by omega, pl.ok.s2, q⟩
theorem scCkP : FnScope ["plan"] ["plan"] (defScope sCkP) := ⟨rfl, rfl, rfl, by decide +kernel, rfl, by decide +kernel, by decide +kernel⟩
theorem ok_ckP (F : Fun K "check_plan" "check_plan" sCkP f fd) (GP : FnOk P w K mg base CX0 3 ip ipd ["thing"] spIsP) (bP : Binds K ipd ["thing"] []) (kP : Kee K ip) (mP : mg "is_plan" = some (.ref ip)) : FnOk P w K mg base CX0 4 f fd ["plan"] spCkP := by
 refine F.ok scCkP (fun vs H Q E h => ?_) (fun cdv A outer s H vs Q E hr h => ?_)
 ·obtain ⟨t, a, b, ns, ss, rfl, _⟩ := h
  rfl
 obtain ⟨t, a, b, ns, ss, rfl, pl, q⟩ := h
 refine ⟨_, (@pss_one _ _ _ (ps_if (pt_not (pt_val (pe_call GP hr rfl mP kP bP .nil pass0 (pa_cons (pv 0) pa_nil)))) (@pss_one _ _ _ ps_never) pss_nil)), ?_⟩
 exact ⟨_, rfl, t, a, b, ns, ss, rfl, pl, _, rfl, iteF q⟩
theorem scAdd : FnScope ["plan", "one", "other"] ["plan", "one", "other"] (defScope sAdd) := ⟨rfl, rfl, rfl, by decide +kernel, rfl, by decide +kernel, by decide +kernel⟩
theorem ok_add (F : Fun K "add_up" "add_up" sAdd f fd) : FnOk P w K mg base CX0 1 f fd ["plan", "one", "other"] spAdd := by
 refine F.ok scAdd (fun vs H Q E h => ?_) (fun cdv A outer s H vs Q E hr h => ?_)
 ·obtain ⟨t, a, b, ns, ss, x, y, rfl, _⟩ := h
  rfl
 obtain ⟨t, a, b, ns, ss, x, y, rfl, pl, q⟩ := h
 refine ⟨_, (@pss_one _ _ _ (ps_ret (pe_and (pe_cmpR op_ne (pv 1) (pv 2) (nomark _)) (pe_one (pe_cmpR (op_inI K) (pe_op op_add (pv 1) (pv 2)) (pe_ix ix_tup (pv 0) pe_int (fun _ _ => rfl)) rfl))))), ?_⟩
 have e1 : (!decide (V.int x = V.int y)) = decide (x ≠ y) := by
  rw [← decide_not]
  exact decide_eq_decide.mpr (not_congr ⟨fun h => V.int.inj h, fun h => by rw [h]⟩)
 unfold addUp at q
 refine ⟨_, rfl, _, rfl, rfl, _, rfl, ?_⟩
 rw [e1]
 refine ite2 (fun c => ?_) (fun c => ?_)
 ·rw [c, Bool.true_and] at q
  exact ⟨_, rfl, _, rfl, _, _, rfl, rfl, _, rfl, t, _, 1, _, rfl, rfl, SqT.of pl.t, rfl, b, x + y, ss, rfl, rfl, SqL.of pl.b, q⟩
 ·rw [Bool.eq_false_iff.mpr c, Bool.false_and] at q
  exact q
end
def cnt (m : Nat) : Nat := ((List.range 10).filter fun k => m.testBit k).length
theorem cnt_dec : ∀ m < 1024, ∀ k < 10, m.testBit k = true → cnt (m - 2 ^ k) + 1 = cnt m ∧ m - 2 ^ k < m ∧ (m - 2 ^ k).testBit k = false := by decide +kernel
theorem cnt_zero : ∀ m < 1024, cnt m = 0 → m = 0 := by decide +kernel
theorem cnt_le : ∀ m < 1024, cnt m ≤ 10 := by decide +kernel
theorem bit_lt {n m k : Nat} (h : m < 2 ^ n) (hb : m.testBit k = true) : k < n := by
 rcases Nat.lt_or_ge k n with z | z
 ·exact z
 ·rw [Nat.testBit_lt_two_pow (Nat.lt_of_lt_of_le h (Nat.pow_le_pow_right (by decide) z))] at hb
  cases hb
theorem whole_bit {n k : Nat} (h : k < n) : (2 ^ n - 1).testBit k = true := by rw [Nat.testBit_two_pow_sub_one]; exact decide_eq_true h
theorem pow_le : ∀ n < 11, 2 ^ n ≤ 1024 := by decide +kernel
theorem bits_and : ∀ m < 1024, ∀ k < 10, ((m &&& 2 ^ k) != 0) = m.testBit k := by decide +kernel
section
variable (near : Nat → List Nat) (ends : Nat → Bool)
def canF : Nat → Nat → Nat → Bool
 | 0, _, e => ends e
 | m + 1, left, e => (near e).any fun k => left.testBit k && canF m (left - 2 ^ k) k
def can (left e : Nat) : Bool := canF near ends (cnt left) left e
def fst (left e : Nat) : Option Nat := (near e).find? fun k => left.testBit k && can near ends (left - 2 ^ k) k
def pathF : Nat → Nat → Nat → List Nat
 | 0, _, _ => []
 | m + 1, left, e => match fst near ends left e with
  | none => []
  | some k => k :: pathF m (left - 2 ^ k) k
def path (left e : Nat) : List Nat := pathF near ends (cnt left) left e
structure NearOk (n : Nat) : Prop where
 n10 : n ≤ 10
 lt : ∀ e ≤ n, ∀ k ∈ near e, k < n
 up : ∀ e ≤ n, (near e).Pairwise (· < ·)
variable {near ends}
theorem can_zero {e : Nat} : can near ends 0 e = ends e := rfl
theorem any_congr' {l : List Nat} {p q : Nat → Bool} (h : ∀ k ∈ l, p k = q k) : l.any p = l.any q := by
 induction l with
 | nil => rfl
 | cons a r ih => rw [List.any_cons, List.any_cons, h a List.mem_cons_self, ih fun k hk => h k (List.mem_cons_of_mem _ hk)]
theorem can_succ {n left e : Nat} (N : NearOk near n) (hl : left < 1024) (h0 : left ≠ 0) (he : e ≤ n) : can near ends left e = (near e).any fun k => left.testBit k && can near ends (left - 2 ^ k) k := by
 unfold can
 cases hc : cnt left with
 | zero => exact absurd (cnt_zero left hl hc) h0
 | succ m =>
  show ((near e).any fun k => left.testBit k && canF near ends m (left - 2 ^ k) k) = _
  refine any_congr' fun k hk => ?_
  cases hb : left.testBit k with
  | false => rfl
  | true =>
   have hk10 : k < 10 := Nat.lt_of_lt_of_le (N.lt e he k hk) N.n10
   have := (cnt_dec left hl k hk10 hb).1
   have em : cnt (left - 2 ^ k) = m := by omega
   rw [em]
theorem fst_some {n left e k : Nat} (N : NearOk near n) (he : e ≤ n) (h : fst near ends left e = some k) : k < n ∧ left.testBit k = true ∧ can near ends (left - 2 ^ k) k = true := by
 have h1 := List.find?_some h
 have h2 := List.mem_of_find?_eq_some h
 rw [Bool.and_eq_true] at h1
 exact ⟨N.lt e he k h2, h1.1, h1.2⟩
theorem can_fst {n left e : Nat} (N : NearOk near n) (hl : left < 1024) (h0 : left ≠ 0) (he : e ≤ n) : can near ends left e = (fst near ends left e).isSome := by
 rw [can_succ N hl h0 he]
 unfold fst
 rw [Bool.eq_iff_iff, List.find?_isSome, List.any_eq_true]
theorem path_zero {e : Nat} : path near ends 0 e = [] := rfl
theorem path_succ {n left e k : Nat} (N : NearOk near n) (hl : left < 1024) (he : e ≤ n) (h : fst near ends left e = some k) : path near ends left e = k :: path near ends (left - 2 ^ k) k := by
 obtain ⟨hk, hb, hc⟩ := fst_some N he h
 have h1 := (cnt_dec left hl k (Nat.lt_of_lt_of_le hk N.n10) hb).1
 unfold path
 rw [← h1]
 show (match fst near ends left e with | none => [] | some j => j :: pathF near ends (cnt (left - 2 ^ k)) (left - 2 ^ j) j) = _
 rw [h]
theorem path_lt {n : Nat} (N : NearOk near n) : ∀ (m left e : Nat), e ≤ n → ∀ k ∈ pathF near ends m left e, k < n
 | 0, _, _, _, k, h => nomatch h
 | m + 1, left, e, he, k, h => by
  have h' : k ∈ (match fst near ends left e with | none => [] | some k => k :: pathF near ends m (left - 2 ^ k) k) := h
  cases hf : fst near ends left e with
  | none => rw [hf] at h'; exact nomatch h'
  | some j =>
   rw [hf] at h'
   have hj := (fst_some N he hf).1
   rcases List.mem_cons.mp h' with z | z
   ·rw [z]; exact hj
   ·exact path_lt N m _ j (Nat.le_of_lt hj) k z
theorem path_len : ∀ (m left e : Nat), (pathF near ends m left e).length ≤ m
 | 0, _, _ => Nat.le_refl _
 | m + 1, left, e => by
  show (match fst near ends left e with | none => [] | some k => k :: pathF near ends m (left - 2 ^ k) k).length ≤ m + 1
  cases fst near ends left e with
  | none => exact Nat.zero_le _
  | some j => exact Nat.succ_le_succ (path_len m _ j)
end
theorem pigeon : ∀ (N : Nat) (l : List Nat), l.Nodup → (∀ x ∈ l, x < N) → l.length ≤ N
 | 0, l, _, h => by
  cases l with
  | nil => exact Nat.le_refl _
  | cons a r => exact absurd (h a List.mem_cons_self) (Nat.not_lt_zero _)
 | N + 1, l, nd, h => by
  by_cases hm : N ∈ l
  ·have h1 := pigeon N (l.erase N) (nd.erase N) fun x hx => by
    have hx' := (List.Nodup.mem_erase_iff nd).mp hx
    have := h x hx'.2
    have hne := hx'.1
    omega
   rw [List.length_erase_of_mem hm] at h1
   omega
  ·have h1 := pigeon N l nd fun x hx => by
    have := h x hx
    have hne : x ≠ N := fun e => hm (e ▸ hx)
    omega
   omega
abbrev sNear : Stmt := top 18
abbrev sNums : Stmt := top 19
abbrev sIni0 : Stmt := inClass (top 20) 0
abbrev sSteps : Stmt := inClass (top 20) 1
def iv (l : List Nat) : List Int := l.map fun k : Nat => (k : Int)
theorem iv_len (l : List Nat) : (iv l).length = l.length := List.length_map _
theorem iv_V (l : List Nat) : (iv l).map V.int = l.map fun k : Nat => V.int (k : Int) := List.map_map
theorem iv_contains (l : List Nat) (e : Nat) : (iv l).contains (e : Int) = l.contains e := by
 rw [Bool.eq_iff_iff, List.contains_iff_mem, List.contains_iff_mem]
 unfold iv
 rw [List.mem_map]
 constructor
 ·rintro ⟨k, hk, h⟩
  have h' : k = e := by omega
  exact h' ▸ hk
 ·exact fun h => ⟨e, h, rfl⟩
def nearP (ns ss : List Int) (x : Int) : List Nat := (List.range ns.length).filter fun k => addUp ss x (ns.getD k 0)
def nearX (ns ss : List Int) (fs : List Nat) (e : Nat) : List Nat := if e < ns.length then nearP ns ss (ns.getD e 0) else fs
def spNear : Sp := fun vs H Q _ => ∃ (t a b : Addr) (ns ss : List Int) (x : Int), vs = [.ref t, .int x] ∧ IsPl H t a b ns ss ∧ ∀ (l : Addr) (H' : Hp), Same H H' → H l = none → H' l = some (.lst ((iv (nearP ns ss x)).map V.int)) → Q (.ref l) H'
def spNums : Sp := fun vs H Q _ => ∃ (t a b p : Addr) (ns ss : List Int) (ks : List Nat), vs = [.ref t, .ref p] ∧ IsPl H t a b ns ss ∧ H p = some (.lst ((iv ks).map V.int)) ∧ ks.length ≤ 1000 ∧ (∀ k ∈ ks, k < ns.length) ∧
 ∀ (l : Addr) (H' : Hp), Same H H' → H l = none → H' l = some (.lst ((ks.map fun k => ns.getD k 0).map V.int)) → Q (.ref l) H'
def NearAt (H : Hp) (nr : Addr) (n : Nat) (near : Nat → List Nat) : Prop := ∃ rs : List Addr, rs.length = n + 1 ∧ H nr = some (.lst (rs.map V.ref)) ∧ ∀ e ≤ n, ∃ r, rs[e]? = some r ∧ H r = some (.lst ((iv (near e)).map V.int))
structure SrT (K : PySem.W.Frag) (C : Addr) : Prop where
 cl : Cls K C
 nA : NoAttr K C "ahead"
 nN : NoAttr K C "near"
 nW : NoAttr K C "whole"
def fs0 (n : Nat) (nr : Addr) : List (Str × V) := [("ahead", .int n), ("near", .ref nr), ("whole", .int ((2 ^ n - 1 : Nat) : Int))]
def spIni0 (C : Addr) : Sp := fun vs H Q _ => ∃ (s t a b fp dx : Addr) (ns ss : List Int) (fs : List Nat), vs = [.ref s, .ref t, .ref fp] ∧ H s = some (.ins C dx []) ∧ IsPl H t a b ns ss ∧ H fp = some (.lst ((iv fs).map V.int)) ∧
 ∀ (nr : Addr) (H' : Hp), Ex (· = s) H H' → H' s = some (.ins C dx (fs0 ns.length nr)) → NearAt H' nr ns.length (nearX ns ss fs) → Q .non H'
def spSteps (C : Addr) : Sp := fun vs H Q _ => ∃ (s dx nr : Addr) (fs : List (Str × V)) (n : Nat) (near : Nat → List Nat) (left e : Nat), vs = [.ref s, .int left, .int e] ∧ H s = some (.ins C dx fs) ∧ fs.lookup ("near" : Str) = some (.ref nr) ∧ NearAt H nr n near ∧ NearOk near n ∧ e ≤ n ∧ left < 1024 ∧
 ∀ (l : Addr) (H' : Hp), Same H H' → H l = none → H' l = some (.lst ((iv ((near e).filter fun k => left.testBit k)).map V.int)) → Q (.ref l) H'
theorem near_ok {ns ss : List Int} {fs : List Nat} (ok : PlanOk ns ss) (h1 : ∀ k ∈ fs, k < ns.length) (h2 : fs.Pairwise (· < ·)) : NearOk (nearX ns ss fs) ns.length where
 n10 := ok.n2
 lt := fun e _ k hk => by
  unfold nearX at hk
  split at hk
  ·exact List.mem_range.mp (List.mem_filter.mp hk).1
  ·exact h1 k hk
 up := fun e _ => by
  unfold nearX
  split
  ·exact List.Pairwise.filter _ List.pairwise_lt_range
  ·exact h2
theorem near_len {near : Nat → List Nat} {n e : Nat} (N : NearOk near n) (he : e ≤ n) : (near e).length ≤ n :=
 pigeon n _ ((N.up e he).imp fun h => Nat.ne_of_lt h) (N.lt e he)
theorem bit_V (left k : Nat) (h : left < 1024) (hk : k < 10) : (Builtin.bitAnd (left : Int) (1 * 2 ^ ((k : Int)).toNat) != 0) = left.testBit k := by
 have e : (1 * 2 ^ ((k : Int)).toNat : Int) = ((2 ^ k : Nat) : Int) := by rw [Int.one_mul, Int.toNat_natCast]; simp
 rw [e, ← bits_and left h k hk]
 unfold Builtin.bitAnd
 simp only [Int.natCast_nonneg, decide_true, Int.toNat_natCast]
 rw [Bool.eq_iff_iff]
 simp only [bne_iff_ne, ne_eq]
 exact not_congr (by omega)
theorem sub_V (left k : Nat) (h : 2 ^ k ≤ left) : ((left : Int) - 1 * 2 ^ ((k : Int)).toNat) = ((left - 2 ^ k : Nat) : Int) := by
 have e : (1 * 2 ^ ((k : Int)).toNat : Int) = ((2 ^ k : Nat) : Int) := by rw [Int.one_mul, Int.toNat_natCast]; simp
 rw [e]; omega
theorem bit_le {left k : Nat} (h : left.testBit k = true) : 2 ^ k ≤ left := Nat.ge_two_pow_of_testBit h
theorem nat_at {l : List Nat} {i k : Nat} (h : l[i]? = some k) : ((iv l).map V.int)[i]? = some (.int (k : Int)) := by rw [iv_V, List.getElem?_map, h]; rfl
theorem at_nat {l : List Nat} {i : Nat} {x : V} (h : ((iv l).map V.int)[i]? = some x) : ∃ k, l[i]? = some k ∧ x = .int (k : Int) := by
 rw [iv_V, List.getElem?_map] at h
 cases e : l[i]? with
 | none => rw [e] at h; cases h
 | some k => rw [e] at h; exact ⟨k, rfl, (Option.some.inj h).symm⟩
theorem nums_of (ns : List Int) (ks : List Nat) : (((List.range ks.length).filter fun _ => true).map fun i => V.int (ns.getD (ks.getD i 0) 0)) = (ks.map fun k => ns.getD k 0).map V.int := by
 rw [fltT, List.map_map]
 have h := congrArg (List.map (V.int ∘ fun k => ns.getD k 0)) (rgD ks 0)
 rw [List.map_map] at h
 exact h
section
variable {f ad nf C : Addr} {fd add nfd : FuncData}
theorem scNear : FnScope ["plan", "number"] ["plan", "number"] (defScope sNear) := ⟨rfl, rfl, rfl, by decide +kernel, rfl, by decide +kernel, by decide +kernel⟩
theorem ok_near (F : Fun K "near_places" "near_places" sNear f fd) (B : Bt3 mg)
  (GA : FnOk P w K mg base CX0 1 ad add ["plan", "one", "other"] spAdd) (bA : Binds K add ["plan", "one", "other"] []) (kA : Kee K ad) (mA : mg "add_up" = some (.ref ad)) : FnOk P w K mg base CX0 2 f fd ["plan", "number"] spNear := by
 refine F.ok scNear (fun vs H Q E h => ?_) (fun cdv A outer s H vs Q E hr h => ?_)
 ·obtain ⟨t, a, b, ns, ss, x, rfl, _⟩ := h
  rfl
 obtain ⟨t, a, b, ns, ss, x, rfl, pl, q⟩ := h
 refine ⟨_, (@pss_one _ _ _ (ps_ret (pe_comp ["place", "other"] rfl (blk_ok (defScope sNear) ["plan", "number"] rfl rfl (by decide +kernel)) (pi_enum rfl B.enumerate (pa_cons (pe_ix ix_tup (pv 0) pe_int (fun _ _ => rfl)) pa_nil)) (fun pins C fp s3 H3 => ⟨(pg_tupK (n := 2) K rfl (pgs_cons (pg_name (i := 0) (show (blkN ["place", "other"] ["plan", "number"]).Nodup by decide +kernel) rfl (Or.inl rfl)) (pgs_cons (pg_name (i := 1) (show (blkN ["place", "other"] ["plan", "number"]).Nodup by decide +kernel) rfl (Or.inl rfl)) pgs_nil))), (pif_one (pt_val (pe_call GA hr rfl mA kA bA .nil pass0 (pa_cons (pv 2) (pa_cons (pv 3) (pa_cons (pv 1) pa_nil)))))), (pv 0)⟩)))), ?_⟩
 have n2 := pl.ok.n2
 have hml : (ns.map V.int).length = ns.length := List.length_map _
 refine ⟨_, rfl, t, _, 0, _, rfl, rfl, SqT.of pl.t, rfl, a, _, rfl, pl.a, fun D hD => ?_⟩
 refine turns_enum (σ := [some (.ref t), some (.int x)]) (xs := ns.map V.int) (fun i => addUp ss x (ns.getD i 0)) (fun i => .int (i : Int)) pl.a hD (by omega) (fun i H' hi g P hP => ?_) (fun i H' hi _ g P hP => ?_) fun H2 g2 e2 => ?_
 ·rw [getD_map_int _ (by rw [hml] at hi; exact hi)]
  exact ⟨_, rfl, _, rfl, _, rfl, t, a, b, ns, ss, x, _, rfl, pl.same g, _, rfl, hP _ Same.rfl'⟩
 ·exact ⟨_, rfl, hP _ Same.rfl'⟩
 ·refine q D H2 g2 hD ?_
  rw [e2, hml, iv_V]
  rfl
theorem scNums : FnScope ["plan", "places"] ["plan", "places"] (defScope sNums) := ⟨rfl, rfl, rfl, by decide +kernel, rfl, by decide +kernel, by decide +kernel⟩
theorem ok_nums (F : Fun K "numbers_at" "numbers_at" sNums f fd) : FnOk P w K mg base CX0 1 f fd ["plan", "places"] spNums := by
 refine F.ok scNums (fun vs H Q E h => ?_) (fun cdv A outer s H vs Q E hr h => ?_)
 ·obtain ⟨t, a, b, p, ns, ss, ks, rfl, _⟩ := h
  rfl
 obtain ⟨t, a, b, p, ns, ss, ks, rfl, pl, hp, h1000, hlt, q⟩ := h
 refine ⟨_, (@pss_one _ _ _ (ps_ret (pe_comp ["place"] rfl (blk_ok (defScope sNums) ["plan", "places"] rfl rfl (by decide +kernel)) (pi_list (pv 1)) (fun pins C fp s3 H3 => ⟨(pg_name (i := 0) (show (blkN ["place"] ["plan", "places"]).Nodup by decide +kernel) rfl (Or.inl rfl)), pif_nil, (pe_ix (ix_listK K) (pe_ix (ix_tupK K) (pv 1) pe_int (fun _ _ => rfl)) (pv 0) (fun _ _ => rfl))⟩)))), ?_⟩
 have hml : ((iv ks).map V.int).length = ks.length := by rw [List.length_map, iv_len]
 refine ⟨_, rfl, p, rfl, ⟨_, SqL.of hp⟩, fun D hD => ?_⟩
 refine turns_list (σ := [some (.ref t), some (.ref p)]) (xs := (iv ks).map V.int) (fun _ => true) (fun i => .int (ns.getD (ks.getD i 0) 0)) (SqL.of hp) hD (by omega) (fun i H' hi g P hP => ?_) (fun i H' hi _ g P hP => ?_) fun H2 g2 e2 => ?_
 ·exact hP _ Same.rfl'
 ·have hi' : i < ks.length := by rw [hml] at hi; exact hi
  have ek : ks[i]? = some ks[i] := List.getElem?_eq_getElem hi'
  have e1 : ((iv ks).map V.int).getD i .non = .int ((ks[i] : Nat) : Int) := by rw [List.getD_eq_getElem?_getD, nat_at ek]; rfl
  have e2 : ks.getD i 0 = ks[i] := by rw [List.getD_eq_getElem?_getD, ek]; rfl
  have hk : ks[i] < ns.length := hlt _ (List.getElem_mem hi')
  rw [e1]
  rw [e2] at hP
  refine ⟨_, rfl, t, _, 0, _, rfl, rfl, SqT.of (pl.same g).t, rfl, _, rfl, a, _, _, _, rfl, rfl, SqL.of (pl.same g).a, atI_nat ?_, hP _ Same.rfl'⟩
  rw [List.getElem?_map, List.getElem?_eq_getElem hk, List.getD_eq_getElem?_getD, List.getElem?_eq_getElem hk]
  rfl
 ·refine q D H2 g2 hD ?_
  rw [e2, hml]
  exact congrArg (fun x => some (HO.lst x)) (nums_of ns ks)
theorem scIni0 : FnScope ["self", "plan", "first_places"] ["self", "plan", "first_places"] (defScope sIni0) := ⟨rfl, rfl, rfl, by decide +kernel, rfl, by decide +kernel, by decide +kernel⟩
theorem ok_ini0 (F : Fun K "__init__" "Steps.__init__" sIni0 f fd) (B : Bt3 mg) (T : SrT K C)
  (GN : FnOk P w K mg base CX0 2 nf nfd ["plan", "number"] spNear) (bN : Binds K nfd ["plan", "number"] []) (kN : Kee K nf) (mN : mg "near_places" = some (.ref nf)) : FnOk P w K mg base CX0 3 f fd ["self", "plan", "first_places"] (spIni0 C) := by
 refine F.ok scIni0 (fun vs H Q E h => ?_) (fun cdv A outer s H vs Q E hr h => ?_)
 ·obtain ⟨s, t, a, b, fp, dx, ns, ss, fs, rfl, _⟩ := h
  rfl
 obtain ⟨s, t, a, b, fp, dx, ns, ss, fs, rfl, hs, pl, hfp, q⟩ := h
 refine ⟨_, (@pss_cons _ _ _ _ _ (ps_fld (pv 0) (pe_callB call_len_seq rfl B.len PySem.boot_len (pa_cons (pe_ix ix_tup (pv 1) pe_int (fun _ _ => rfl)) pa_nil)) rfl) (@pss_cons _ _ _ _ _ (ps_fld (pv 0) (pe_op op_cat (pe_comp ["number"] rfl (blk_ok (defScope sIni0) ["self", "plan", "first_places"] rfl rfl (by decide +kernel)) (pi_list (pe_ix ix_tup (pv 1) pe_int (fun _ _ => rfl))) (fun pins C fp s3 H3 => ⟨(pg_name (i := 0) (show (blkN ["number"] ["self", "plan", "first_places"]).Nodup by decide +kernel) rfl (Or.inl rfl)), pif_nil, (pe_call GN hr rfl mN kN bN .nil pass0 (pa_cons (pv 2) (pa_cons (pv 0) pa_nil)))⟩)) (pe_lst (pa_cons (pe_callTy call_list_of rfl B.list PyProof.Rows.boot_list (pa_cons (pv 2) pa_nil)) pa_nil))) rfl) (@pss_one _ _ _ (ps_fld (pv 0) (pe_op op_sub (pe_op op_shl pe_int (pe_fld (pv 0) rfl)) pe_int) rfl)))), ?_⟩
 have n2 := pl.ok.n2
 have hml : (ns.map V.int).length = ns.length := List.length_map _
 refine ⟨_, rfl, t, _, 0, _, rfl, rfl, SqT.of pl.t, rfl, a, _, rfl, .inl (SqL.of pl.a), _, rfl, s, C, dx, _, rfl, hs, T.cl, T.nA, (by show 0 < 1000; decide), ?_⟩
 rw [hml]
 have ts : t ≠ s := ne_of pl.t hs (by intro z; cases z)
 have as : a ≠ s := ne_of pl.a hs (by intro z; cases z)
 have bs : b ≠ s := ne_of pl.b hs (by intro z; cases z)
 have fps : fp ≠ s := ne_of hfp hs (by intro z; cases z)
 have pl1 : IsPl (upd H s (.ins C dx (putF "ahead" (.int (ns.length : Int)) []))) t a b ns ss := ⟨by rw [upd_ne ts]; exact pl.t, by rw [upd_ne as]; exact pl.a, by rw [upd_ne bs]; exact pl.b, pl.ok⟩
 have fp1 : (upd H s (.ins C dx (putF "ahead" (.int (ns.length : Int)) []))) fp = some (.lst ((iv fs).map V.int)) := by rw [upd_ne fps]; exact hfp
 have s1 : (upd H s (.ins C dx (putF "ahead" (.int (ns.length : Int)) []))) s = some (.ins C dx (putF "ahead" (.int (ns.length : Int)) [])) := upd_same
 have ex1 : Ex (· = s) H (upd H s (.ins C dx (putF "ahead" (.int (ns.length : Int)) []))) := Ex.put _ rfl
 generalize upd H s (.ins C dx (putF "ahead" (.int (ns.length : Int)) [])) = H1 at pl1 fp1 s1 ex1 ⊢
 refine ⟨_, rfl, t, _, 0, _, rfl, rfl, SqT.of pl1.t, rfl, a, rfl, ⟨_, SqL.of pl1.a⟩, fun D hD => ?_⟩
 refine turns_any (n := ns.length) (fun i σ' H' => ∃ (x : Option V) (rs : List Addr), σ' = [x, some (.ref s), some (.ref t), some (.ref fp)] ∧ Same H1 H' ∧ rs.length = i ∧ H' D = some (.lst (rs.map V.ref)) ∧
  ∀ e < i, ∃ r, rs[e]? = some r ∧ r ≠ D ∧ H' r = some (.lst ((iv (nearP ns ss (ns.getD e 0))).map V.int))) ⟨none, [], rfl, Same.new hD _, rfl, upd_same, fun e he => absurd he (Nat.not_lt_zero _)⟩ ?_ ?_
 ·rintro i σ' H' hi ⟨x, rs, rfl, g, hrs, hl, hr'⟩
  have ex : (ns.map V.int)[i]? = some (.int ns[i]) := by rw [List.getElem?_map, List.getElem?_eq_getElem hi]; rfl
  refine ⟨⟨_, _, SqL.of (g _ _ pl1.a), ex⟩, fun y H2 hy => ?_⟩
  obtain ⟨rfl, hy⟩ := hy
  have ey := hy _ (SqL.of (g _ _ pl1.a))
  rw [ex] at ey
  cases ey
  refine comp_true ?_
  refine ⟨_, rfl, _, rfl, t, a, b, ns, ss, ns[i], rfl, pl1.same g, fun l H4 g4 hl4 e4 => ?_⟩
  have hlD : l ≠ D := fun z => by rw [z, hl] at hl4; cases hl4
  refine ⟨_, g4 _ _ hl, small1000 (by rw [List.length_map]; omega), some (.int ns[i]), rs ++ [l], rfl, fun b o hb => ?_, by rw [List.length_append, hrs]; rfl, ?_, fun e he => ?_⟩
  ·have hne : b ≠ D := fun e => by rw [e, hD] at hb; cases hb
   rw [upd_ne hne]
   exact g4 _ _ (g _ _ hb)
  ·rw [upd_same, List.map_append]; rfl
  ·rcases Nat.lt_or_ge e i with z | z
   ·obtain ⟨r, r1, r2, r3⟩ := hr' e z
    exact ⟨r, by rw [List.getElem?_append_left (by omega)]; exact r1, r2, by rw [upd_ne r2]; exact g4 _ _ r3⟩
   ·have ei : e = i := by omega
    subst ei
    refine ⟨l, by rw [List.getElem?_append_right (by omega), hrs, Nat.sub_self]; rfl, hlD, ?_⟩
    rw [upd_ne hlD, e4, List.getD_eq_getElem?_getD, List.getElem?_eq_getElem hi]
    rfl
 ·rintro σ' H' ⟨x, rs, rfl, g, hrs, hl, hr'⟩
  refine ⟨⟨_, SqL.of (g _ _ pl1.a), by rw [hml]; exact Nat.le_refl _⟩, ?_⟩
  refine ⟨_, rfl, fp, _, rfl, .inl (SqL.of (g _ _ fp1)), fun lf hlf => ⟨by show 1 ≤ sizeLine; decide, fun l2 hl2 => ?_⟩⟩
  have lfD : D ≠ lf := ne_of_none hl hlf
  have l2D : D ≠ l2 := ne_of_none (by rw [upd_ne lfD]; exact hl) hl2
  have l2f : lf ≠ l2 := ne_of_none upd_same hl2
  refine ⟨D, l2, _, _, rfl, rfl, by rw [upd_ne l2D, upd_ne lfD]; exact hl, upd_same, by rw [List.length_map, hrs]; exact Nat.le_of_lt (small2000 (by show ns.length + 1 ≤ 2000; omega)), fun nr hnr => ?_⟩
  have sH : Same H1 (upd (upd (upd H' lf (.lst ((iv fs).map V.int))) l2 (.lst [.ref lf])) nr (.lst (rs.map V.ref ++ [.ref lf]))) := fun c o hc => by
   have c1 := g _ _ hc
   have c2 : (upd H' lf (.lst ((iv fs).map V.int))) c = some o := by rw [upd_ne (ne_of_none c1 hlf)]; exact c1
   have c3 : (upd (upd H' lf (.lst ((iv fs).map V.int))) l2 (.lst [.ref lf])) c = some o := by rw [upd_ne (ne_of_none c2 hl2)]; exact c2
   rw [upd_ne (ne_of_none c3 hnr)]; exact c3
  have nrF : lf ≠ nr := ne_of_none (by rw [upd_ne l2f]; exact upd_same) hnr
  have NA : NearAt (upd (upd (upd H' lf (.lst ((iv fs).map V.int))) l2 (.lst [.ref lf])) nr (.lst (rs.map V.ref ++ [.ref lf]))) nr ns.length (nearX ns ss fs) := by
   refine ⟨rs ++ [lf], by rw [List.length_append, hrs]; rfl, by rw [upd_same, List.map_append]; rfl, fun e he => ?_⟩
   rcases Nat.lt_or_ge e ns.length with z | z
   ·obtain ⟨r, r1, r2, r3⟩ := hr' e z
    have c1 := ne_of_none r3 hlf
    have r4 : (upd H' lf (.lst ((iv fs).map V.int))) r = _ := (upd_ne c1).trans r3
    have c2 := ne_of_none r4 hl2
    have r5 : (upd (upd H' lf (.lst ((iv fs).map V.int))) l2 (.lst [.ref lf])) r = _ := (upd_ne c2).trans r4
    refine ⟨r, by rw [List.getElem?_append_left (by omega)]; exact r1, ?_⟩
    rw [upd_ne (ne_of_none r5 hnr), r5]
    unfold nearX
    rw [if_pos z]
   ·have ei : e = ns.length := by omega
    subst ei
    refine ⟨lf, by rw [List.getElem?_append_right (by omega), hrs, Nat.sub_self]; rfl, ?_⟩
    rw [upd_ne nrF, upd_ne l2f, upd_same]
    unfold nearX
    rw [if_neg (Nat.lt_irrefl _)]
  generalize (upd (upd (upd H' lf (.lst ((iv fs).map V.int))) l2 (.lst [.ref lf])) nr (.lst (rs.map V.ref ++ [.ref lf]))) = H5 at sH NA ⊢
  have s5 := sH _ _ s1
  refine ⟨_, rfl, s, C, dx, _, rfl, s5, T.cl, T.nN, (by show 1 < 1000; decide), ?_⟩
  obtain ⟨rs5, q1, q2, q3⟩ := NA
  have nrs : nr ≠ s := ne_of q2 s5 (by intro z; cases z)
  have NA6 : ∀ o, NearAt (upd H5 s o) nr ns.length (nearX ns ss fs) := fun o => ⟨rs5, q1, by rw [upd_ne nrs]; exact q2, fun e he => by
   obtain ⟨r, r1, r2⟩ := q3 e he
   exact ⟨r, r1, by rw [upd_ne (ne_of r2 s5 (by intro z; cases z))]; exact r2⟩⟩
  refine ⟨_, rfl, s, C, dx, _, _, rfl, upd_same, T.cl, T.nA, rfl, _, _, rfl, rfl, ⟨by omega, by omega, by decide⟩, _, _, rfl, rfl, _, rfl, s, C, dx, _, rfl, upd_same, T.cl, T.nW, (by show 2 < 1000; decide), ?_⟩
  have ew : (1 * 2 ^ ((ns.length : Int)).toNat - 1 : Int) = ((2 ^ ns.length - 1 : Nat) : Int) := by
   rw [Int.one_mul, Int.toNat_natCast]
   have := Nat.one_le_two_pow (n := ns.length)
   rw [Int.natCast_sub this]
   simp
  refine q nr _ (fun c o hc ho => ?_) ?_ (by rw [upd_upd]; exact NA6 _)
  ·rw [upd_ne hc, upd_ne hc]
   exact sH _ _ (ex1 c o hc ho)
  ·rw [upd_same]
   show some (HO.ins C dx [("ahead", .int ns.length), ("near", .ref nr), ("whole", .int (1 * 2 ^ ((ns.length : Int)).toNat - 1))]) = _
   rw [ew]
   rfl
theorem scSteps : FnScope ["self", "left", "end"] ["self", "left", "end"] (defScope sSteps) := ⟨rfl, rfl, rfl, by decide +kernel, rfl, by decide +kernel, by decide +kernel⟩
theorem ok_steps (F : Fun K "steps" "Steps.steps" sSteps f fd) (T : SrT K C) : FnOk P w K mg base CX0 1 f fd ["self", "left", "end"] (spSteps C) := by
 refine F.ok scSteps (fun vs H Q E h => ?_) (fun cdv A outer s H vs Q E hr h => ?_)
 ·obtain ⟨s, dx, nr, fs, n, near, left, e, rfl, _⟩ := h
  rfl
 obtain ⟨s, dx, nr, fs, n, near, left, e, rfl, hs, hn, NA, N, he, hl, q⟩ := h
 refine ⟨_, (@pss_one _ _ _ (ps_ret (pe_comp ["place"] rfl (blk_ok (defScope sSteps) ["self", "left", "end"] rfl rfl (by decide +kernel)) (pi_list (pe_ix ix_list (pe_fld (pv 0) rfl) (pv 2) (fun _ _ => rfl))) (fun pins C fp s3 H3 => ⟨(pg_name (i := 0) (show (blkN ["place"] ["self", "left", "end"]).Nodup by decide +kernel) rfl (Or.inl rfl)), (pif_one (pt_valI (pe_op op_and (pv 2) (pe_op op_shl pe_int (pv 0))))), (pv 0)⟩)))), ?_⟩
 obtain ⟨rs, q1, q2, q3⟩ := NA
 obtain ⟨r, r1, r2⟩ := q3 e he
 have n10 := N.n10
 have hlen := near_len N he
 have hml : ((iv (near e)).map V.int).length = (near e).length := by rw [List.length_map, iv_len]
 refine ⟨_, rfl, s, C, dx, fs, _, rfl, hs, T.cl, T.nN, hn, _, rfl, nr, _, _, _, rfl, rfl, SqL.of q2, atI_nat (by rw [List.getElem?_map, r1]; rfl), r, rfl, ⟨_, SqL.of r2⟩, fun D hD => ?_⟩
 refine turns_list (σ := [some (.ref s), some (.int left), some (.int e)]) (xs := (iv (near e)).map V.int) (fun i => left.testBit ((near e).getD i 0)) (fun i => .int (((near e).getD i 0 : Nat) : Int)) (SqL.of r2) hD (by omega) (fun i H' hi g P hP => ?_) (fun i H' hi _ g P hP => ?_) fun H2 g2 e2 => ?_
 ·have hi' : i < (near e).length := by rw [hml] at hi; exact hi
  have ek : (near e)[i]? = some (near e)[i] := List.getElem?_eq_getElem hi'
  have e1 : ((iv (near e)).map V.int).getD i .non = .int (((near e)[i] : Nat) : Int) := by rw [List.getD_eq_getElem?_getD, nat_at ek]; rfl
  have e2 : (near e).getD i 0 = (near e)[i] := by rw [List.getD_eq_getElem?_getD, ek]; rfl
  have hk := N.lt e he _ (List.getElem_mem hi')
  rw [e1]
  refine ⟨_, rfl, _, rfl, _, _, rfl, rfl, ⟨by omega, by omega, by decide⟩, _, _, rfl, rfl, _, rfl, ?_⟩
  rw [bit_V left _ hl (by omega), ← e2]
  exact hP _ Same.rfl'
 ·have hi' : i < (near e).length := by rw [hml] at hi; exact hi
  have ek : (near e)[i]? = some (near e)[i] := List.getElem?_eq_getElem hi'
  have e1 : ((iv (near e)).map V.int).getD i .non = .int (((near e).getD i 0 : Nat) : Int) := by rw [List.getD_eq_getElem?_getD, nat_at ek, List.getD_eq_getElem?_getD, ek]; rfl
  rw [e1]
  exact ⟨_, rfl, hP _ Same.rfl'⟩
 ·refine q D H2 g2 hD ?_
  rw [e2, hml, iv_V, ← range_getD_filter (fun v => left.testBit v) 0 (near e), List.map_map]
  rfl
end
structure Bt4 (mg : Str → Option Value) : Prop extends Bt3 mg where
 zip : mg "zip" = none
 sum : mg "sum" = none
abbrev sIni : Stmt := inClass (top 26) 0
abbrev sCan : Stmt := inClass (top 26) 1
abbrev sFst : Stmt := inClass (top 26) 2
abbrev sFnd : Stmt := inClass (top 26) 3
abbrev sFrom : Stmt := top 27
structure SrT2 (K : PySem.W.Frag) (C : Addr) : Prop extends SrT K C where
 nL : NoAttr K C "last_places"
 nO : NoAttr K C "onward"
def optV : Option Nat → V
 | none => .non
 | some k => .int (k : Int)
def ky (l e : Nat) : List Key := [Sum.inl (l : Int), Sum.inl (e : Int)]
theorem ky_inj {l e l' e' : Nat} (h : ky l e = ky l' e') : l = l' ∧ e = e' := by
 unfold ky at h
 injection h with h1 h2
 injection h2 with h2 _
 have a := Sum.inl.inj h1
 have b := Sum.inl.inj h2
 omega
def kcode : List Key → Nat
 | [Sum.inl a, Sum.inl b] => a.toNat * 11 + b.toNat
 | _ => 0
section
variable (n : Nat) (near : Nat → List Nat) (ends : Nat → Bool)
structure Memo (kvs : List (List Key × V)) : Prop where
 nd : (kvs.map (·.1)).Nodup
 ok : ∀ kv ∈ kvs, ∃ l e, kv.1 = ky l e ∧ l ≠ 0 ∧ l < 2 ^ n ∧ e ≤ n ∧ kv.2 = optV (fst near ends l e)
 cl : ∀ l e k, (valV kvs (ky l e)).isSome = true → fst near ends l e = some k → l - 2 ^ k ≠ 0 → (valV kvs (ky (l - 2 ^ k) k)).isSome = true
variable {n near ends}
theorem memo_nil : Memo n near ends [] := ⟨List.nodup_nil, (fun _ h => nomatch h), (fun _ _ _ h => nomatch h)⟩
theorem val_mem {kvs : List (List Key × V)} {k : List Key} {v : V} (h : valV kvs k = some v) : (k, v) ∈ kvs := by
 unfold valV at h
 obtain ⟨p, hp, rfl⟩ := Option.map_eq_some_iff.mp h
 have h1 : p.1 = k := of_decide_eq_true (List.find?_some (p := fun kv : List Key × V => decide (kv.1 = k)) hp)
 have h2 := List.mem_of_find?_eq_some hp
 rw [← h1]
 exact h2
theorem Memo.val {kvs : List (List Key × V)} (M : Memo n near ends kvs) {l e : Nat} {v : V} (h : valV kvs (ky l e) = some v) : v = optV (fst near ends l e) := by
 obtain ⟨l', e', h1, _, _, _, h2⟩ := M.ok _ (val_mem h)
 obtain ⟨rfl, rfl⟩ := ky_inj h1
 exact h2
theorem Memo.len {kvs : List (List Key × V)} (M : Memo n near ends kvs) (hn : n ≤ 10) : kvs.length < sizeLine := by
 have hp : 2 ^ n ≤ 1024 := pow_le n (by omega)
 have hc : ∀ kv ∈ kvs, kcode kv.1 < 11264 := fun kv h => by
  obtain ⟨l, e, h1, _, h3, h4, _⟩ := M.ok kv h
  rw [h1]
  show ((l : Int)).toNat * 11 + ((e : Int)).toNat < 11264
  omega
 have hnd : (kvs.map fun kv => kcode kv.1).Nodup := by
  have h := M.nd
  unfold List.Nodup at h ⊢
  rw [List.pairwise_map] at h ⊢
  refine h.imp_of_mem fun {x y} hx hy hne he => hne ?_
  obtain ⟨l, e, h1, _, _, h4, _⟩ := M.ok x hx
  obtain ⟨l', e', h1', _, _, h4', _⟩ := M.ok y hy
  rw [h1, h1'] at he ⊢
  have he' : ((l : Int)).toNat * 11 + ((e : Int)).toNat = ((l' : Int)).toNat * 11 + ((e' : Int)).toNat := he
  have : l = l' ∧ e = e' := by omega
  rw [this.1, this.2]
 have h := pigeon 11264 _ hnd fun x hx => by
  obtain ⟨kv, h1, rfl⟩ := List.mem_map.mp hx
  exact hc kv h1
 rw [List.length_map] at h
 rw [sizeLine_eq]
 omega
theorem Memo.put {kvs : List (List Key × V)} (M : Memo n near ends kvs) {l e : Nat} (h0 : l ≠ 0) (hl : l < 2 ^ n) (he : e ≤ n) (hc : ∀ k, fst near ends l e = some k → l - 2 ^ k ≠ 0 → (valV kvs (ky (l - 2 ^ k) k)).isSome = true) :
  Memo n near ends (putK kvs (ky l e) (optV (fst near ends l e))) := by
 have hcl : ∀ l1 e1 k, (valV (putK kvs (ky l e) (optV (fst near ends l e))) (ky l1 e1)).isSome = true → fst near ends l1 e1 = some k → l1 - 2 ^ k ≠ 0 → (valV (putK kvs (ky l e) (optV (fst near ends l e))) (ky (l1 - 2 ^ k) k)).isSome = true := by
  intro l1 e1 k h1 h2 h3
  have hs : (valV kvs (ky (l1 - 2 ^ k) k)).isSome = true := by
   rw [valV_put] at h1
   by_cases z : ky l1 e1 = ky l e
   ·obtain ⟨rfl, rfl⟩ := ky_inj z
    exact hc k h2 h3
   ·rw [if_neg z] at h1
    exact M.cl l1 e1 k h1 h2 h3
  rw [valV_put]
  split
  ·rfl
  ·exact hs
 refine ⟨?_, ?_, hcl⟩
 ·cases hv : valV kvs (ky l e) with
  | none =>
   rw [putK_new _ hv, List.map_append]
   refine List.nodup_append.mpr ⟨M.nd, by simp, fun a ha b hb hab => ?_⟩
   have eb : b = ky l e := by simpa using hb
   subst eb
   subst hab
   obtain ⟨kv, h1, h2⟩ := List.mem_map.mp ha
   have h3 := valV_any (ky l e) kvs
   rw [hv] at h3
   have h4 : (kvs.any fun kv => decide (kv.1 = ky l e)) = true := List.any_eq_true.mpr ⟨kv, h1, decide_eq_true h2⟩
   rw [h4] at h3
   cases h3
  | some v =>
   unfold putK
   rw [valV_any, hv]
   rw [if_pos (show (some v).isSome = true from rfl), List.map_map]
   have : (kvs.map ((fun x : List Key × V => x.1) ∘ fun kv => if kv.1 = ky l e then (kv.1, optV (fst near ends l e)) else kv)) = kvs.map (·.1) := by
    refine List.map_congr_left fun kv _ => ?_
    show (if kv.1 = ky l e then (kv.1, optV (fst near ends l e)) else kv).1 = kv.1
    split <;> rfl
   rw [this]
   exact M.nd
 ·intro kv h
  unfold putK at h
  split at h
  ·obtain ⟨kv', h1, h2⟩ := List.mem_map.mp h
   by_cases z : kv'.1 = ky l e
   ·rw [if_pos z] at h2
    rw [← h2]
    exact ⟨l, e, z, h0, hl, he, rfl⟩
   ·rw [if_neg z] at h2
    rw [← h2]
    exact M.ok kv' h1
  ·rcases List.mem_append.mp h with z | z
   ·exact M.ok kv z
   ·have z : kv = (ky l e, optV (fst near ends l e)) := by simpa using z
    rw [z]
    exact ⟨l, e, rfl, h0, hl, he, rfl⟩
end
def Grow (kvs kvs' : List (List Key × V)) : Prop := ∀ k, (valV kvs k).isSome = true → (valV kvs' k).isSome = true
theorem Grow.refl {kvs : List (List Key × V)} : Grow kvs kvs := fun _ h => h
theorem Grow.trans {a b c : List (List Key × V)} (h : Grow a b) (g : Grow b c) : Grow a c := fun k z => g k (h k z)
theorem Grow.put {kvs : List (List Key × V)} {k : List Key} {v : V} : Grow kvs (putK kvs k v) := fun j h => by
 rw [valV_put]
 split
 ·rfl
 ·exact h
structure SP where
 n : Nat
 near : Nat → List Nat
 ends : Nat → Bool
 lasts : List Nat
 s : Addr
 dx : Addr
 nr : Addr
 lp : Addr
 ow : Addr
def SP.fs (p : SP) : List (Str × V) := [("ahead", .int p.n), ("near", .ref p.nr), ("whole", .int ((2 ^ p.n - 1 : Nat) : Int)), ("last_places", .ref p.lp), ("onward", .ref p.ow)]
structure Srch (C : Addr) (p : SP) (H : Hp) : Prop where
 at_ : H p.s = some (.ins C p.dx p.fs)
 nr : NearAt H p.nr p.n p.near
 lp : H p.lp = some (.lst ((iv p.lasts).map V.int))
 ok : NearOk p.near p.n
 le : ∀ e < p.n, p.lasts.contains e = p.ends e
def Known (p : SP) (H : Hp) (kvs : List (List Key × V)) : Prop := H p.ow = some (.dT kvs) ∧ Memo p.n p.near p.ends kvs
theorem Srch.ex {C : Addr} {p : SP} {H H' : Hp} {kvs : List (List Key × V)} (S : Srch C p H) (hk : H p.ow = some (.dT kvs)) (g : Ex (· = p.ow) H H') : Srch C p H' := by
 have ne : ∀ {b o}, H b = some o → (∀ kvs, o ≠ .dT kvs) → H' b = some o := fun {b o} h d => g b o (fun z => d kvs (by rw [z, hk] at h; exact (Option.some.inj h).symm)) h
 obtain ⟨rs, q1, q2, q3⟩ := S.nr
 exact ⟨ne S.at_ (fun _ z => by cases z), ⟨rs, q1, ne q2 (fun _ z => by cases z), fun e he => let ⟨r, a, b⟩ := q3 e he; ⟨r, a, ne b (fun _ z => by cases z)⟩⟩, ne S.lp (fun _ z => by cases z), S.ok, S.le⟩
theorem Srch.lt {C : Addr} {p : SP} {H : Hp} (S : Srch C p H) {left : Nat} (h : left < 2 ^ p.n) : left < 1024 := Nat.lt_of_lt_of_le h (pow_le _ (Nat.lt_succ_of_le S.ok.n10))
def spCan (C : Addr) (m : Nat) : Sp := fun vs H Q _ => ∃ (p : SP) (kvs : List (List Key × V)) (left e : Nat), vs = [.ref p.s, .int left, .int e] ∧ Srch C p H ∧ Known p H kvs ∧ left < 2 ^ p.n ∧ cnt left ≤ m ∧ e ≤ p.n ∧ (left = 0 → e < p.n) ∧
 ∀ (H' : Hp) (kvs' : List (List Key × V)), Ex (· = p.ow) H H' → Known p H' kvs' → Grow kvs kvs' → (left ≠ 0 → (valV kvs' (ky left e)).isSome = true) → Q (.bl (can p.near p.ends left e)) H'
def spFst (C : Addr) (m : Nat) : Sp := fun vs H Q _ => ∃ (p : SP) (kvs : List (List Key × V)) (left e : Nat), vs = [.ref p.s, .int left, .int e] ∧ Srch C p H ∧ Known p H kvs ∧ left < 2 ^ p.n ∧ left ≠ 0 ∧ cnt left ≤ m ∧ e ≤ p.n ∧
 ∀ (H' : Hp) (kvs' : List (List Key × V)), Ex (· = p.ow) H H' → Known p H' kvs' → Grow kvs kvs' → (∀ k, fst p.near p.ends left e = some k → left - 2 ^ k ≠ 0 → (valV kvs' (ky (left - 2 ^ k) k)).isSome = true) → Q (optV (fst p.near p.ends left e)) H'
theorem find_flt {p q : Nat → Bool} : ∀ l : List Nat, l.find? (fun k => p k && q k) = (l.filter p).find? q
 | [] => rfl
 | a :: r => by
  have ih := find_flt (p := p) (q := q) r
  cases hp : p a with
  | false => rw [List.find?_cons, List.filter_cons, hp, Bool.false_and, ih, if_neg Bool.false_ne_true]
  | true =>
   rw [List.find?_cons, List.filter_cons, hp, Bool.true_and, if_pos rfl, List.find?_cons]
   cases q a with
   | false => exact ih
   | true => rfl
theorem find_at {q : Nat → Bool} : ∀ {l : List Nat} {i k : Nat}, l[i]? = some k → q k = true → (∀ j < i, ∀ x, l[j]? = some x → q x = false) → l.find? q = some k
 | [], _, _, h, _, _ => nomatch h
 | a :: r, 0, k, h, hq, _ => by
  have e : a = k := Option.some.inj h
  rw [List.find?_cons, e, hq]
 | a :: r, i + 1, k, h, hq, hj => by
  rw [List.find?_cons, hj 0 (Nat.succ_pos _) a rfl]
  exact find_at (l := r) (i := i) h hq fun j hj' x hx => hj (j + 1) (Nat.succ_lt_succ hj') x hx
section
variable {f g1 g2 g3 C C0 : Addr} {mc : Value} {fd gd1 gd2 gd3 : FuncData}
theorem scCan : FnScope ["self", "left", "end", "key"] ["self", "left", "end"] (defScope sCan) := ⟨rfl, rfl, rfl, by decide +kernel, rfl, by decide +kernel, by decide +kernel⟩
theorem ok_can {j m : Nat} (F : Fun K "can_end" "Search.can_end" sCan f fd) (T : SrT2 K C) (mF : Meth K C "first_step" g1)
  (GF : FnOk P w K mg base CX0 j g1 gd1 ["self", "left", "end"] (spFst C m)) (bF : Binds K gd1 ["self", "left", "end"] []) : FnOk P w K mg base CX0 (j + 1) f fd ["self", "left", "end"] (spCan C m) := by
 refine F.ok scCan (fun vs H Q E h => ?_) (fun cdv A outer s H vs Q E hr h => ?_)
 ·obtain ⟨p, kvs, left, e, rfl, _⟩ := h
  rfl
 obtain ⟨p, kvs, left, e, rfl, S, hd, hl, hc, he, h0, q⟩ := h
 have hu := hu_of hr
 refine ⟨_, (@pss_cons _ _ _ _ _ (ps_if (pt_cmpR op_eq (pv 1) pe_int (nomark _)) (@pss_one _ _ _ (ps_ret (pe_cmpR (op_inI K) (pv 2) (pe_fld (pv 0) rfl) rfl))) pss_nil) (@pss_cons _ _ _ _ _ (ps_set (i := 3) scCan.nd rfl (Or.inl rfl) (pe_tup (pa_cons (pv 1) (pa_cons (pv 2) pa_nil)))) (@pss_cons _ _ _ _ _ (ps_if (pt_cmp (pc_dnotin hu (pv 3) (pe_fld (pv 0) rfl))) (@pss_one _ _ _ (ps_dput hu (pe_fld (pv 0) rfl) (pv 3) (pe_meth (pv 0) T.cl mF GF hr bF .nil pass0 (pa_cons (pv 1) (pa_cons (pv 2) pa_nil))) rfl)) pss_nil) (@pss_one _ _ _ (ps_ret (pe_cmpR op_notN (pe_dget hu (pe_fld (pv 0) rfl) (pv 3) (fun _ _ => rfl)) pe_non (nomark _))))))), ?_⟩
 refine ⟨_, rfl, rfl, _, rfl, ite2 (fun c => ?_) (fun c => ?_)⟩
 ·have el : left = 0 := by
   have z := V.int.inj (of_decide_eq_true c)
   omega
  subst el
  refine ⟨_, rfl, _, rfl, p.s, C, p.dx, p.fs, _, rfl, S.at_, T.cl, T.nL, rfl, p.lp, _, _, rfl, rfl, SqL.of S.lp, ?_⟩
  have z := q H kvs Ex.refl hd Grow.refl (fun z => absurd rfl z)
  rw [can_zero, ← S.le e (h0 rfl), ← iv_contains] at z
  exact z
 ·have el : left ≠ 0 := fun z => c (decide_eq_true (by rw [z]; rfl))
  refine ⟨_, rfl, _, rfl, two_le, fun kt hkt => ?_⟩
  have g1 : Same H (upd H kt (.tup [.int (left : Int), .int (e : Int)])) := Same.new hkt _
  have S1 : Srch C p (upd H kt (.tup [.int (left : Int), .int (e : Int)])) := S.ex hd.1 (Ex.same g1)
  have hd1 : Known p (upd H kt (.tup [.int (left : Int), .int (e : Int)])) kvs := ⟨g1 _ _ hd.1, hd.2⟩
  have hk1 : (upd H kt (.tup [.int (left : Int), .int (e : Int)])) kt = some (.tup ((ky left e).map kV)) := upd_same
  have ex1 : Ex (· = p.ow) H (upd H kt (.tup [.int (left : Int), .int (e : Int)])) := Ex.same g1
  generalize upd H kt (.tup [.int (left : Int), .int (e : Int)]) = H1 at S1 hd1 hk1 ex1 ⊢
  refine ⟨_, rfl, _, rfl, p.s, C, p.dx, p.fs, _, rfl, S1.at_, T.cl, T.nO, rfl, p.ow, _, rfl, DGet.t hd1.1 hk1, _, rfl, ite2 (fun c2 => ?_) (fun c2 => ?_)⟩
  ·refine ⟨_, rfl, p.s, p.dx, p.fs, rfl, S1.at_, rfl, _, rfl, _, rfl, p, kvs, left, e, rfl, S1, hd1, hl, el, hc, he, fun H2 kvs2 ex2 hd2 gr2 cl2 => ?_⟩
   have S2 := S1.ex hd1.1 ex2
   have hk2 : H2 kt = some (.tup ((ky left e).map kV)) := ex2 _ _ (ne_of hk1 hd1.1 (by intro z; cases z)) hk1
   refine ⟨_, rfl, p.s, C, p.dx, p.fs, _, rfl, S2.at_, T.cl, T.nO, rfl, _, rfl, p.ow, _, rfl, DPut.t hd2.1 hk2 (hd2.2.len S.ok.n10), ?_⟩
   have M3 := hd2.2.put el hl he cl2
   have ex3 : Ex (· = p.ow) H2 (upd H2 p.ow (.dT (putK kvs2 (ky left e) (optV (fst p.near p.ends left e))))) := Ex.put _ rfl
   have S3 := S2.ex hd2.1 ex3
   have hk3 := ex3 _ _ (ne_of hk2 hd2.1 (by intro z; cases z)) hk2
   refine ⟨_, rfl, p.s, C, p.dx, p.fs, _, rfl, S3.at_, T.cl, T.nO, rfl, _, rfl, p.ow, _, rfl, by have z := DGet.t (upd_same (H := H2) (a := p.ow) (o := .dT (putK kvs2 (ky left e) (optV (fst p.near p.ends left e))))) hk3; rw [valV_put, if_pos rfl] at z; exact z, rfl, ?_⟩
   have z := q _ _ ((ex1.trans ex2).trans ex3) ⟨upd_same, M3⟩ (gr2.trans Grow.put) (fun _ => by rw [valV_put, if_pos rfl]; rfl)
   rw [can_fst S.ok (S.lt hl) el he] at z
   cases ef : fst p.near p.ends left e with
   | none => rw [ef] at z; exact z
   | some k => rw [ef] at z; exact z
  ·cases ev : valV kvs (ky left e) with
   | none => rw [ev] at c2; exact absurd rfl c2
   | some v =>
    have hv := hd.2.val ev
    refine ⟨_, rfl, p.s, C, p.dx, p.fs, _, rfl, S1.at_, T.cl, T.nO, rfl, _, rfl, p.ow, _, rfl, by have z := DGet.t hd1.1 hk1; rw [ev] at z; exact z, rfl, ?_⟩
    have z := q _ _ ex1 hd1 Grow.refl (fun _ => by rw [ev]; rfl)
    rw [can_fst S.ok (S.lt hl) el he] at z
    rw [hv]
    cases ef : fst p.near p.ends left e with
    | none => rw [ef] at z; exact z
    | some k => rw [ef] at z; exact z
theorem scFst : FnScope ["self", "left", "end", "place"] ["self", "left", "end"] (defScope sFst) := ⟨rfl, rfl, rfl, by decide +kernel, rfl, by decide +kernel, by decide +kernel⟩
theorem ok_fst {j m : Nat} (F : Fun K "first_step" "Search.first_step" sFst f fd) (T : SrT2 K C) (mS : Meth K C "steps" g1) (mC : Meth K C "can_end" g2)
  (GS : FnOk P w K mg base CX0 j g1 gd1 ["self", "left", "end"] (spSteps C)) (bS : Binds K gd1 ["self", "left", "end"] [])
  (GC : FnOk P w K mg base CX0 j g2 gd2 ["self", "left", "end"] (spCan C m)) (bC : Binds K gd2 ["self", "left", "end"] []) : FnOk P w K mg base CX0 (j + 1) f fd ["self", "left", "end"] (spFst C (m + 1)) := by
 refine F.ok scFst (fun vs H Q E h => ?_) (fun cdv A outer s H vs Q E hr h => ?_)
 ·obtain ⟨p, kvs, left, e, rfl, _⟩ := h
  rfl
 obtain ⟨p, kvs, left, e, rfl, S, hd, hl, h0, hc, he, q⟩ := h
 refine ⟨_, (@pss_cons _ _ _ _ _ (ps_for PassesOwn.never rfl (pi_list (pe_meth (pv 0) T.cl mS GS hr bS .nil pass0 (pa_cons (pv 1) (pa_cons (pv 2) pa_nil)))) (pg_name (i := 3) scFst.nd rfl (Or.inl rfl)) (@pss_one _ _ _ (ps_if (pt_val (pe_meth (pv 0) T.cl mC GC hr bC .nil pass0 (pa_cons (pe_op op_sub (pv 1) (pe_op op_shl pe_int (pv 3))) (pa_cons (pv 3) pa_nil)))) (@pss_one _ _ _ (ps_ret (pv 3))) pss_nil))) (@pss_one _ _ _ (ps_ret pe_non))), ?_⟩
 have hl' := S.lt hl
 have n10 := S.ok.n10
 refine ⟨_, rfl, p.s, p.dx, p.fs, rfl, S.at_, rfl, _, rfl, _, rfl, p.s, p.dx, p.nr, p.fs, p.n, p.near, left, e, rfl, S.at_, rfl, S.nr, S.ok, he, hl', fun l H1 g1 hln e1 => ⟨l, rfl, ⟨_, SqL.of e1⟩, ?_⟩⟩
 have hd1 : Known p H1 kvs := ⟨g1 _ _ hd.1, hd.2⟩
 have lo : l ≠ p.ow := fun z => by rw [z, hd.1] at hln; cases hln
 have elen : ((iv ((p.near e).filter fun k => left.testBit k)).map V.int).length = ((p.near e).filter fun k => left.testBit k).length := by rw [List.length_map, iv_len]
 refine for_list (xs := (iv ((p.near e).filter fun k => left.testBit k)).map V.int) (fun i σ H' => ∃ (y : Option V) (kvs' : List (List Key × V)), σ = [some (.ref p.s), some (.int left), some (.int e), y] ∧ Ex (· = p.ow) H H' ∧ H' l = some (.lst ((iv ((p.near e).filter fun k => left.testBit k)).map V.int)) ∧ Known p H' kvs' ∧ Grow kvs kvs' ∧
  ∀ i' < i, ∀ k, ((p.near e).filter fun k => left.testBit k)[i']? = some k → can p.near p.ends (left - 2 ^ k) k = false)
  ⟨none, kvs, rfl, Ex.same g1, e1, hd1, Grow.refl, fun i' hi' => absurd hi' (Nat.not_lt_zero _)⟩ (fun i σ H' _ ⟨_, _, _, _, e2, _⟩ => SqL.of e2) ?_ ?_
 ·rintro i x σ H' hx ⟨y, kvs', rfl, ex, e2, hk', gr, hno⟩
  obtain ⟨k, hk, rfl⟩ := at_nat hx
  have hm : k ∈ (p.near e).filter fun k => left.testBit k := List.mem_of_getElem? hk
  obtain ⟨hm1, hb⟩ := List.mem_filter.mp hm
  have hkn := S.ok.lt e he k hm1
  have S' := S.ex hd.1 ex
  have hdec := cnt_dec left hl' k (by omega) hb
  refine ⟨_, rfl, p.s, p.dx, p.fs, rfl, S'.at_, rfl, _, rfl, _, rfl, _, _, rfl, rfl, ⟨by omega, by omega, by decide⟩, _, _, rfl, rfl, _, rfl, ?_⟩
  refine ⟨p, kvs', left - 2 ^ k, k, congrArg (fun x => [V.ref p.s, V.int x, V.int (k : Int)]) (sub_V left k (bit_le hb)), S', hk', by omega, by omega, by omega, fun _ => hkn, fun H2 kvs2 ex2 hd2 gr2 pr2 => ⟨_, rfl, ite2 (fun c => ?_) (fun c => ?_)⟩⟩
  ·refine ⟨_, rfl, ?_⟩
   have ef : fst p.near p.ends left e = some k := by
    unfold fst
    rw [find_flt]
    exact find_at hk c fun i' hi' k' hk' => hno i' hi' k' hk'
   have z := q H2 kvs2 (ex.trans ex2) hd2 (gr.trans gr2) (fun k' hk' hne => by rw [ef] at hk'; cases hk'; exact pr2 hne)
   rw [ef] at z
   exact z
  ·refine ⟨_, kvs2, rfl, ex.trans ex2, ex2 _ _ lo e2, hd2, gr.trans gr2, fun i' hi' k' hk' => ?_⟩
   rcases Nat.lt_or_ge i' i with z | z
   ·exact hno i' z k' hk'
   ·have ei : i' = i := by omega
    subst ei
    rw [hk] at hk'
    cases hk'
    exact Bool.eq_false_iff.mpr c
 ·rintro σ H' ⟨y, kvs', rfl, ex, e2, hk', gr, hno⟩
  have ef : fst p.near p.ends left e = none := by
   unfold fst
   rw [find_flt]
   refine List.find?_eq_none.mpr fun k hk hc' => ?_
   obtain ⟨i', hi', e'⟩ := List.mem_iff_getElem.mp hk
   have z := hno i' (by rw [elen]; exact hi') k (by rw [List.getElem?_eq_getElem hi', e'])
   rw [z] at hc'
   cases hc'
  have z := q H' kvs' ex hk' gr (fun k' hk' => by rw [ef] at hk'; cases hk')
  rw [ef] at z
  exact z
theorem ok_both {ca fs sf : Addr} {cd fsd sfd : FuncData} (FC : Fun K "can_end" "Search.can_end" sCan ca cd) (FF : Fun K "first_step" "Search.first_step" sFst fs fsd) (T : SrT2 K C) (mC : Meth K C "can_end" ca) (mF : Meth K C "first_step" fs) (mS : Meth K C "steps" sf)
  (GS : FnOk P w K mg base CX0 1 sf sfd ["self", "left", "end"] (spSteps C)) (bS : Binds K sfd ["self", "left", "end"] []) (bC : Binds K cd ["self", "left", "end"] []) (bF : Binds K fsd ["self", "left", "end"] []) :
  ∀ m : Nat, FnOk P w K mg base CX0 (2 * m + 2) ca cd ["self", "left", "end"] (spCan C m)
 | 0 => ok_can (j := 1) FC T mF ⟨fun vs H Q E h => by obtain ⟨p, kvs, left, e, rfl, _⟩ := h; rfl, fun A outer s H args us vs Q E _ _ _ _ h => by
   obtain ⟨p, kvs, left, e, _, S, _, hl, h0, hc, _⟩ := h
   exact absurd (cnt_zero left (S.lt hl) (Nat.le_zero.mp hc)) h0⟩ bF
 | m + 1 => by
  have GC := ok_both FC FF T mC mF mS GS bS bC bF m
  have GF := ok_fst (j := 2 * m + 2) FF T mS mC (GS.mono (by omega)) bS GC bC
  exact ok_can (j := 2 * m + 3) FC T mF GF bF
def spFnd (C : Addr) : Sp := fun vs H Q _ => ∃ (p : SP) (kvs : List (List Key × V)), vs = [.ref p.s] ∧ Srch C p H ∧ Known p H kvs ∧ 1 ≤ p.n ∧ can p.near p.ends (2 ^ p.n - 1) p.n = true ∧ (valV kvs (ky (2 ^ p.n - 1) p.n)).isSome = true ∧
 ∀ (l : Addr) (H' : Hp), Same H H' → H l = none → H' l = some (.lst ((iv (path p.near p.ends (2 ^ p.n - 1) p.n)).map V.int)) → Q (.ref l) H'
theorem scFnd : FnScope ["self", "places", "left", "end"] ["self"] (defScope sFnd) := ⟨rfl, rfl, rfl, by decide +kernel, rfl, by decide +kernel, by decide +kernel⟩
theorem ok_fnd (F : Fun K "found_places" "Search.found_places" sFnd f fd) (T : SrT2 K C) : FnOk P w K mg base CX0 1 f fd ["self"] (spFnd C) := by
 refine F.ok scFnd (fun vs H Q E h => ?_) (fun cdv A outer s H vs Q E hr h => ?_)
 ·obtain ⟨p, kvs, rfl, _⟩ := h
  rfl
 obtain ⟨p, kvs, rfl, S, hd, n1, hcan, hkey, q⟩ := h
 have hu := hu_of hr
 refine ⟨_, (@pss_cons _ _ _ _ _ (ps_set (i := 1) scFnd.nd rfl (Or.inl rfl) (pe_lst pa_nil)) (@pss_cons _ _ _ _ _ (ps_set (i := 2) scFnd.nd rfl (Or.inl rfl) (pe_fld (pv 0) rfl)) (@pss_cons _ _ _ _ _ (ps_set (i := 3) scFnd.nd rfl (Or.inl rfl) (pe_fld (pv 0) rfl)) (@pss_cons _ _ _ _ _ (ps_while PassesOwn.never (pt_valI (pv 2)) (@pss_cons _ _ _ _ _ (ps_set (i := 3) scFnd.nd rfl (Or.inl rfl) (pe_dget hu (pe_fld (pv 0) rfl) (pe_tup (pa_cons (pv 2) (pa_cons (pv 3) pa_nil))) (fun _ _ => rfl))) (@pss_cons _ _ _ _ _ (ps_expr (pe_bm PySem.F.plainAttrs_list PySem.F.slot_list_append PySem.F.type_list_append mt_append (pv 1) (pa_cons (pv 3) pa_nil))) (@pss_one _ _ _ (ps_set (i := 2) scFnd.nd rfl (Or.inl rfl) (pe_op op_sub (pv 2) (pe_op op_shl pe_int (pv 3)))))))) (@pss_one _ _ _ (ps_ret (pv 1))))))), ?_⟩
 refine ⟨by decide, fun l hln => ?_⟩
 have g1 : Same H (upd H l (.lst [])) := Same.new hln _
 have lo : l ≠ p.ow := fun z => by rw [z, hd.1] at hln; cases hln
 refine ⟨_, rfl, p.s, C, p.dx, p.fs, _, rfl, g1 _ _ S.at_, T.cl, T.nW, rfl, _, rfl, p.s, C, p.dx, p.fs, _, rfl, g1 _ _ S.at_, T.cl, T.nA, rfl, ?_⟩
 have hp2 : 2 ^ p.n - 1 < 2 ^ p.n := Nat.sub_lt (Nat.two_pow_pos _) (by decide)
 dsimp only [gName, tSeq]
 refine while_by2 (fun σ H' => ∃ (pre : List Nat) (left e : Nat), σ = [some (.ref p.s), some (.ref l), some (.int left), some (.int e)] ∧ Same H H' ∧ H' l = some (.lst ((iv pre).map V.int)) ∧ left < 2 ^ p.n ∧ e ≤ p.n ∧ pre.length + cnt left ≤ 10 ∧
   (left ≠ 0 → can p.near p.ends left e = true ∧ (valV kvs (ky left e)).isSome = true) ∧ pre ++ path p.near p.ends left e = path p.near p.ends (2 ^ p.n - 1) p.n)
  (fun σ _ => slotN 2 σ) ⟨[], 2 ^ p.n - 1, p.n, rfl, g1, upd_same, hp2, Nat.le_refl _, by have := cnt_le _ (S.lt hp2); simpa using this, fun _ => ⟨hcan, hkey⟩, rfl⟩ ?_
 rintro σ H' ⟨pre, left, e, rfl, g, hl, hlt, he, hlen, hgo, hpath⟩
 have hl' := S.lt hlt
 refine ⟨_, rfl, _, rfl, ite2 (fun c => ?_) (fun c => ?_)⟩
 ·have h0 : left ≠ 0 := fun z => by subst z; exact absurd c (by decide)
  obtain ⟨hc, hk⟩ := hgo h0
  have S' : Srch C p H' := S.ex hd.1 (Ex.same g)
  cases ef : fst p.near p.ends left e with
  | none =>
   rw [can_fst S.ok hl' h0 he, ef] at hc
   cases hc
  | some k =>
   obtain ⟨hkn, hb, hc2⟩ := fst_some S.ok he ef
   have n10 := S.ok.n10
   have hdec := cnt_dec left hl' k (by omega) hb
   obtain ⟨v, hv⟩ := Option.isSome_iff_exists.mp hk
   have hv2 := hd.2.val hv
   rw [ef] at hv2
   subst hv2
   refine next_by (H := H') (μ := fun σ _ => slotN 2 σ) ?_
   refine ⟨_, rfl, p.s, C, p.dx, p.fs, _, rfl, S'.at_, T.cl, T.nO, rfl, _, rfl, _, rfl, two_le, fun kt hkt => ?_⟩
   have g2 : Same H' (upd H' kt (.tup [.int (left : Int), .int (e : Int)])) := Same.new hkt _
   have hk1 : (upd H' kt (.tup [.int (left : Int), .int (e : Int)])) kt = some (.tup ((ky left e).map kV)) := upd_same
   generalize upd H' kt (.tup [.int (left : Int), .int (e : Int)]) = H2 at g2 hk1 ⊢
   have hl2 := g2 _ _ hl
   refine ⟨p.ow, _, rfl, by have z := DGet.t (g2 _ _ (g _ _ hd.1)) hk1; rw [hv] at z; exact z, ?_⟩
   refine ⟨_, rfl, .inl ⟨rfl, _, SqL.of hl2⟩, _, rfl, l, _, _, rfl, rfl, hl2, small1000 (by rw [List.length_map, iv_len]; omega), ?_⟩
   refine ⟨_, rfl, _, rfl, _, _, rfl, rfl, ⟨by show (0 : Int) ≤ (k : Int); omega, by show (k : Int) ≤ 1000000; omega, by decide⟩, _, _, rfl, rfl, ?_⟩
   refine ⟨⟨pre ++ [k], left - 2 ^ k, k, ?_, fun b o hb' => ?_, ?_, by omega, by omega, ?_, fun hne => ⟨hc2, hd.2.cl left e k hk ef hne⟩, ?_⟩, ?_⟩
   ·rw [← sub_V left k (bit_le hb)]
    rfl
   ·rw [upd_ne (ne_of_none hb' hln)]
    exact g2 _ _ (g _ _ hb')
   ·rw [upd_same, iv_V, iv_V, List.map_append]
    rfl
   ·rw [List.length_append]
    show pre.length + 1 + cnt (left - 2 ^ k) ≤ 10
    omega
   ·rw [← hpath, path_succ S.ok hl' he ef, List.append_assoc]
    rfl
   ·show ((left : Int) - 1 * 2 ^ ((k : Int)).toNat).toNat < ((left : Int)).toNat
    rw [sub_V left k (bit_le hb)]
    omega
 ·have h0 : left = 0 := by
   rcases Nat.eq_zero_or_pos left with z | z
   ·exact z
   ·exact absurd (show (((left : Nat) : Int) != 0) = true from bne_iff_ne.mpr (by omega)) c
  subst h0
  rw [path_zero, List.append_nil] at hpath
  subst hpath
  exact ⟨_, rfl, q l H' g hln hl⟩
end
def spIni (C : Addr) : Sp := fun vs H Q _ => ∃ (s t a b fp lp dx : Addr) (ns ss : List Int) (fs ls : List Nat), vs = [.ref s, .ref t, .ref fp, .ref lp] ∧ H s = some (.ins C dx []) ∧ IsPl H t a b ns ss ∧ H fp = some (.lst ((iv fs).map V.int)) ∧ H lp = some (.lst ((iv ls).map V.int)) ∧
 ∀ (nr lq ow : Addr) (H' : Hp), Ex (· = s) H H' → H ow = none → H' s = some (.ins C dx [("ahead", .int ns.length), ("near", .ref nr), ("whole", .int ((2 ^ ns.length - 1 : Nat) : Int)), ("last_places", .ref lq), ("onward", .ref ow)]) →
  NearAt H' nr ns.length (nearX ns ss fs) → H' lq = some (.lst ((iv ls).map V.int)) → H' ow = some (.dT []) → Q .non H'
def spFrom : Sp := fun vs H Q _ => ∃ (t a b fp lp : Addr) (ns ss : List Int) (fs ls : List Nat) (ends : Nat → Bool), vs = [.ref t, .ref fp, .ref lp] ∧ IsPl H t a b ns ss ∧ H fp = some (.lst ((iv fs).map V.int)) ∧ H lp = some (.lst ((iv ls).map V.int)) ∧
 (∀ k ∈ fs, k < ns.length) ∧ fs.Pairwise (· < ·) ∧ (∀ e < ns.length, ls.contains e = ends e) ∧
 (can (nearX ns ss fs) ends (2 ^ ns.length - 1) ns.length = false → ∀ H', Same H H' → Q .non H') ∧
 (can (nearX ns ss fs) ends (2 ^ ns.length - 1) ns.length = true → ∀ (l : Addr) (H' : Hp), Same H H' → H l = none → H' l = some (.lst (((path (nearX ns ss fs) ends (2 ^ ns.length - 1) ns.length).map fun k => ns.getD k 0).map V.int)) → Q (.ref l) H')
section
variable {f g1 g2 g3 g4 C C0 : Addr} {mc : Value} {fd gd1 gd2 gd3 gd4 : FuncData}
theorem scIni : FnScope ["self", "plan", "first_places", "last_places"] ["self", "plan", "first_places", "last_places"] (defScope sIni) := ⟨rfl, rfl, rfl, by decide +kernel, rfl, by decide +kernel, by decide +kernel⟩
theorem ok_ini (F : Fun K "__init__" "Search.__init__" sIni f fd) (B : Bt3 mg) (T : SrT2 K C) (BI : Base K C0 mc "__init__" g1) (mI : mg "Steps" = some (.ref C0))
  (GI : FnOk P w K mg base CX0 3 g1 gd1 ["self", "plan", "first_places"] (spIni0 C)) (bI : Binds K gd1 ["self", "plan", "first_places"] []) : FnOk P w K mg base CX0 4 f fd ["self", "plan", "first_places", "last_places"] (spIni C) := by
 refine F.ok scIni (fun vs H Q E h => ?_) (fun cdv A outer s H vs Q E hr h => ?_)
 ·obtain ⟨s, t, a, b, fp, lp, dx, ns, ss, fs, ls, rfl, _⟩ := h
  rfl
 obtain ⟨s, t, a, b, fp, lp, dx, ns, ss, fs, ls, rfl, hs, pl, hfp, hlp, q⟩ := h
 refine ⟨_, (@pss_cons _ _ _ _ _ (ps_expr (pe_base BI GI hr rfl mI bI .nil pass0 (pa_cons (pv 0) (pa_cons (pv 1) (pa_cons (pv 2) pa_nil))))) (@pss_cons _ _ _ _ _ (ps_fld (pv 0) (pe_callTy call_list_of rfl B.list PyProof.Rows.boot_list (pa_cons (pv 3) pa_nil)) rfl) (@pss_one _ _ _ (ps_fld (pv 0) pe_dnewT rfl)))), ?_⟩
 refine ⟨_, rfl, _, rfl, _, rfl, s, t, a, b, fp, dx, ns, ss, fs, rfl, hs, pl, hfp, fun nr H1 ex1 s1 na1 => ?_⟩
 have lps : lp ≠ s := ne_of hlp hs (by intro z; cases z)
 have lp1 := ex1 _ _ lps hlp
 refine ⟨_, rfl, lp, _, rfl, .inl (SqL.of lp1), fun lq hlq => ?_⟩
 have g2 : Same H1 (upd H1 lq (.lst ((iv ls).map V.int))) := Same.new hlq _
 refine ⟨_, rfl, s, C, dx, _, rfl, g2 _ _ s1, T.cl, T.nL, (by show 3 < 1000; decide), ?_⟩
 refine fun ow how => ?_
 have sq : s ≠ lq := ne_of_none s1 hlq
 have ow_s : ow ≠ s := fun z => by rw [z, upd_same] at how; cases how
 have ow_q : ow ≠ lq := fun z => by rw [z, upd_ne sq.symm, upd_same] at how; cases how
 have how1 : H1 ow = none := by rwa [upd_ne ow_s, upd_ne ow_q] at how
 refine ⟨_, rfl, s, C, dx, _, rfl, by rw [upd_ne (Ne.symm ow_s)]; exact upd_same, T.cl, T.nO, (by show 4 < 1000; decide), ?_⟩
 obtain ⟨rs, q1, q2, q3⟩ := na1
 have st : ∀ {c : Addr} {o : HO}, c ≠ s → H1 c = some o → ∀ {o1 o2}, (upd (upd (upd (upd H1 lq (.lst ((iv ls).map V.int))) s o1) ow (.dT [])) s o2) c = some o := fun {c o} hc h {o1 o2} => by
  rw [upd_ne hc, upd_ne (ne_of_none h how1), upd_ne hc, upd_ne (ne_of_none h hlq)]
  exact h
 refine q nr lq ow _ (fun c o hc ho => st hc (ex1 c o hc ho)) ?_ ?_ ⟨rs, q1, st (ne_of q2 s1 (by intro z; cases z)) q2, fun e he => let ⟨r, r1, r2⟩ := q3 e he; ⟨r, r1, st (ne_of r2 s1 (by intro z; cases z)) r2⟩⟩ ?_ ?_
 ·cases e : H ow with
  | none => rfl
  | some o => rw [ex1 _ _ ow_s e] at how1; cases how1
 ·rw [upd_same]
  rfl
 ·rw [upd_ne (Ne.symm sq), upd_ne (Ne.symm ow_q), upd_ne (Ne.symm sq), upd_same]
 ·rw [upd_ne ow_s, upd_same]
theorem scFrom : FnScope ["plan", "first_places", "last_places", "search"] ["plan", "first_places", "last_places"] (defScope sFrom) := ⟨rfl, rfl, rfl, by decide +kernel, rfl, by decide +kernel, by decide +kernel⟩
theorem ok_from (F : Fun K "first_from" "first_from" sFrom f fd) (T : SrT2 K C) (MS : Mk K C g1) (mS : mg "Search" = some (.ref C)) (mC : Meth K C "can_end" g2) (mF : Meth K C "found_places" g3)
  (GI : FnOk P w K mg base CX0 21 g1 gd1 ["self", "plan", "first_places", "last_places"] (spIni C)) (bI : Binds K gd1 ["self", "plan", "first_places", "last_places"] [])
  (GC : FnOk P w K mg base CX0 22 g2 gd2 ["self", "left", "end"] (spCan C 10)) (bC : Binds K gd2 ["self", "left", "end"] [])
  (GF : FnOk P w K mg base CX0 22 g3 gd3 ["self"] (spFnd C)) (bF : Binds K gd3 ["self"] [])
  (GN : FnOk P w K mg base CX0 22 g4 gd4 ["plan", "places"] spNums) (bN : Binds K gd4 ["plan", "places"] []) (kN : Kee K g4) (mN : mg "numbers_at" = some (.ref g4)) : FnOk P w K mg base CX0 23 f fd ["plan", "first_places", "last_places"] spFrom := by
 refine F.ok scFrom (fun vs H Q E h => ?_) (fun cdv A outer s H vs Q E hr h => ?_)
 ·obtain ⟨t, a, b, fp, lp, ns, ss, fs, ls, ends, rfl, _⟩ := h
  rfl
 obtain ⟨t, a, b, fp, lp, ns, ss, fs, ls, ends, rfl, pl, hfp, hlp, h1, h2, h3, qn, qs⟩ := h
 refine ⟨_, (@pss_cons _ _ _ _ _ (ps_set (i := 3) scFrom.nd rfl (Or.inl rfl) (pe_make MS GI hr rfl mS bI .nil pass0 (pa_cons (pv 0) (pa_cons (pv 1) (pa_cons (pv 2) pa_nil))))) (@pss_cons _ _ _ _ _ (ps_if (pt_not (pt_val (pe_meth (pv 3) T.cl mC GC hr bC .nil pass0 (pa_cons (pe_fld (pv 3) rfl) (pa_cons (pe_fld (pv 3) rfl) pa_nil))))) (@pss_one _ _ _ (ps_ret pe_non)) pss_nil) (@pss_one _ _ _ (ps_ret (pe_call GN hr rfl mN kN bN .nil pass0 (pa_cons (pv 0) (pa_cons (pe_meth0 (pv 3) T.cl mF GF hr bF .nil pass0) pa_nil))))))), ?_⟩
 refine ⟨_, rfl, _, rfl, _, rfl, fun x dx nx ndx nex => ?_⟩
 have g2 : Same H (upd (upd H dx (.own x)) x (.ins C dx [])) := fun c o hc => by
  rw [upd_ne (ne_of_none hc nx), upd_ne (ne_of_none hc ndx)]; exact hc
 refine ⟨x, t, a, b, fp, lp, dx, ns, ss, fs, ls, rfl, upd_same, pl.same g2, g2 _ _ hfp, g2 _ _ hlp, fun nr lq ow H3 ex3 how s3 na3 lq3 ow3 => ⟨rfl, ?_⟩⟩
 have how' : H ow = none := none_of_same g2 how
 have g3 : Same H H3 := fun c o hc => ex3 c o (ne_of_none hc nx) (g2 _ _ hc)
 have n1 := pl.ok.n1
 have n2 := pl.ok.n2
 have p2 : 2 ≤ 2 ^ ns.length := Nat.pow_le_pow_right (n := 2) (by decide) n1
 have hw : 2 ^ ns.length - 1 < 2 ^ ns.length := by omega
 have S3 : Srch C ⟨ns.length, nearX ns ss fs, ends, ls, x, dx, nr, lq, ow⟩ H3 := ⟨s3, na3, lq3, near_ok pl.ok h1 h2, h3⟩
 refine ⟨_, rfl, x, dx, _, rfl, s3, rfl, _, rfl, x, C, dx, _, _, rfl, s3, T.cl, T.nW, rfl, _, rfl, x, C, dx, _, _, rfl, s3, T.cl, T.nA, rfl, ?_⟩
 refine ⟨⟨ns.length, nearX ns ss fs, ends, ls, x, dx, nr, lq, ow⟩, [], 2 ^ ns.length - 1, ns.length, rfl, S3, ⟨ow3, memo_nil⟩, hw, cnt_le _ (S3.lt hw), Nat.le_refl _, fun z => by omega, fun H4 kvs4 ex4 hd4 gr4 pr4 => ⟨_, rfl, ite2 (fun c => ?_) (fun c => ?_)⟩⟩
 ·have g4 : Same H H4 := fun c o hc => ex4 c o (ne_of_none hc how') (g3 _ _ hc)
  refine qn ?_ H4 g4
  exact Bool.not_eq_true' _ ▸ c
 ·have g4 : Same H H4 := fun c o hc => ex4 c o (ne_of_none hc how') (g3 _ _ hc)
  have hc : can (nearX ns ss fs) ends (2 ^ ns.length - 1) ns.length = true := by
   cases e : can (nearX ns ss fs) ends (2 ^ ns.length - 1) ns.length with
   | true => rfl
   | false => exact absurd (show (!can (nearX ns ss fs) ends (2 ^ ns.length - 1) ns.length) = true by rw [e]; rfl) c
  have S4 := S3.ex ow3 ex4
  refine ⟨_, rfl, _, rfl, x, dx, _, rfl, S4.at_, rfl, ⟨ns.length, nearX ns ss fs, ends, ls, x, dx, nr, lq, ow⟩, kvs4, rfl, S4, hd4, n1, hc, pr4 (by omega), fun l H5 g5 hl5 e5 => ?_⟩
  refine ⟨t, a, b, l, ns, ss, path (nearX ns ss fs) ends (2 ^ ns.length - 1) ns.length, rfl, pl.same (g4.trans g5), e5, ?_, ?_, fun l6 H6 g6 hl6 e6 => qs hc l6 H6 ((g4.trans g5).trans g6) (none_of_same (g4.trans g5) hl6) e6⟩
  ·have := path_len (near := nearX ns ss fs) (ends := ends) (cnt (2 ^ ns.length - 1)) (2 ^ ns.length - 1) ns.length
   have := cnt_le _ (S3.lt hw)
   exact Nat.le_trans (path_len _ _ _) (by omega)
  ·exact path_lt S3.ok _ _ _ (Nat.le_refl _)
end
def firsts (n : Nat) (ring : Bool) : List Nat := if ring then [0] else List.range n
def endsP (ns ss : List Int) (ring : Bool) (e : Nat) : Bool := !ring || (nearP ns ss (ns.getD e 0)).contains 0
def canW (ns ss : List Int) (ring : Bool) : Bool := can (nearX ns ss (firsts ns.length ring)) (endsP ns ss ring) (2 ^ ns.length - 1) ns.length
def rowW (ns ss : List Int) (ring : Bool) : List Int := (path (nearX ns ss (firsts ns.length ring)) (endsP ns ss ring) (2 ^ ns.length - 1) ns.length).map fun k => ns.getD k 0
def hasW (ns ss : List Int) (ring : Bool) : Bool := canW ns ss ring && !(ring && decide (ns.length < 3))
def spFRow (ring : Bool) : Sp := fun vs H Q _ => ∃ (t a b : Addr) (ns ss : List Int), vs = [.ref t] ∧ IsPl H t a b ns ss ∧ (hasW ns ss ring = false → ∀ H', Same H H' → Q .non H') ∧
 (hasW ns ss ring = true → ∀ (l : Addr) (H' : Hp), Same H H' → H l = none → H' l = some (.lst ((rowW ns ss ring).map V.int)) → Q (.ref l) H')
abbrev sAllP : Stmt := top 17
def spAllP : Sp := fun vs H Q _ => ∃ (t a b : Addr) (ns ss : List Int), vs = [.ref t] ∧ IsPl H t a b ns ss ∧ ∀ l : Addr, H l = none → Q (.ref l) (upd H l (.lst ((iv (List.range ns.length)).map V.int)))
abbrev sFRow : Stmt := top 28
section
variable {f cp fr al : Addr} {fd cpd frd ald : FuncData}
theorem scAllP : FnScope ["plan"] ["plan"] (defScope sAllP) := ⟨rfl, rfl, rfl, by decide +kernel, rfl, by decide +kernel, by decide +kernel⟩
theorem ok_allP (F : Fun K "all_places" "all_places" sAllP f fd) (B : Bt3 mg) : FnOk P w K mg base CX0 1 f fd ["plan"] spAllP := by
 refine F.ok scAllP (fun vs H Q E h => ?_) (fun cdv A outer s H vs Q E hr h => ?_)
 ·obtain ⟨t, a, b, ns, ss, rfl, _⟩ := h
  rfl
 obtain ⟨t, a, b, ns, ss, rfl, pl, q⟩ := h
 refine ⟨_, (@pss_one _ _ _ (ps_ret (pe_list_range1 rfl rfl B.range rfl B.list (pa_cons (pe_callB call_len_seq rfl B.len PySem.boot_len (pa_cons (pe_ix ix_tup (pv 0) pe_int (fun _ _ => rfl)) pa_nil)) pa_nil)))), ?_⟩
 have n2 := pl.ok.n2
 have hml : (ns.map V.int).length = ns.length := List.length_map _
 refine ⟨_, rfl, t, _, 0, _, rfl, rfl, SqT.of pl.t, rfl, a, _, rfl, .inl (SqL.of pl.a), 0, _, rfl, by rw [hml]; omega, fun l hl => ?_⟩
 have e : ((List.range (((((ns.map V.int).length : Nat) : Int)) - 0).toNat).map fun k : Nat => V.int (0 + (k : Int))) = (iv (List.range ns.length)).map V.int := by
  rw [iv_V, hml, show (((ns.length : Nat) : Int) - 0).toNat = ns.length by omega]
  refine List.map_congr_left fun k _ => ?_
  rw [Int.zero_add]
 rw [e]
 exact q l hl
theorem scFRow : FnScope ["plan"] ["plan"] (defScope sFRow) := ⟨rfl, rfl, rfl, by decide +kernel, rfl, by decide +kernel, by decide +kernel⟩
theorem ok_frow (F : Fun K "first_row" "first_row" sFRow f fd)
  (GC : FnOk P w K mg base CX0 23 cp cpd ["plan"] spCkP) (bC : Binds K cpd ["plan"] []) (kC : Kee K cp) (mC : mg "check_plan" = some (.ref cp))
  (GF : FnOk P w K mg base CX0 23 fr frd ["plan", "first_places", "last_places"] spFrom) (bF : Binds K frd ["plan", "first_places", "last_places"] []) (kF : Kee K fr) (mF : mg "first_from" = some (.ref fr))
  (GA : FnOk P w K mg base CX0 23 al ald ["plan"] spAllP) (bA : Binds K ald ["plan"] []) (kA : Kee K al) (mA : mg "all_places" = some (.ref al)) : FnOk P w K mg base CX0 24 f fd ["plan"] (spFRow false) := by
 refine F.ok scFRow (fun vs H Q E h => ?_) (fun cdv A outer s H vs Q E hr h => ?_)
 ·obtain ⟨t, a, b, ns, ss, rfl, _⟩ := h
  rfl
 obtain ⟨t, a, b, ns, ss, rfl, pl, qn, qs⟩ := h
 refine ⟨_, (@pss_cons _ _ _ _ _ (ps_expr (pe_call GC hr rfl mC kC bC .nil pass0 (pa_cons (pv 0) pa_nil))) (@pss_one _ _ _ (ps_ret (pe_call GF hr rfl mF kF bF .nil pass0 (pa_cons (pv 0) (pa_cons (pe_call GA hr rfl mA kA bA .nil pass0 (pa_cons (pv 0) pa_nil)) (pa_cons (pe_call GA hr rfl mA kA bA .nil pass0 (pa_cons (pv 0) pa_nil)) pa_nil))))))), ?_⟩
 refine ⟨_, rfl, t, a, b, ns, ss, rfl, pl, ?_⟩
 refine ⟨_, rfl, _, rfl, t, a, b, ns, ss, rfl, pl, fun l1 hl1 => ?_⟩
 have g1 : Same H (upd H l1 (.lst ((iv (List.range ns.length)).map V.int))) := Same.new hl1 _
 refine ⟨_, rfl, t, a, b, ns, ss, rfl, pl.same g1, fun l2 hl2 => ?_⟩
 have g2 : Same (upd H l1 (.lst ((iv (List.range ns.length)).map V.int))) (upd (upd H l1 (.lst ((iv (List.range ns.length)).map V.int))) l2 (.lst ((iv (List.range ns.length)).map V.int))) := Same.new hl2 _
 have e : hasW ns ss false = can (nearX ns ss (List.range ns.length)) (endsP ns ss false) (2 ^ ns.length - 1) ns.length := by
  unfold hasW canW firsts
  simp
 refine ⟨t, a, b, l1, l2, ns, ss, List.range ns.length, List.range ns.length, endsP ns ss false, rfl, (pl.same g1).same g2, g2 _ _ upd_same, upd_same, fun k hk => List.mem_range.mp hk, List.pairwise_lt_range, fun e he => ?_, fun hc H' g => ?_, fun hc l H' g hl e' => ?_⟩
 ·have : (List.range ns.length).contains e = true := List.contains_iff_mem.mpr (List.mem_range.mpr he)
  rw [this]
  rfl
 ·exact qn (e.trans hc) H' ((g1.trans g2).trans g)
 ·exact qs (e.trans hc) l H' ((g1.trans g2).trans g) (none_of_same (g1.trans g2) hl) e'
end
abbrev sTIn : Stmt := inClass (top 30) 0
abbrev sWy : Stmt := inClass (top 30) 1
abbrev sWb : Stmt := inClass (top 30) 2
abbrev sAw : Stmt := inClass (top 30) 3
structure TyT (K : PySem.W.Frag) (C : Addr) : Prop extends SrT K C where
 nL : NoAttr K C "last_places"
 nK : NoAttr K C "known"
section
variable (near : Nat → List Nat) (ends : Nat → Bool)
def waysF : Nat → Nat → Nat → Nat
 | 0, _, e => if ends e then 1 else 0
 | m + 1, left, e => (((near e).filter fun k => left.testBit k).map fun k => waysF m (left - 2 ^ k) k).sum
def ways (left e : Nat) : Nat := waysF near ends (cnt left) left e
variable {near ends}
theorem ways_succ {n left e : Nat} (N : NearOk near n) (hl : left < 1024) (h0 : left ≠ 0) (he : e ≤ n) : ways near ends left e = (((near e).filter fun k => left.testBit k).map fun k => ways near ends (left - 2 ^ k) k).sum := by
 unfold ways
 cases hc : cnt left with
 | zero => exact absurd (cnt_zero left hl hc) h0
 | succ m =>
  show (((near e).filter fun k => left.testBit k).map fun k => waysF near ends m (left - 2 ^ k) k).sum = _
  congr 1
  refine List.map_congr_left fun k hk => ?_
  obtain ⟨hk1, hb⟩ := List.mem_filter.mp hk
  have := (cnt_dec left hl k (Nat.lt_of_lt_of_le (N.lt e he k hk1) N.n10) hb).1
  have em : cnt (left - 2 ^ k) = m := by omega
  rw [em]
end
section
variable (n : Nat) (near : Nat → List Nat) (ends : Nat → Bool)
structure MemoT (kvs : List (List Key × V)) : Prop where
 nd : (kvs.map (·.1)).Nodup
 ok : ∀ kv ∈ kvs, ∃ l e, kv.1 = ky l e ∧ l ≠ 0 ∧ l < 2 ^ n ∧ e ≤ n ∧ kv.2 = .int (ways near ends l e : Nat)
variable {n near ends}
theorem memoT_nil : MemoT n near ends [] := ⟨List.nodup_nil, (fun _ h => nomatch h)⟩
theorem MemoT.val {kvs : List (List Key × V)} (M : MemoT n near ends kvs) {l e : Nat} {v : V} (h : valV kvs (ky l e) = some v) : v = .int (ways near ends l e : Nat) := by
 obtain ⟨l', e', h1, _, _, _, h2⟩ := M.ok _ (val_mem h)
 obtain ⟨rfl, rfl⟩ := ky_inj h1
 exact h2
theorem MemoT.len {kvs : List (List Key × V)} (M : MemoT n near ends kvs) (hn : n ≤ 10) : kvs.length < sizeLine := by
 have hp : 2 ^ n ≤ 1024 := pow_le n (by omega)
 have hc : ∀ kv ∈ kvs, kcode kv.1 < 11264 := fun kv h => by
  obtain ⟨l, e, h1, _, h3, h4, _⟩ := M.ok kv h
  rw [h1]
  show ((l : Int)).toNat * 11 + ((e : Int)).toNat < 11264
  omega
 have hnd : (kvs.map fun kv => kcode kv.1).Nodup := by
  have h := M.nd
  unfold List.Nodup at h ⊢
  rw [List.pairwise_map] at h ⊢
  refine h.imp_of_mem fun {x y} hx hy hne he => hne ?_
  obtain ⟨l, e, h1, _, _, h4, _⟩ := M.ok x hx
  obtain ⟨l', e', h1', _, _, h4', _⟩ := M.ok y hy
  rw [h1, h1'] at he ⊢
  have he' : ((l : Int)).toNat * 11 + ((e : Int)).toNat = ((l' : Int)).toNat * 11 + ((e' : Int)).toNat := he
  have : l = l' ∧ e = e' := by omega
  rw [this.1, this.2]
 have h := pigeon 11264 _ hnd fun x hx => by
  obtain ⟨kv, h1, rfl⟩ := List.mem_map.mp hx
  exact hc kv h1
 rw [List.length_map] at h
 rw [sizeLine_eq]
 omega
theorem MemoT.put {kvs : List (List Key × V)} (M : MemoT n near ends kvs) {l e : Nat} (h0 : l ≠ 0) (hl : l < 2 ^ n) (he : e ≤ n) : MemoT n near ends (putK kvs (ky l e) (.int (ways near ends l e : Nat))) := by
 refine ⟨?_, ?_⟩
 ·cases hv : valV kvs (ky l e) with
  | none =>
   rw [putK_new _ hv, List.map_append]
   refine List.nodup_append.mpr ⟨M.nd, by simp, fun a ha b hb hab => ?_⟩
   have eb : b = ky l e := by simpa using hb
   subst eb
   subst hab
   obtain ⟨kv, h1, h2⟩ := List.mem_map.mp ha
   have h3 := valV_any (ky l e) kvs
   rw [hv] at h3
   have h4 : (kvs.any fun kv => decide (kv.1 = ky l e)) = true := List.any_eq_true.mpr ⟨kv, h1, decide_eq_true h2⟩
   rw [h4] at h3
   cases h3
  | some v =>
   unfold putK
   rw [valV_any, hv]
   rw [if_pos (show (some v).isSome = true from rfl), List.map_map]
   have : (kvs.map ((fun x : List Key × V => x.1) ∘ fun kv => if kv.1 = ky l e then (kv.1, V.int (ways near ends l e : Nat)) else kv)) = kvs.map (·.1) := by
    refine List.map_congr_left fun kv _ => ?_
    show (if kv.1 = ky l e then (kv.1, V.int (ways near ends l e : Nat)) else kv).1 = kv.1
    split <;> rfl
   rw [this]
   exact M.nd
 ·intro kv h
  unfold putK at h
  split at h
  ·obtain ⟨kv', h1, h2⟩ := List.mem_map.mp h
   by_cases z : kv'.1 = ky l e
   ·rw [if_pos z] at h2
    rw [← h2]
    exact ⟨l, e, z, h0, hl, he, rfl⟩
   ·rw [if_neg z] at h2
    rw [← h2]
    exact M.ok kv' h1
  ·rcases List.mem_append.mp h with z | z
   ·exact M.ok kv z
   ·have z : kv = (ky l e, V.int (ways near ends l e : Nat)) := by simpa using z
    rw [z]
    exact ⟨l, e, rfl, h0, hl, he, rfl⟩
end
def fsT (p : SP) : List (Str × V) := [("ahead", .int p.n), ("near", .ref p.nr), ("whole", .int ((2 ^ p.n - 1 : Nat) : Int)), ("last_places", .ref p.lp), ("known", .ref p.ow)]
structure Tly (C : Addr) (p : SP) (H : Hp) : Prop where
 at_ : H p.s = some (.ins C p.dx (fsT p))
 nr : NearAt H p.nr p.n p.near
 lp : H p.lp = some (.lst ((iv p.lasts).map V.int))
 ok : NearOk p.near p.n
 le : ∀ e < p.n, p.lasts.contains e = p.ends e
def KnownT (p : SP) (H : Hp) (kvs : List (List Key × V)) : Prop := H p.ow = some (.dT kvs) ∧ MemoT p.n p.near p.ends kvs
theorem Tly.ex {C : Addr} {p : SP} {H H' : Hp} {kvs : List (List Key × V)} (S : Tly C p H) (hk : H p.ow = some (.dT kvs)) (g : Ex (· = p.ow) H H') : Tly C p H' := by
 have ne : ∀ {b o}, H b = some o → (∀ kvs, o ≠ .dT kvs) → H' b = some o := fun {b o} h d => g b o (fun z => d kvs (by rw [z, hk] at h; exact (Option.some.inj h).symm)) h
 obtain ⟨rs, q1, q2, q3⟩ := S.nr
 exact ⟨ne S.at_ (fun _ z => by cases z), ⟨rs, q1, ne q2 (fun _ z => by cases z), fun e he => let ⟨r, a, b⟩ := q3 e he; ⟨r, a, ne b (fun _ z => by cases z)⟩⟩, ne S.lp (fun _ z => by cases z), S.ok, S.le⟩
theorem Tly.lt {C : Addr} {p : SP} {H : Hp} (S : Tly C p H) {left : Nat} (h : left < 2 ^ p.n) : left < 1024 := Nat.lt_of_lt_of_le h (pow_le _ (Nat.lt_succ_of_le S.ok.n10))
def spWays (C : Addr) (m : Nat) : Sp := fun vs H Q _ => ∃ (p : SP) (kvs : List (List Key × V)) (left e : Nat), vs = [.ref p.s, .int left, .int e] ∧ Tly C p H ∧ KnownT p H kvs ∧ left < 2 ^ p.n ∧ cnt left ≤ m ∧ e ≤ p.n ∧ (left = 0 → e < p.n) ∧
 ∀ (H' : Hp) (kvs' : List (List Key × V)), Ex (· = p.ow) H H' → KnownT p H' kvs' → Q (.int (ways p.near p.ends left e : Nat)) H'
def spWb (C : Addr) (m : Nat) : Sp := fun vs H Q _ => ∃ (p : SP) (kvs : List (List Key × V)) (left k : Nat), vs = [.ref p.s, .int left, .int k] ∧ Tly C p H ∧ KnownT p H kvs ∧ left < 2 ^ p.n ∧ left.testBit k = true ∧ k < p.n ∧ cnt left ≤ m ∧
 ∀ (H' : Hp) (kvs' : List (List Key × V)), Ex (· = p.ow) H H' → KnownT p H' kvs' → Q (.int (ways p.near p.ends (left - 2 ^ k) k : Nat)) H'
def spAw (C : Addr) : Sp := fun vs H Q _ => ∃ (p : SP) (kvs : List (List Key × V)), vs = [.ref p.s] ∧ Tly C p H ∧ KnownT p H kvs ∧ 1 ≤ p.n ∧ ∀ (H' : Hp) (kvs' : List (List Key × V)), Ex (· = p.ow) H H' → KnownT p H' kvs' → Q (.int (ways p.near p.ends (2 ^ p.n - 1) p.n : Nat)) H'
def spTIn (C : Addr) : Sp := fun vs H Q _ => ∃ (s t a b fp lp dx : Addr) (ns ss : List Int) (fs ls : List Nat), vs = [.ref s, .ref t, .ref fp, .ref lp] ∧ H s = some (.ins C dx []) ∧ IsPl H t a b ns ss ∧ H fp = some (.lst ((iv fs).map V.int)) ∧ H lp = some (.lst ((iv ls).map V.int)) ∧
 ∀ (nr lq ow : Addr) (H' : Hp), Ex (· = s) H H' → H ow = none → H' s = some (.ins C dx [("ahead", .int ns.length), ("near", .ref nr), ("whole", .int ((2 ^ ns.length - 1 : Nat) : Int)), ("last_places", .ref lq), ("known", .ref ow)]) →
  NearAt H' nr ns.length (nearX ns ss fs) → H' lq = some (.lst ((iv ls).map V.int)) → H' ow = some (.dT []) → Q .non H'
theorem sum_cast (l : List Nat) (f : Nat → Nat) : (l.map fun k => ((f k : Nat) : Int)).sum = (((l.map f).sum : Nat) : Int) := by
 induction l with
 | nil => rfl
 | cons a r ih => rw [List.map_cons, List.map_cons, List.sum_cons, List.sum_cons, ih]; omega
section
variable {f g1 g2 C C0 : Addr} {mc : Value} {fd gd1 gd2 : FuncData}
theorem scWb : FnScope ["self", "left", "place"] ["self", "left", "place"] (defScope sWb) := ⟨rfl, rfl, rfl, by decide +kernel, rfl, by decide +kernel, by decide +kernel⟩
theorem ok_wb {j m : Nat} (F : Fun K "ways_by" "Tally.ways_by" sWb f fd) (T : TyT K C) (mW : Meth K C "ways" g1)
  (GW : FnOk P w K mg base CX0 j g1 gd1 ["self", "left", "end"] (spWays C m)) (bW : Binds K gd1 ["self", "left", "end"] []) : FnOk P w K mg base CX0 (j + 1) f fd ["self", "left", "place"] (spWb C (m + 1)) := by
 refine F.ok scWb (fun vs H Q E h => ?_) (fun cdv A outer s H vs Q E hr h => ?_)
 ·obtain ⟨p, kvs, left, k, rfl, _⟩ := h
  rfl
 obtain ⟨p, kvs, left, k, rfl, S, hd, hl, hb, hk, hc, q⟩ := h
 refine ⟨_, (@pss_one _ _ _ (ps_ret (pe_meth (pv 0) T.cl mW GW hr bW .nil pass0 (pa_cons (pe_op op_sub (pv 1) (pe_op op_shl pe_int (pv 2))) (pa_cons (pv 2) pa_nil))))), ?_⟩
 have n10 := S.ok.n10
 have hdec := cnt_dec left (S.lt hl) k (by omega) hb
 refine ⟨_, rfl, p.s, p.dx, _, rfl, S.at_, rfl, _, rfl, _, rfl, _, _, rfl, rfl, ⟨by show (0 : Int) ≤ (k : Int); omega, by show (k : Int) ≤ 1000000; omega, by decide⟩, _, _, rfl, rfl, _, rfl, ?_⟩
 exact ⟨p, kvs, left - 2 ^ k, k, congrArg (fun x => [V.ref p.s, V.int x, V.int (k : Int)]) (sub_V left k (bit_le hb)), S, hd, by omega, by omega, by omega, fun _ => hk, q⟩
theorem scWy : FnScope ["self", "left", "end", "key"] ["self", "left", "end"] (defScope sWy) := ⟨rfl, rfl, rfl, by decide +kernel, rfl, by decide +kernel, by decide +kernel⟩
theorem ok_wy {j m : Nat} (F : Fun K "ways" "Tally.ways" sWy f fd) (B : Bt4 mg) (T : TyT K C) (mB : Meth K C "ways_by" g1) (mS : Meth K C "steps" g2)
  (GB : FnOk P w K mg base CX0 j g1 gd1 ["self", "left", "place"] (spWb C m)) (bB : Binds K gd1 ["self", "left", "place"] [])
  (GS : FnOk P w K mg base CX0 j g2 gd2 ["self", "left", "end"] (spSteps C)) (bS : Binds K gd2 ["self", "left", "end"] []) : FnOk P w K mg base CX0 (j + 1) f fd ["self", "left", "end"] (spWays C m) := by
 refine F.ok scWy (fun vs H Q E h => ?_) (fun cdv A outer s H vs Q E hr h => ?_)
 ·obtain ⟨p, kvs, left, e, rfl, _⟩ := h
  rfl
 obtain ⟨p, kvs, left, e, rfl, S, hd, hl, hc, he, h0, q⟩ := h
 have hu := hu_of hr
 refine ⟨_, (@pss_cons _ _ _ _ _ (ps_if (pt_cmpR op_eq (pv 1) pe_int (nomark _)) (@pss_one _ _ _ (ps_ret (pe_ifExp (pt_cmpR (op_inI K) (pv 2) (pe_fld (pv 0) rfl) rfl) pe_int pe_int))) pss_nil) (@pss_cons _ _ _ _ _ (ps_set (i := 3) scWy.nd rfl (Or.inl rfl) (pe_tup (pa_cons (pv 1) (pa_cons (pv 2) pa_nil)))) (@pss_cons _ _ _ _ _ (ps_if (pt_cmp (pc_dnotin hu (pv 3) (pe_fld (pv 0) rfl))) (@pss_one _ _ _ (ps_dput hu (pe_fld (pv 0) rfl) (pv 3) (pe_callB (call_sumL rfl) rfl B.sum boot_sum (pa_cons (pe_comp ["place"] rfl (blk_ok (defScope sWy) ["self", "left", "end", "key"] rfl rfl (by decide +kernel)) (pi_list (pe_meth (pv 0) T.cl mS GS hr bS .nil pass0 (pa_cons (pv 1) (pa_cons (pv 2) pa_nil)))) (fun pins C fp s3 H3 => ⟨(pg_name (i := 0) (show (blkN ["place"] ["self", "left", "end", "key"]).Nodup by decide +kernel) rfl (Or.inl rfl)), pif_nil, (pe_meth (pv 1) T.cl mB GB hr bB .nil pass0 (pa_cons (pv 2) (pa_cons (pv 0) pa_nil)))⟩)) pa_nil)) rfl)) pss_nil) (@pss_one _ _ _ (ps_ret (pe_dget hu (pe_fld (pv 0) rfl) (pv 3) (fun _ _ => rfl))))))), ?_⟩
 refine ⟨_, rfl, rfl, _, rfl, ite2 (fun c => ?_) (fun c => ?_)⟩
 ·have el : left = 0 := by
   have z := V.int.inj (of_decide_eq_true c)
   omega
  subst el
  have z := q H kvs Ex.refl hd
  have e0 : ways p.near p.ends 0 e = if p.ends e then 1 else 0 := rfl
  rw [e0, ← S.le e (h0 rfl), ← iv_contains] at z
  refine ⟨_, rfl, _, rfl, p.s, C, p.dx, _, _, rfl, S.at_, T.cl, T.nL, rfl, p.lp, _, _, rfl, rfl, SqL.of S.lp, _, rfl, ite2 (fun c => ?_) (fun c => ?_)⟩
  ·have c' : (iv p.lasts).contains (e : Int) = true := c
   rw [c'] at z
   exact z
  ·have c' : (iv p.lasts).contains (e : Int) = false := Bool.eq_false_iff.mpr c
   rw [c'] at z
   exact z
 ·have el : left ≠ 0 := fun z => c (decide_eq_true (by rw [z]; rfl))
  refine ⟨_, rfl, _, rfl, two_le, fun kt hkt => ?_⟩
  have gk : Same H (upd H kt (.tup [.int (left : Int), .int (e : Int)])) := Same.new hkt _
  have S1 : Tly C p (upd H kt (.tup [.int (left : Int), .int (e : Int)])) := S.ex hd.1 (Ex.same gk)
  have hd1 : KnownT p (upd H kt (.tup [.int (left : Int), .int (e : Int)])) kvs := ⟨gk _ _ hd.1, hd.2⟩
  have hk1 : (upd H kt (.tup [.int (left : Int), .int (e : Int)])) kt = some (.tup ((ky left e).map kV)) := upd_same
  have ex1 : Ex (· = p.ow) H (upd H kt (.tup [.int (left : Int), .int (e : Int)])) := Ex.same gk
  generalize upd H kt (.tup [.int (left : Int), .int (e : Int)]) = H1 at S1 hd1 hk1 ex1 ⊢
  refine ⟨_, rfl, _, rfl, p.s, C, p.dx, _, _, rfl, S1.at_, T.cl, T.nK, rfl, p.ow, _, rfl, DGet.t hd1.1 hk1, _, rfl, ite2 (fun c2 => ?_) (fun c2 => ?_)⟩
  ·have hl' := S.lt hl
   have n10 := S.ok.n10
   refine ⟨_, rfl, p.s, p.dx, _, rfl, S1.at_, rfl, _, rfl, _, rfl, p.s, p.dx, p.nr, _, p.n, p.near, left, e, rfl, S1.at_, rfl, S1.nr, S1.ok, he, hl', fun l H2 g2 hln e2 => ⟨l, rfl, ⟨_, SqL.of e2⟩, fun D hD => ?_⟩⟩
   have hd2 : KnownT p H2 kvs := ⟨g2 _ _ hd1.1, hd1.2⟩
   have lo : l ≠ p.ow := ne_of e2 hd2.1 (by intro z; cases z)
   have Do : p.ow ≠ D := ne_of_none hd2.1 hD
   have lD : l ≠ D := ne_of_none e2 hD
   have klen : ((p.near e).filter fun k => left.testBit k).length ≤ 10 := Nat.le_trans (List.length_filter_le _ _) (Nat.le_trans (near_len S.ok he) n10)
   obtain ⟨ks, eks⟩ : ∃ ks, ks = (p.near e).filter fun k => left.testBit k := ⟨_, rfl⟩
   have ew := ways_succ (ends := p.ends) S.ok hl' el he
   have hmem : ∀ k ∈ ks, k < p.n ∧ left.testBit k = true := fun k hk => by
    rw [eks] at hk
    obtain ⟨h1, h2⟩ := List.mem_filter.mp hk
    exact ⟨S.ok.lt e he k h1, h2⟩
   rw [← eks] at e2 klen ew
   have kml : ((iv ks).map V.int).length = ks.length := by rw [List.length_map, iv_len]
   refine turns_any (n := ks.length) (fun i σ' H' => ∃ (x : Option V) (kvs' : List (List Key × V)), σ' = [x, some (.ref p.s), some (.int left), some (.int e), some (.ref kt)] ∧ Ex (· = p.ow) H2 H' ∧ KnownT p H' kvs' ∧ H' D = some (.lst (((ks.take i).map fun k => ((ways p.near p.ends (left - 2 ^ k) k : Nat) : Int)).map V.int)))
    ⟨none, kvs, rfl, Ex.new _ hD, ⟨by rw [upd_ne Do]; exact hd2.1, hd2.2⟩, upd_same⟩ ?_ ?_
   ·rintro i σ' H' hi ⟨x, kvs', rfl, ex, hk', hD'⟩
    have ek : ks[i]? = some ks[i] := List.getElem?_eq_getElem hi
    obtain ⟨hkn, hb⟩ := hmem _ (List.getElem_mem hi)
    have el2 := ex _ _ lo e2
    refine ⟨⟨_, _, SqL.of el2, nat_at ek⟩, fun y H3 hy => ?_⟩
    obtain ⟨rfl, hy⟩ := hy
    have ey := hy _ (SqL.of el2)
    rw [nat_at ek] at ey
    cases ey
    refine comp_true ?_
    have S' : Tly C p H3 := (S1.ex hd1.1 (Ex.same g2)).ex hd2.1 ex
    refine ⟨_, rfl, p.s, p.dx, _, rfl, S'.at_, rfl, _, rfl, _, rfl, p, kvs', left, ks[i], rfl, S', hk', hl, hb, hkn, hc, fun H4 kvs4 ex4 hk4 => ?_⟩
    have hD4 := ex4 _ _ (Ne.symm Do) hD'
    refine ⟨_, hD4, small1000 (by rw [List.length_map, List.length_map, List.length_take]; omega), _, kvs4, rfl, fun c o hc ho => ?_, ⟨by rw [upd_ne Do]; exact hk4.1, hk4.2⟩, ?_⟩
    ·rw [upd_ne (ne_of_none ho hD)]
     exact ex4 _ _ hc (ex _ _ hc ho)
    ·rw [upd_same, List.take_add_one, ek, List.map_append, List.map_append]
     rfl
   ·rintro σ' H' ⟨x, kvs', rfl, ex, hk', hD'⟩
    have el2 := ex _ _ lo e2
    refine ⟨⟨_, SqL.of el2, by rw [kml]; exact Nat.le_refl _⟩, ?_⟩
    rw [List.take_of_length_le (Nat.le_refl _)] at hD'
    refine ⟨D, _, rfl, hD', ?_⟩
    have S' : Tly C p H' := (S1.ex hd1.1 (Ex.same g2)).ex hd2.1 ex
    have hk2 : H' kt = some (.tup ((ky left e).map kV)) := ex _ _ (ne_of (g2 _ _ hk1) hd2.1 (by intro z; cases z)) (g2 _ _ hk1)
    have esum : (ks.map fun k => ((ways p.near p.ends (left - 2 ^ k) k : Nat) : Int)).sum = ((ways p.near p.ends left e : Nat) : Int) := by rw [sum_cast, ew]
    refine ⟨_, rfl, p.s, C, p.dx, _, _, rfl, S'.at_, T.cl, T.nK, rfl, _, rfl, p.ow, _, rfl, DPut.t hk'.1 hk2 (hk'.2.len S.ok.n10), ?_⟩
    rw [esum]
    have M3 := hk'.2.put el hl he
    have ex3 : Ex (· = p.ow) H' (upd H' p.ow (.dT (putK kvs' (ky left e) (.int (ways p.near p.ends left e : Nat))))) := Ex.put _ rfl
    have S3 := S'.ex hk'.1 ex3
    have hk3 := ex3 _ _ (ne_of hk2 hk'.1 (by intro z; cases z)) hk2
    refine ⟨_, rfl, p.s, C, p.dx, _, _, rfl, S3.at_, T.cl, T.nK, rfl, _, rfl, p.ow, _, rfl, by have z := DGet.t (upd_same (H := H') (a := p.ow) (o := .dT (putK kvs' (ky left e) (.int (ways p.near p.ends left e : Nat))))) hk3; rw [valV_put, if_pos rfl] at z; exact z, ?_⟩
    exact q _ _ (((ex1.trans (Ex.same g2)).trans ex).trans ex3) ⟨upd_same, M3⟩
  ·cases ev : valV kvs (ky left e) with
   | none => rw [ev] at c2; exact absurd rfl c2
   | some v =>
    have hv := hd.2.val ev
    refine ⟨_, rfl, p.s, C, p.dx, _, _, rfl, S1.at_, T.cl, T.nK, rfl, _, rfl, p.ow, _, rfl, by have z := DGet.t hd1.1 hk1; rw [ev] at z; exact z, ?_⟩
    rw [hv]
    exact q _ _ ex1 hd1
theorem ok_ways {wa wb sf : Addr} {wd wbd sfd : FuncData} (FW : Fun K "ways" "Tally.ways" sWy wa wd) (FB : Fun K "ways_by" "Tally.ways_by" sWb wb wbd) (B : Bt4 mg) (T : TyT K C) (mW : Meth K C "ways" wa) (mB : Meth K C "ways_by" wb) (mS : Meth K C "steps" sf)
  (GS : FnOk P w K mg base CX0 1 sf sfd ["self", "left", "end"] (spSteps C)) (bS : Binds K sfd ["self", "left", "end"] []) (bW : Binds K wd ["self", "left", "end"] []) (bB : Binds K wbd ["self", "left", "place"] []) :
  ∀ m : Nat, FnOk P w K mg base CX0 (2 * m + 2) wa wd ["self", "left", "end"] (spWays C m)
 | 0 => ok_wy (j := 1) FW B T mB mS ⟨fun vs H Q E h => by obtain ⟨p, kvs, left, k, rfl, _⟩ := h; rfl, fun A outer s H args us vs Q E _ _ _ _ h => by
   obtain ⟨p, kvs, left, k, _, S, _, hl, hb, hk, hc, _⟩ := h
   have n10 := S.ok.n10
   have := (cnt_dec left (S.lt hl) k (by omega) hb).1
   omega⟩ bB GS bS
 | m + 1 => by
  have GW := ok_ways FW FB B T mW mB mS GS bS bW bB m
  have GB := ok_wb (j := 2 * m + 2) FB T mW GW bW
  exact ok_wy (j := 2 * m + 3) FW B T mB mS GB bB (GS.mono (by omega)) bS
theorem scAw : FnScope ["self"] ["self"] (defScope sAw) := ⟨rfl, rfl, rfl, by decide +kernel, rfl, by decide +kernel, by decide +kernel⟩
theorem ok_aw (F : Fun K "all_ways" "Tally.all_ways" sAw f fd) (T : TyT K C) (mW : Meth K C "ways" g1) (GW : FnOk P w K mg base CX0 22 g1 gd1 ["self", "left", "end"] (spWays C 10)) (bW : Binds K gd1 ["self", "left", "end"] []) : FnOk P w K mg base CX0 23 f fd ["self"] (spAw C) := by
 refine F.ok scAw (fun vs H Q E h => ?_) (fun cdv A outer s H vs Q E hr h => ?_)
 ·obtain ⟨p, kvs, rfl, _⟩ := h
  rfl
 obtain ⟨p, kvs, rfl, S, hd, n1, q⟩ := h
 refine ⟨_, (@pss_one _ _ _ (ps_ret (pe_meth (pv 0) T.cl mW GW hr bW .nil pass0 (pa_cons (pe_fld (pv 0) rfl) (pa_cons (pe_fld (pv 0) rfl) pa_nil))))), ?_⟩
 have p2 : 2 ≤ 2 ^ p.n := Nat.pow_le_pow_right (n := 2) (by decide) n1
 have hw : 2 ^ p.n - 1 < 2 ^ p.n := by omega
 refine ⟨_, rfl, p.s, p.dx, _, rfl, S.at_, rfl, _, rfl, p.s, C, p.dx, _, _, rfl, S.at_, T.cl, T.nW, rfl, _, rfl, p.s, C, p.dx, _, _, rfl, S.at_, T.cl, T.nA, rfl, ?_⟩
 exact ⟨p, kvs, 2 ^ p.n - 1, p.n, rfl, S, hd, hw, cnt_le _ (S.lt hw), Nat.le_refl _, fun z => by omega, q⟩
theorem scTIn : FnScope ["self", "plan", "first_places", "last_places"] ["self", "plan", "first_places", "last_places"] (defScope sTIn) := ⟨rfl, rfl, rfl, by decide +kernel, rfl, by decide +kernel, by decide +kernel⟩
theorem ok_tin (F : Fun K "__init__" "Tally.__init__" sTIn f fd) (B : Bt3 mg) (T : TyT K C) (BI : Base K C0 mc "__init__" g1) (mI : mg "Steps" = some (.ref C0))
  (GI : FnOk P w K mg base CX0 3 g1 gd1 ["self", "plan", "first_places"] (spIni0 C)) (bI : Binds K gd1 ["self", "plan", "first_places"] []) : FnOk P w K mg base CX0 4 f fd ["self", "plan", "first_places", "last_places"] (spTIn C) := by
 refine F.ok scTIn (fun vs H Q E h => ?_) (fun cdv A outer s H vs Q E hr h => ?_)
 ·obtain ⟨s, t, a, b, fp, lp, dx, ns, ss, fs, ls, rfl, _⟩ := h
  rfl
 obtain ⟨s, t, a, b, fp, lp, dx, ns, ss, fs, ls, rfl, hs, pl, hfp, hlp, q⟩ := h
 refine ⟨_, (@pss_cons _ _ _ _ _ (ps_expr (pe_base BI GI hr rfl mI bI .nil pass0 (pa_cons (pv 0) (pa_cons (pv 1) (pa_cons (pv 2) pa_nil))))) (@pss_cons _ _ _ _ _ (ps_fld (pv 0) (pe_callTy call_list_of rfl B.list PyProof.Rows.boot_list (pa_cons (pv 3) pa_nil)) rfl) (@pss_one _ _ _ (ps_fld (pv 0) pe_dnewT rfl)))), ?_⟩
 refine ⟨_, rfl, _, rfl, _, rfl, s, t, a, b, fp, dx, ns, ss, fs, rfl, hs, pl, hfp, fun nr H1 ex1 s1 na1 => ?_⟩
 have lps : lp ≠ s := ne_of hlp hs (by intro z; cases z)
 have lp1 := ex1 _ _ lps hlp
 refine ⟨_, rfl, lp, _, rfl, .inl (SqL.of lp1), fun lq hlq => ?_⟩
 have g2 : Same H1 (upd H1 lq (.lst ((iv ls).map V.int))) := Same.new hlq _
 refine ⟨_, rfl, s, C, dx, _, rfl, g2 _ _ s1, T.cl, T.nL, (by show 3 < 1000; decide), ?_⟩
 refine fun ow how => ?_
 have sq : s ≠ lq := ne_of_none s1 hlq
 have ow_s : ow ≠ s := fun z => by rw [z, upd_same] at how; cases how
 have ow_q : ow ≠ lq := fun z => by rw [z, upd_ne sq.symm, upd_same] at how; cases how
 have how1 : H1 ow = none := by rwa [upd_ne ow_s, upd_ne ow_q] at how
 refine ⟨_, rfl, s, C, dx, _, rfl, by rw [upd_ne (Ne.symm ow_s)]; exact upd_same, T.cl, T.nK, (by show 4 < 1000; decide), ?_⟩
 obtain ⟨rs, q1, q2, q3⟩ := na1
 have st : ∀ {c : Addr} {o : HO}, c ≠ s → H1 c = some o → ∀ {o1 o2}, (upd (upd (upd (upd H1 lq (.lst ((iv ls).map V.int))) s o1) ow (.dT [])) s o2) c = some o := fun {c o} hc h {o1 o2} => by
  rw [upd_ne hc, upd_ne (ne_of_none h how1), upd_ne hc, upd_ne (ne_of_none h hlq)]
  exact h
 refine q nr lq ow _ (fun c o hc ho => st hc (ex1 c o hc ho)) ?_ ?_ ⟨rs, q1, st (ne_of q2 s1 (by intro z; cases z)) q2, fun e he => let ⟨r, r1, r2⟩ := q3 e he; ⟨r, r1, st (ne_of r2 s1 (by intro z; cases z)) r2⟩⟩ ?_ ?_
 ·cases e : H ow with
  | none => rfl
  | some o => rw [ex1 _ _ ow_s e] at how1; cases how1
 ·rw [upd_same]
  rfl
 ·rw [upd_ne (Ne.symm sq), upd_ne (Ne.symm ow_q), upd_ne (Ne.symm sq), upd_same]
 ·rw [upd_ne ow_s, upd_same]
end
theorem addUp_comm (ss : List Int) (x y : Int) : addUp ss x y = addUp ss y x := by
 unfold addUp
 rw [Int.add_comm, show decide (x ≠ y) = decide (y ≠ x) from decide_eq_decide.mpr ⟨fun h z => h z.symm, fun h z => h z.symm⟩]
abbrev sTr : Stmt := top 31
abbrev sCr : Stmt := top 32
abbrev sCg : Stmt := top 33
def cntW (ns ss : List Int) (ring : Bool) : Nat := ways (nearX ns ss (firsts ns.length ring)) (endsP ns ss ring) (2 ^ ns.length - 1) ns.length
def ringsW (ns ss : List Int) : Nat := if ns.length < 3 then 0 else ns.length * cntW ns ss true
def spTr (C : Addr) : Sp := fun vs H Q _ => ∃ (t a b : Addr) (ns ss : List Int), vs = [.ref t] ∧ IsPl H t a b ns ss ∧ ∀ (p : SP) (H' : Hp), p.n = ns.length → p.near = nearX ns ss (List.range ns.length) → p.ends = endsP ns ss false → Same H H' → H p.ow = none → Tly C p H' → KnownT p H' [] → Q (.ref p.s) H'
def spCount (f : List Int → List Int → Nat) : Sp := fun vs H Q _ => ∃ (t a b : Addr) (ns ss : List Int), vs = [.ref t] ∧ IsPl H t a b ns ss ∧ ∀ H', Same H H' → Q (.int (f ns ss : Nat)) H'
section
variable {f g1 g2 g3 g4 C : Addr} {fd gd1 gd2 gd3 gd4 : FuncData} {t3 : Tok}
theorem scTr : FnScope ["plan"] ["plan"] (defScope sTr) := ⟨rfl, rfl, rfl, by decide +kernel, rfl, by decide +kernel, by decide +kernel⟩
theorem ok_tr (F : Fun K "tally_of_rows" "tally_of_rows" sTr f fd) (MT : Mk K C g1) (mT : mg "Tally" = some (.ref C))
  (GI : FnOk P w K mg base CX0 4 g1 gd1 ["self", "plan", "first_places", "last_places"] (spTIn C)) (bI : Binds K gd1 ["self", "plan", "first_places", "last_places"] [])
  (GA : FnOk P w K mg base CX0 5 g2 gd2 ["plan"] spAllP) (bA : Binds K gd2 ["plan"] []) (kA : Kee K g2) (mA : mg "all_places" = some (.ref g2)) : FnOk P w K mg base CX0 6 f fd ["plan"] (spTr C) := by
 refine F.ok scTr (fun vs H Q E h => ?_) (fun cdv A outer s H vs Q E hr h => ?_)
 ·obtain ⟨t, a, b, ns, ss, rfl, _⟩ := h
  rfl
 obtain ⟨t, a, b, ns, ss, rfl, pl, q⟩ := h
 refine ⟨_, (@pss_one _ _ _ (ps_ret (pe_make MT GI hr rfl mT bI .nil pass0 (pa_cons (pv 0) (pa_cons (pe_call GA hr rfl mA kA bA .nil pass0 (pa_cons (pv 0) pa_nil)) (pa_cons (pe_call GA hr rfl mA kA bA .nil pass0 (pa_cons (pv 0) pa_nil)) pa_nil)))))), ?_⟩
 refine ⟨_, rfl, _, rfl, t, a, b, ns, ss, rfl, pl, fun l1 hl1 => ?_⟩
 have g1 : Same H (upd H l1 (.lst ((iv (List.range ns.length)).map V.int))) := Same.new hl1 _
 refine ⟨_, rfl, t, a, b, ns, ss, rfl, pl.same g1, fun l2 hl2 => fun x dx nx ndx nex => ?_⟩
 have g2 : Same (upd H l1 (.lst ((iv (List.range ns.length)).map V.int))) (upd (upd H l1 (.lst ((iv (List.range ns.length)).map V.int))) l2 (.lst ((iv (List.range ns.length)).map V.int))) := Same.new hl2 _
 have e1 : (upd (upd H l1 (.lst ((iv (List.range ns.length)).map V.int))) l2 (.lst ((iv (List.range ns.length)).map V.int))) l1 = some (.lst ((iv (List.range ns.length)).map V.int)) := g2 _ _ upd_same
 have e2 : (upd (upd H l1 (.lst ((iv (List.range ns.length)).map V.int))) l2 (.lst ((iv (List.range ns.length)).map V.int))) l2 = some (.lst ((iv (List.range ns.length)).map V.int)) := upd_same
 have g12 := g1.trans g2
 generalize upd (upd H l1 (.lst ((iv (List.range ns.length)).map V.int))) l2 (.lst ((iv (List.range ns.length)).map V.int)) = H2 at g2 e1 e2 g12 nx ndx ⊢
 have g3 : Same H2 (upd (upd H2 dx (.own x)) x (.ins C dx [])) := fun c o hc => by
  rw [upd_ne (ne_of_none hc nx), upd_ne (ne_of_none hc ndx)]; exact hc
 refine ⟨x, t, a, b, l1, l2, dx, ns, ss, List.range ns.length, List.range ns.length, rfl, upd_same, (pl.same g12).same g3, g3 _ _ e1, g3 _ _ e2, fun nr lq ow H3 ex3 how s3 na3 lq3 ow3 => ⟨rfl, ?_⟩⟩
 have g4 : Same H H3 := fun c o hc => ex3 c o (ne_of_none (g12 _ _ hc) nx) (g3 _ _ (g12 _ _ hc))
 refine q ⟨ns.length, nearX ns ss (List.range ns.length), endsP ns ss false, List.range ns.length, x, dx, nr, lq, ow⟩ H3 rfl rfl rfl g4 (none_of_same (g12.trans g3) how) ⟨s3, na3, lq3, near_ok pl.ok (fun k hk => List.mem_range.mp hk) List.pairwise_lt_range, fun e he => ?_⟩ ⟨ow3, memoT_nil⟩
 have : (List.range ns.length).contains e = true := List.contains_iff_mem.mpr (List.mem_range.mpr he)
 rw [this]
 rfl
theorem scCr : FnScope ["plan"] ["plan"] (defScope sCr) := ⟨rfl, rfl, rfl, by decide +kernel, rfl, by decide +kernel, by decide +kernel⟩
theorem ok_cr (F : Fun K "count_rows" "count_rows" sCr f fd) (T : TyT K C) (mW : Meth K C "all_ways" g1)
  (GW : FnOk P w K mg base CX0 23 g1 gd1 ["self"] (spAw C)) (bW : Binds K gd1 ["self"] [])
  (GC : FnOk P w K mg base CX0 23 g2 gd2 ["plan"] spCkP) (bC : Binds K gd2 ["plan"] []) (kC : Kee K g2) (mC : mg "check_plan" = some (.ref g2))
  (GT : FnOk P w K mg base CX0 23 g3 gd3 ["plan"] (spTr C)) (bT : Binds K gd3 ["plan"] []) (kT : Kee K g3) (mT : mg "tally_of_rows" = some (.ref g3)) : FnOk P w K mg base CX0 24 f fd ["plan"] (spCount fun ns ss => cntW ns ss false) := by
 refine F.ok scCr (fun vs H Q E h => ?_) (fun cdv A outer s H vs Q E hr h => ?_)
 ·obtain ⟨t, a, b, ns, ss, rfl, _⟩ := h
  rfl
 obtain ⟨t, a, b, ns, ss, rfl, pl, q⟩ := h
 refine ⟨_, (@pss_cons _ _ _ _ _ (ps_expr (pe_call GC hr rfl mC kC bC .nil pass0 (pa_cons (pv 0) pa_nil))) (@pss_one _ _ _ (ps_ret (pe_meth0 (pe_call GT hr rfl mT kT bT .nil pass0 (pa_cons (pv 0) pa_nil)) T.cl mW GW hr bW .nil pass0)))), ?_⟩
 refine ⟨_, rfl, t, a, b, ns, ss, rfl, pl, ?_⟩
 refine ⟨_, rfl, t, a, b, ns, ss, rfl, pl, fun p H1 e1 e2 e3 g1 how S hk => ?_⟩
 refine ⟨p.s, p.dx, _, rfl, S.at_, rfl, p, [], rfl, S, hk, by rw [e1]; exact pl.ok.n1, fun H2 kvs2 ex2 hk2 => ?_⟩
 have z := q H2 (fun c o hc => ex2 c o (ne_of_none hc how) (g1 _ _ hc))
 rw [e1, e2, e3]
 exact z
theorem scCg : FnScope ["plan"] ["plan"] (defScope sCg) := ⟨rfl, rfl, rfl, by decide +kernel, rfl, by decide +kernel, by decide +kernel⟩
theorem ok_cg (F : Fun K "count_rings" "count_rings" sCg f fd) (B : Bt3 mg) (T : TyT K C) (m3 : mg "FEWEST_IN_RING" = some (.int 3 t3)) (mW : Meth K C "all_ways" g1) (MT : Mk K C g4) (mT : mg "Tally" = some (.ref C))
  (GI : FnOk P w K mg base CX0 22 g4 gd4 ["self", "plan", "first_places", "last_places"] (spTIn C)) (bI : Binds K gd4 ["self", "plan", "first_places", "last_places"] [])
  (GW : FnOk P w K mg base CX0 23 g1 gd1 ["self"] (spAw C)) (bW : Binds K gd1 ["self"] [])
  (GC : FnOk P w K mg base CX0 23 g2 gd2 ["plan"] spCkP) (bC : Binds K gd2 ["plan"] []) (kC : Kee K g2) (mC : mg "check_plan" = some (.ref g2))
  (GN : FnOk P w K mg base CX0 23 g3 gd3 ["plan", "number"] spNear) (bN : Binds K gd3 ["plan", "number"] []) (kN : Kee K g3) (mN : mg "near_places" = some (.ref g3)) : FnOk P w K mg base CX0 24 f fd ["plan"] (spCount ringsW) := by
 refine F.ok scCg (fun vs H Q E h => ?_) (fun cdv A outer s H vs Q E hr h => ?_)
 ·obtain ⟨t, a, b, ns, ss, rfl, _⟩ := h
  rfl
 obtain ⟨t, a, b, ns, ss, rfl, pl, q⟩ := h
 refine ⟨_, (@pss_cons _ _ _ _ _ (ps_expr (pe_call GC hr rfl mC kC bC .nil pass0 (pa_cons (pv 0) pa_nil))) (@pss_cons _ _ _ _ _ (ps_if (pt_cmpR op_lt (pe_callB call_len_seq rfl B.len PySem.boot_len (pa_cons (pe_ix ix_tup (pv 0) pe_int (fun _ _ => rfl)) pa_nil)) (pe_glob (v := .int 3) rfl m3 ⟨_, rfl⟩) (nomark _)) (@pss_one _ _ _ (ps_ret pe_int)) pss_nil) (@pss_one _ _ _ (ps_ret (pe_op op_mul (pe_callB call_len_seq rfl B.len PySem.boot_len (pa_cons (pe_ix ix_tup (pv 0) pe_int (fun _ _ => rfl)) pa_nil)) (pe_meth0 (pe_make MT GI hr rfl mT bI .nil pass0 (pa_cons (pv 0) (pa_cons (pe_lst (pa_cons pe_int pa_nil)) (pa_cons (pe_call GN hr rfl mN kN bN .nil pass0 (pa_cons (pv 0) (pa_cons (pe_ix ix_list (pe_ix ix_tup (pv 0) pe_int (fun _ _ => rfl)) pe_int (fun _ _ => rfl)) pa_nil))) pa_nil)))) T.cl mW GW hr bW .nil pass0)))))), ?_⟩
 have hml : (ns.map V.int).length = ns.length := List.length_map _
 have n1 := pl.ok.n1
 have n2 := pl.ok.n2
 refine ⟨_, rfl, t, a, b, ns, ss, rfl, pl, ?_⟩
 refine ⟨_, rfl, t, _, 0, _, rfl, rfl, SqT.of pl.t, rfl, a, _, rfl, .inl (SqL.of pl.a), _, _, rfl, rfl, _, rfl, ite2 (fun c => ?_) (fun c => ?_)⟩
 ·have c' := of_decide_eq_true c
  rw [hml] at c'
  have e : ringsW ns ss = 0 := by unfold ringsW; rw [if_pos (by omega)]
  rw [e] at q
  exact q H Same.rfl'
 have c3 : ¬ ns.length < 3 := fun z => c (decide_eq_true (by rw [hml]; omega))
 have e : ringsW ns ss = ns.length * cntW ns ss true := by unfold ringsW; rw [if_neg c3]
 rw [e] at q
 refine ⟨_, rfl, t, _, 0, _, rfl, rfl, SqT.of pl.t, rfl, a, _, rfl, .inl (SqL.of pl.a), ?_⟩
 rw [hml]
 refine ⟨_, rfl, (by show 1 ≤ sizeLine; decide), fun l1 hl1 => ?_⟩
 have g1 : Same H (upd H l1 (.lst [.int 0])) := Same.new hl1 _
 have p1 := pl.same g1
 have e0 : ns[0]? = some ns[0] := List.getElem?_eq_getElem (by omega)
 have d0 : ns.getD 0 0 = ns[0] := by rw [List.getD_eq_getElem?_getD, e0]; rfl
 have el1 : (upd H l1 (.lst [.int 0])) l1 = some (.lst ((iv [0]).map V.int)) := upd_same
 generalize upd H l1 (.lst [.int 0]) = H1 at g1 p1 el1 ⊢
 refine ⟨_, rfl, _, rfl, t, _, 0, _, rfl, rfl, SqT.of p1.t, rfl, a, _, 0, _, rfl, rfl, SqL.of p1.a, atI_nat (j := 0) (by rw [List.getElem?_map, e0]; rfl), t, a, b, ns, ss, ns[0], rfl, p1, fun l2 H2 g2 hl2 e2 => fun x dx nx ndx nex => ?_⟩
 have g3 : Same H2 (upd (upd H2 dx (.own x)) x (.ins C dx [])) := fun c o hc => by
  rw [upd_ne (ne_of_none hc nx), upd_ne (ne_of_none hc ndx)]; exact hc
 refine ⟨x, t, a, b, l1, l2, dx, ns, ss, [0], nearP ns ss ns[0], rfl, upd_same, (p1.same g2).same g3, g3 _ _ (g2 _ _ el1), g3 _ _ e2, fun nr lq ow H3 ex3 how s3 na3 lq3 ow3 => ⟨rfl, ?_⟩⟩
 have g12 := g1.trans g2
 have how' : H ow = none := none_of_same (g12.trans g3) how
 have g4 : Same H H3 := fun c o hc => ex3 c o (ne_of_none (g12 _ _ hc) nx) (g3 _ _ (g12 _ _ hc))
 have S3 : Tly C ⟨ns.length, nearX ns ss [0], endsP ns ss true, nearP ns ss ns[0], x, dx, nr, lq, ow⟩ H3 := by
  refine ⟨s3, na3, lq3, near_ok pl.ok (fun k hk => by rw [List.mem_singleton.mp hk]; omega) (List.pairwise_singleton _ _), fun j hj => ?_⟩
  rw [Bool.eq_iff_iff]
  show (nearP ns ss ns[0]).contains j = true ↔ (nearP ns ss (ns.getD j 0)).contains 0 = true
  unfold nearP
  have hj' : j < ns.length := hj
  rw [List.contains_iff_mem, List.contains_iff_mem, List.mem_filter, List.mem_filter, List.mem_range, List.mem_range, d0, addUp_comm]
  exact ⟨fun h => ⟨by omega, h.2⟩, fun h => ⟨hj', h.2⟩⟩
 refine ⟨x, dx, _, rfl, S3.at_, rfl, ⟨ns.length, nearX ns ss [0], endsP ns ss true, nearP ns ss ns[0], x, dx, nr, lq, ow⟩, [], rfl, S3, ⟨ow3, memoT_nil⟩, n1, fun H4 kvs4 ex4 hk4 => ?_⟩
 refine ⟨_, _, rfl, rfl, .inl ⟨by omega, by omega⟩, ?_⟩
 have z := q H4 (fun c o hc => ex4 c o (ne_of_none hc how') (g4 _ _ hc))
 rw [Int.natCast_mul] at z
 exact z
end
abbrev sWah : Stmt := inClass (top 30) 4
abbrev sSb : Stmt := inClass (top 30) 5
abbrev sPb : Stmt := inClass (top 30) 6
abbrev sRb : Stmt := top 35
def ahd (w : Nat → Nat) (l : List Nat) (k : Nat) : Nat := ((l.filter fun j => decide (j < k)).map w).sum
theorem ahd_cons (w : Nat → Nat) (a : Nat) (r : List Nat) (k : Nat) : ahd w (a :: r) k = (if a < k then w a else 0) + ahd w r k := by
 unfold ahd
 rw [List.filter_cons]
 by_cases h : a < k
 ·rw [if_pos (decide_eq_true h), if_pos h, List.map_cons, List.sum_cons]
 ·rw [if_neg (by rw [decide_eq_false h]; exact Bool.false_ne_true), if_neg h, Nat.zero_add]
theorem ahd_none {w : Nat → Nat} {l : List Nat} {k : Nat} (h : ∀ j ∈ l, k ≤ j) : ahd w l k = 0 := by
 unfold ahd
 rw [List.filter_eq_nil_iff.mpr fun j hj => by rw [decide_eq_true_iff]; have := h j hj; omega]
 rfl
theorem ahd_all {w : Nat → Nat} {l : List Nat} {k : Nat} (h : ∀ j ∈ l, j < k) : ahd w l k = (l.map w).sum := by
 unfold ahd
 rw [List.filter_eq_self.mpr fun j hj => decide_eq_true (h j hj)]
theorem ahd_app (w : Nat → Nat) (p q : List Nat) (k : Nat) : ahd w (p ++ q) k = ahd w p k + ahd w q k := by
 unfold ahd
 rw [List.filter_append, List.map_append, List.sum_append]
theorem ahd_at {w : Nat → Nat} {p q : List Nat} {k : Nat} (h : (p ++ k :: q).Pairwise (· < ·)) : ahd w (p ++ k :: q) k = (p.map w).sum := by
 obtain ⟨h1, h2, h3⟩ := List.pairwise_append.mp h
 have z : ahd w (k :: q) k = 0 := ahd_none fun j hj => by
  rcases List.mem_cons.mp hj with y | y
  ·omega
  ·exact Nat.le_of_lt (List.rel_of_pairwise_cons h2 y)
 rw [ahd_app, z, ahd_all (w := w) (l := p) (k := k) fun j hj => h3 j hj k List.mem_cons_self]
 rfl
theorem ahd_next {w : Nat → Nat} {l : List Nat} {k k' : Nat} (hp : l.Pairwise (· < ·)) (hk : k ∈ l) (h : k < k') : ahd w l k + w k ≤ ahd w l k' := by
 obtain ⟨p, q, e⟩ := List.append_of_mem hk
 subst e
 rw [ahd_at hp]
 obtain ⟨_, _, h3⟩ := List.pairwise_append.mp hp
 rw [ahd_app, ahd_all fun j hj => Nat.lt_trans (h3 j hj k List.mem_cons_self) h, ahd_cons, if_pos h]
 omega
theorem ahd_ex (w : Nat → Nat) : ∀ {l : List Nat}, l.Pairwise (· < ·) → ∀ num < (l.map w).sum, ∃ k ∈ l, ahd w l k ≤ num ∧ num < ahd w l k + w k
 | [], _, num, h => absurd h (Nat.not_lt_zero _)
 | a :: r, hp, num, h => by
  have hr : ∀ j ∈ r, a < j := fun j hj => List.rel_of_pairwise_cons hp hj
  by_cases ha : num < w a
  ·refine ⟨a, List.mem_cons_self, ?_⟩
   rw [ahd_cons, if_neg (Nat.lt_irrefl _), ahd_none fun j hj => Nat.le_of_lt (hr j hj)]
   omega
  ·rw [List.map_cons, List.sum_cons] at h
   obtain ⟨k, hk, h1, h2⟩ := ahd_ex w hp.of_cons (num - w a) (by omega)
   refine ⟨k, List.mem_cons_of_mem _ hk, ?_⟩
   rw [ahd_cons, if_pos (hr k hk)]
   omega
section
variable (near : Nat → List Nat) (ends : Nat → Bool)
def nbs (left e : Nat) : List Nat := (near e).filter fun k => left.testBit k
def wBy (left k : Nat) : Nat := ways near ends (left - 2 ^ k) k
def wAh (left e k : Nat) : Nat := ahd (wBy near ends left) (nbs near left e) k
def pickF (left e num : Nat) : Option Nat := ((nbs near left e).filter fun k => decide (wAh near ends left e k ≤ num)).getLast?
def byF : Nat → Nat → Nat → Nat → List Nat
 | 0, _, _, _ => []
 | m + 1, left, e, num => match pickF near ends left e num with
  | none => []
  | some k => k :: byF m (left - 2 ^ k) k (num - wAh near ends left e k)
def byN (left e num : Nat) : List Nat := byF near ends (cnt left) left e num
variable {near ends}
theorem pick_is {n left e num k : Nat} (N : NearOk near n) (he : e ≤ n) (hk : k ∈ nbs near left e) (h1 : wAh near ends left e k ≤ num) (h2 : num < wAh near ends left e k + wBy near ends left k) : pickF near ends left e num = some k := by
 have hp : (nbs near left e).Pairwise (· < ·) := (N.up e he).sublist List.filter_sublist
 obtain ⟨p, q, eq⟩ := List.append_of_mem hk
 unfold pickF
 have hq : q.filter (fun k => decide (wAh near ends left e k ≤ num)) = [] := List.filter_eq_nil_iff.mpr fun j hj => by
  rw [decide_eq_true_iff]
  have hlt : k < j := by
   rw [eq] at hp
   exact List.rel_of_pairwise_cons (List.pairwise_append.mp hp).2.1 hj
  have := ahd_next (w := wBy near ends left) hp hk hlt
  show ¬ ahd (wBy near ends left) (nbs near left e) j ≤ num
  have h2' : num < ahd (wBy near ends left) (nbs near left e) k + wBy near ends left k := h2
  omega
 rw [eq, List.filter_append, List.filter_cons, if_pos (decide_eq_true h1), hq, List.getLast?_append]
 rfl
theorem by_cons {n left e num : Nat} (N : NearOk near n) (hl : left < 1024) (h0 : left ≠ 0) (he : e ≤ n) (h : num < ways near ends left e) :
  ∃ k, k ∈ nbs near left e ∧ k < n ∧ left.testBit k = true ∧ pickF near ends left e num = some k ∧ wAh near ends left e k ≤ num ∧ num - wAh near ends left e k < ways near ends (left - 2 ^ k) k ∧ byN near ends left e num = k :: byN near ends (left - 2 ^ k) k (num - wAh near ends left e k) := by
 have hp : (nbs near left e).Pairwise (· < ·) := (N.up e he).sublist List.filter_sublist
 rw [ways_succ N hl h0 he] at h
 obtain ⟨k, hk, h1, h2⟩ := ahd_ex (wBy near ends left) hp num h
 have pk := pick_is N he hk h1 h2
 obtain ⟨k1, k2⟩ := List.mem_filter.mp hk
 have hkn := N.lt e he k k1
 have n10 := N.n10
 have cd := (cnt_dec left hl k (by omega) k2).1
 refine ⟨k, hk, hkn, k2, pk, h1, ?_, ?_⟩
 ·have h2' : num < wAh near ends left e k + ways near ends (left - 2 ^ k) k := h2
  have h1' : wAh near ends left e k ≤ num := h1
  omega
 ·unfold byN
  rw [← cd]
  have gen : ∀ m, byF near ends (m + 1) left e num = k :: byF near ends m (left - 2 ^ k) k (num - wAh near ends left e k) := fun m => by
   show (match pickF near ends left e num with | none => [] | some k => k :: byF near ends m (left - 2 ^ k) k (num - wAh near ends left e k)) = _
   rw [pk]
  exact gen _
theorem byF_lt {n : Nat} (N : NearOk near n) : ∀ (m left e num : Nat), e ≤ n → (∀ k ∈ byF near ends m left e num, k < n) ∧ (byF near ends m left e num).length ≤ m
 | 0, _, _, _, _ => ⟨(fun _ h => nomatch h), Nat.le_refl _⟩
 | m + 1, left, e, num, he => by
  show (∀ k ∈ (match pickF near ends left e num with | none => [] | some k => k :: byF near ends m (left - 2 ^ k) k (num - wAh near ends left e k)), k < n) ∧ (match pickF near ends left e num with | none => [] | some k => k :: byF near ends m (left - 2 ^ k) k (num - wAh near ends left e k)).length ≤ m + 1
  cases h : pickF near ends left e num with
  | none => exact ⟨(fun _ h => nomatch h), Nat.zero_le _⟩
  | some k =>
   have hm : k ∈ nbs near left e := (List.mem_filter.mp (List.mem_of_getLast? h)).1
   have hk := N.lt e he k (List.mem_filter.mp hm).1
   obtain ⟨a, b⟩ := byF_lt N m (left - 2 ^ k) k (num - wAh near ends left e k) (Nat.le_of_lt hk)
   refine ⟨fun x hx => ?_, by show _ + 1 ≤ _; omega⟩
   rcases List.mem_cons.mp hx with z | z
   ·rw [z]; exact hk
   ·exact a x z
end
def spWah (C : Addr) (m : Nat) : Sp := fun vs H Q _ => ∃ (p : SP) (kvs : List (List Key × V)) (left e k : Nat), vs = [.ref p.s, .int left, .int e, .int k] ∧ Tly C p H ∧ KnownT p H kvs ∧ left < 2 ^ p.n ∧ cnt left ≤ m ∧ e ≤ p.n ∧
 ∀ (H' : Hp) (kvs' : List (List Key × V)), Ex (· = p.ow) H H' → KnownT p H' kvs' → Q (.int (wAh p.near p.ends left e k : Nat)) H'
def spSb (C : Addr) (m : Nat) : Sp := fun vs H Q _ => ∃ (p : SP) (kvs : List (List Key × V)) (left e num k : Nat), vs = [.ref p.s, .int left, .int e, .int num] ∧ Tly C p H ∧ KnownT p H kvs ∧ left < 2 ^ p.n ∧ cnt left ≤ m ∧ e ≤ p.n ∧ pickF p.near p.ends left e num = some k ∧
 ∀ (H' : Hp) (kvs' : List (List Key × V)), Ex (· = p.ow) H H' → KnownT p H' kvs' → Q (.int (k : Nat)) H'
def spPb (C : Addr) : Sp := fun vs H Q _ => ∃ (p : SP) (kvs : List (List Key × V)) (num : Nat), vs = [.ref p.s, .int num] ∧ Tly C p H ∧ KnownT p H kvs ∧ 1 ≤ p.n ∧ num < ways p.near p.ends (2 ^ p.n - 1) p.n ∧
 ∀ (l : Addr) (H' : Hp), Ex (· = p.ow) H H' → H l = none → H' l = some (.lst ((iv (byN p.near p.ends (2 ^ p.n - 1) p.n num)).map V.int)) → Q (.ref l) H'
def rowN (ns ss : List Int) (num : Nat) : List Int := (byN (nearX ns ss (List.range ns.length)) (endsP ns ss false) (2 ^ ns.length - 1) ns.length num).map fun k => ns.getD k 0
def spRb : Sp := fun vs H Q _ => ∃ (t a b : Addr) (ns ss : List Int) (num : Nat), vs = [.ref t, .int num] ∧ IsPl H t a b ns ss ∧ num < cntW ns ss false ∧ ∀ (l : Addr) (H' : Hp), Same H H' → H l = none → H' l = some (.lst ((rowN ns ss num).map V.int)) → Q (.ref l) H'
theorem take_flt {ks : List Nat} {q : Nat → Bool} {i : Nat} (hi : i < ks.length) : (ks.take (i + 1)).filter q = (ks.take i).filter q ++ if q ks[i] = true then [ks[i]] else [] := by
 have tk : ks.take (i + 1) = ks.take i ++ [ks[i]] := by rw [List.take_add_one, List.getElem?_eq_getElem hi]; rfl
 rw [tk, List.filter_append, List.filter_cons]
 rfl
section
variable {f g1 g2 g3 g4 g5 C C0 : Addr} {mc : Value} {fd gd1 gd2 gd3 gd4 gd5 : FuncData}
theorem scWah : FnScope ["self", "left", "end", "place"] ["self", "left", "end", "place"] (defScope sWah) := ⟨rfl, rfl, rfl, by decide +kernel, rfl, by decide +kernel, by decide +kernel⟩
theorem ok_wah {j m : Nat} (F : Fun K "ways_ahead" "Tally.ways_ahead" sWah f fd) (B : Bt4 mg) (T : TyT K C) (mB : Meth K C "ways_by" g2) (mS : Meth K C "steps" g3)
  (GB : FnOk P w K mg base CX0 j g2 gd2 ["self", "left", "place"] (spWb C m)) (bB : Binds K gd2 ["self", "left", "place"] [])
  (GS : FnOk P w K mg base CX0 j g3 gd3 ["self", "left", "end"] (spSteps C)) (bS : Binds K gd3 ["self", "left", "end"] []) : FnOk P w K mg base CX0 (j + 1) f fd ["self", "left", "end", "place"] (spWah C m) := by
 refine F.ok scWah (fun vs H Q E h => ?_) (fun cdv A outer s H vs Q E hr h => ?_)
 ·obtain ⟨p, kvs, left, e, k, rfl, _⟩ := h
  rfl
 obtain ⟨p, kvs, left, e, k0, rfl, S, hd, hl, hc, he, q⟩ := h
 have n10 := S.ok.n10
 have hl' := S.lt hl
 refine ⟨_, (@pss_one _ _ _ (ps_ret (pe_callB (call_sumL rfl) rfl B.sum boot_sum (pa_cons (pe_comp ["other"] rfl (blk_ok (defScope sWah) ["self", "left", "end", "place"] rfl rfl (by decide +kernel)) (pi_list (pe_meth (pv 0) T.cl mS GS hr bS .nil pass0 (pa_cons (pv 1) (pa_cons (pv 2) pa_nil)))) (fun pins C fp s3 H3 => ⟨(pg_name (i := 0) (show (blkN ["other"] ["self", "left", "end", "place"]).Nodup by decide +kernel) rfl (Or.inl rfl)), (pif_one (pt_cmpR op_lt (pv 0) (pv 4) (nomark _))), (pe_meth (pv 1) T.cl mB GB hr bB .nil pass0 (pa_cons (pv 2) (pa_cons (pv 0) pa_nil)))⟩)) pa_nil)))), ?_⟩
 refine ⟨_, rfl, p.s, p.dx, _, rfl, S.at_, rfl, _, rfl, _, rfl, p.s, p.dx, p.nr, _, p.n, p.near, left, e, rfl, S.at_, rfl, S.nr, S.ok, he, hl', fun l H2 g2 hln e2 => ⟨l, rfl, ⟨_, SqL.of e2⟩, fun D hD => ?_⟩⟩
 have hd2 : KnownT p H2 kvs := ⟨g2 _ _ hd.1, hd.2⟩
 have lo : l ≠ p.ow := ne_of e2 hd2.1 (by intro z; cases z)
 have Do : p.ow ≠ D := ne_of_none hd2.1 hD
 have klen : ((p.near e).filter fun k => left.testBit k).length ≤ 10 := Nat.le_trans (List.length_filter_le _ _) (Nat.le_trans (near_len S.ok he) n10)
 obtain ⟨ks, eks⟩ : ∃ ks, ks = (p.near e).filter fun k => left.testBit k := ⟨_, rfl⟩
 have hmem : ∀ k ∈ ks, k < p.n ∧ left.testBit k = true := fun k hk => by
  rw [eks] at hk
  obtain ⟨h1, h2⟩ := List.mem_filter.mp hk
  exact ⟨S.ok.lt e he k h1, h2⟩
 rw [← eks] at e2 klen
 have kml : ((iv ks).map V.int).length = ks.length := by rw [List.length_map, iv_len]
 refine turns_any (n := ks.length) (fun i σ' H' => ∃ (x : Option V) (kvs' : List (List Key × V)), σ' = [x, some (.ref p.s), some (.int left), some (.int e), some (.int (k0 : Nat))] ∧ Ex (· = p.ow) H2 H' ∧ KnownT p H' kvs' ∧ H' D = some (.lst ((((ks.take i).filter fun j => decide (j < k0)).map fun k => ((ways p.near p.ends (left - 2 ^ k) k : Nat) : Int)).map V.int)))
  ⟨none, kvs, rfl, Ex.new _ hD, ⟨by rw [upd_ne Do]; exact hd2.1, hd2.2⟩, upd_same⟩ ?_ ?_
 ·rintro i σ' H' hi ⟨x, kvs', rfl, ex, hk', hD'⟩
  have ek : ks[i]? = some ks[i] := List.getElem?_eq_getElem hi
  obtain ⟨hkn, hb⟩ := hmem _ (List.getElem_mem hi)
  have el2 := ex _ _ lo e2
  refine ⟨⟨_, _, SqL.of el2, nat_at ek⟩, fun y H3 hy => ?_⟩
  obtain ⟨rfl, hy⟩ := hy
  have ey := hy _ (SqL.of el2)
  rw [nat_at ek] at ey
  cases ey
  have S' : Tly C p H3 := (S.ex hd.1 (Ex.same g2)).ex hd2.1 ex
  have ec : decide (((ks[i] : Nat) : Int) < ((k0 : Nat) : Int)) = decide (ks[i] < k0) := decide_eq_decide.mpr (by omega)
  refine ⟨_, rfl, _, rfl, _, _, rfl, rfl, _, rfl, ?_⟩
  rw [ec]
  refine ite2 (fun c => ?_) (fun c => ?_)
  ·refine ⟨_, rfl, p.s, p.dx, _, rfl, S'.at_, rfl, _, rfl, _, rfl, p, kvs', left, ks[i], rfl, S', hk', hl, hb, hkn, hc, fun H4 kvs4 ex4 hk4 => ?_⟩
   have hD4 := ex4 _ _ (Ne.symm Do) hD'
   refine ⟨_, hD4, small1000 (by rw [List.length_map, List.length_map]; have := List.length_filter_le (fun j => decide (j < k0)) (ks.take i); rw [List.length_take] at this; omega), _, kvs4, rfl, fun c o hc ho => ?_, ⟨by rw [upd_ne Do]; exact hk4.1, hk4.2⟩, ?_⟩
   ·rw [upd_ne (ne_of_none ho hD)]
    exact ex4 _ _ hc (ex _ _ hc ho)
   ·rw [upd_same, take_flt hi, if_pos c, List.map_append, List.map_append]
    rfl
  ·refine ⟨_, kvs', rfl, ex, hk', ?_⟩
   rw [take_flt hi, if_neg c, List.append_nil]
   exact hD'
 ·rintro σ' H' ⟨x, kvs', rfl, ex, hk', hD'⟩
  have el2 := ex _ _ lo e2
  refine ⟨⟨_, SqL.of el2, by rw [kml]; exact Nat.le_refl _⟩, ?_⟩
  rw [List.take_of_length_le (Nat.le_refl _)] at hD'
  refine ⟨D, _, rfl, hD', ?_⟩
  rw [sum_cast]
  have z := q H' kvs' ((Ex.same g2).trans ex) hk'
  unfold wAh ahd nbs at z
  rw [← eks] at z
  exact z
theorem scSb : FnScope ["self", "left", "end", "number"] ["self", "left", "end", "number"] (defScope sSb) := ⟨rfl, rfl, rfl, by decide +kernel, rfl, by decide +kernel, by decide +kernel⟩
theorem ok_sb {j m : Nat} (F : Fun K "step_by" "Tally.step_by" sSb f fd) (T : TyT K C) (mA : Meth K C "ways_ahead" g2) (mS : Meth K C "steps" g3)
  (GA : FnOk P w K mg base CX0 j g2 gd2 ["self", "left", "end", "place"] (spWah C m)) (bA : Binds K gd2 ["self", "left", "end", "place"] [])
  (GS : FnOk P w K mg base CX0 j g3 gd3 ["self", "left", "end"] (spSteps C)) (bS : Binds K gd3 ["self", "left", "end"] []) : FnOk P w K mg base CX0 (j + 1) f fd ["self", "left", "end", "number"] (spSb C m) := by
 refine F.ok scSb (fun vs H Q E h => ?_) (fun cdv A outer s H vs Q E hr h => ?_)
 ·obtain ⟨p, kvs, left, e, num, k, rfl, _⟩ := h
  rfl
 obtain ⟨p, kvs, left, e, num, k0, rfl, S, hd, hl, hc, he, hk0, q⟩ := h
 have n10 := S.ok.n10
 have hl' := S.lt hl
 refine ⟨_, (@pss_one _ _ _ (ps_ret (pe_ix ix_list (pe_comp ["place"] rfl (blk_ok (defScope sSb) ["self", "left", "end", "number"] rfl rfl (by decide +kernel)) (pi_list (pe_meth (pv 0) T.cl mS GS hr bS .nil pass0 (pa_cons (pv 1) (pa_cons (pv 2) pa_nil)))) (fun pins C fp s3 H3 => ⟨(pg_name (i := 0) (show (blkN ["place"] ["self", "left", "end", "number"]).Nodup by decide +kernel) rfl (Or.inl rfl)), (pif_one (pt_cmpR op_le (pe_meth (pv 1) T.cl mA GA hr bA .nil pass0 (pa_cons (pv 2) (pa_cons (pv 3) (pa_cons (pv 0) pa_nil)))) (pv 4) (nomark _))), (pv 0)⟩)) (pe_un un_neg pe_int) (fun _ _ => rfl)))), ?_⟩
 refine ⟨_, rfl, p.s, p.dx, _, rfl, S.at_, rfl, _, rfl, _, rfl, p.s, p.dx, p.nr, _, p.n, p.near, left, e, rfl, S.at_, rfl, S.nr, S.ok, he, hl', fun l H2 g2 hln e2 => ⟨l, rfl, ⟨_, SqL.of e2⟩, fun D hD => ?_⟩⟩
 have hd2 : KnownT p H2 kvs := ⟨g2 _ _ hd.1, hd.2⟩
 have lo : l ≠ p.ow := ne_of e2 hd2.1 (by intro z; cases z)
 have Do : p.ow ≠ D := ne_of_none hd2.1 hD
 have klen : ((p.near e).filter fun k => left.testBit k).length ≤ 10 := Nat.le_trans (List.length_filter_le _ _) (Nat.le_trans (near_len S.ok he) n10)
 unfold pickF nbs at hk0
 obtain ⟨ks, eks⟩ : ∃ ks, ks = (p.near e).filter fun k => left.testBit k := ⟨_, rfl⟩
 rw [← eks] at e2 klen hk0
 have kml : ((iv ks).map V.int).length = ks.length := by rw [List.length_map, iv_len]
 refine turns_any (n := ks.length) (fun i σ' H' => ∃ (x : Option V) (kvs' : List (List Key × V)), σ' = [x, some (.ref p.s), some (.int left), some (.int e), some (.int (num : Nat))] ∧ Ex (· = p.ow) H2 H' ∧ KnownT p H' kvs' ∧ H' D = some (.lst ((iv ((ks.take i).filter fun k => decide (wAh p.near p.ends left e k ≤ num))).map V.int)))
  ⟨none, kvs, rfl, Ex.new _ hD, ⟨by rw [upd_ne Do]; exact hd2.1, hd2.2⟩, upd_same⟩ ?_ ?_
 ·rintro i σ' H' hi ⟨x, kvs', rfl, ex, hk', hD'⟩
  have ek : ks[i]? = some ks[i] := List.getElem?_eq_getElem hi
  have el2 := ex _ _ lo e2
  refine ⟨⟨_, _, SqL.of el2, nat_at ek⟩, fun y H3 hy => ?_⟩
  obtain ⟨rfl, hy⟩ := hy
  have ey := hy _ (SqL.of el2)
  rw [nat_at ek] at ey
  cases ey
  have S' : Tly C p H3 := (S.ex hd.1 (Ex.same g2)).ex hd2.1 ex
  refine ⟨_, rfl, p.s, p.dx, _, rfl, S'.at_, rfl, _, rfl, _, rfl, _, rfl, p, kvs', left, e, ks[i], rfl, S', hk', hl, hc, he, fun H4 kvs4 ex4 hk4 => ?_⟩
  have hD4 := ex4 _ _ (Ne.symm Do) hD'
  have ec : decide (((wAh p.near p.ends left e ks[i] : Nat) : Int) ≤ ((num : Nat) : Int)) = decide (wAh p.near p.ends left e ks[i] ≤ num) := decide_eq_decide.mpr (by omega)
  refine ⟨_, rfl, _, _, rfl, rfl, _, rfl, ?_⟩
  rw [ec]
  refine ite2 (fun c => ?_) (fun c => ?_)
  ·refine ⟨_, rfl, _, hD4, small1000 (by rw [List.length_map, iv_len]; have := List.length_filter_le (fun k => decide (wAh p.near p.ends left e k ≤ num)) (ks.take i); rw [List.length_take] at this; omega), _, kvs4, rfl, fun c o hc ho => ?_, ⟨by rw [upd_ne Do]; exact hk4.1, hk4.2⟩, ?_⟩
   ·rw [upd_ne (ne_of_none ho hD)]
    exact ex4 _ _ hc (ex _ _ hc ho)
   ·rw [upd_same, take_flt hi, if_pos c, iv_V, iv_V, List.map_append]
    rfl
  ·refine ⟨_, kvs4, rfl, ex.trans ex4, hk4, ?_⟩
   rw [take_flt hi, if_neg c, List.append_nil]
   exact hD4
 ·rintro σ' H' ⟨x, kvs', rfl, ex, hk', hD'⟩
  have el2 := ex _ _ lo e2
  refine ⟨⟨_, SqL.of el2, by rw [kml]; exact Nat.le_refl _⟩, ?_⟩
  rw [List.take_of_length_le (Nat.le_refl _)] at hD'
  refine ⟨_, rfl, D, _, -1, .int (k0 : Nat), rfl, rfl, SqL.of hD', ?_, q _ _ ((Ex.same g2).trans ex) hk'⟩
  obtain ⟨r', er'⟩ := List.getLast?_eq_some_iff.mp hk0
  rw [er', iv_V, List.map_append]
  exact atI_last _ _
theorem scPb : FnScope ["self", "number", "places", "left", "end", "place"] ["self", "number"] (defScope sPb) := ⟨rfl, rfl, rfl, by decide +kernel, rfl, by decide +kernel, by decide +kernel⟩
theorem ok_pb (F : Fun K "places_by" "Tally.places_by" sPb f fd) (T : TyT K C) (mA : Meth K C "ways_ahead" g1) (mB : Meth K C "step_by" g2)
  (GA : FnOk P w K mg base CX0 24 g1 gd1 ["self", "left", "end", "place"] (spWah C 10)) (bA : Binds K gd1 ["self", "left", "end", "place"] [])
  (GB : FnOk P w K mg base CX0 24 g2 gd2 ["self", "left", "end", "number"] (spSb C 10)) (bB : Binds K gd2 ["self", "left", "end", "number"] []) : FnOk P w K mg base CX0 25 f fd ["self", "number"] (spPb C) := by
 refine F.ok scPb (fun vs H Q E h => ?_) (fun cdv A outer s H vs Q E hr h => ?_)
 ·obtain ⟨p, kvs, num, rfl, _⟩ := h
  rfl
 obtain ⟨p, kvs, num0, rfl, S, hd, n1, hnum0, q⟩ := h
 refine ⟨_, (@pss_cons _ _ _ _ _ (ps_set (i := 2) scPb.nd rfl (Or.inl rfl) (pe_lst pa_nil)) (@pss_cons _ _ _ _ _ (ps_set (i := 3) scPb.nd rfl (Or.inl rfl) (pe_fld (pv 0) rfl)) (@pss_cons _ _ _ _ _ (ps_set (i := 4) scPb.nd rfl (Or.inl rfl) (pe_fld (pv 0) rfl)) (@pss_cons _ _ _ _ _ (ps_while PassesOwn.never (pt_valI (pv 3)) (@pss_cons _ _ _ _ _ (ps_set (i := 5) scPb.nd rfl (Or.inl rfl) (pe_meth (pv 0) T.cl mB GB hr bB .nil pass0 (pa_cons (pv 3) (pa_cons (pv 4) (pa_cons (pv 1) pa_nil))))) (@pss_cons _ _ _ _ _ (ps_set (i := 1) scPb.nd rfl (Or.inl rfl) (pe_op op_sub (pv 1) (pe_meth (pv 0) T.cl mA GA hr bA .nil pass0 (pa_cons (pv 3) (pa_cons (pv 4) (pa_cons (pv 5) pa_nil)))))) (@pss_cons _ _ _ _ _ (ps_expr (pe_bm PySem.F.plainAttrs_list PySem.F.slot_list_append PySem.F.type_list_append mt_append (pv 2) (pa_cons (pv 5) pa_nil))) (@pss_cons _ _ _ _ _ (ps_set (i := 3) scPb.nd rfl (Or.inl rfl) (pe_op op_sub (pv 3) (pe_op op_shl pe_int (pv 5)))) (@pss_one _ _ _ (ps_set (i := 4) scPb.nd rfl (Or.inl rfl) (pv 5)))))))) (@pss_one _ _ _ (ps_ret (pv 2))))))), ?_⟩
 refine ⟨by decide, fun l hln => ?_⟩
 have g1 : Same H (upd H l (.lst [])) := Same.new hln _
 have lo : l ≠ p.ow := fun z => by rw [z, hd.1] at hln; cases hln
 refine ⟨_, rfl, p.s, C, p.dx, fsT p, _, rfl, g1 _ _ S.at_, T.cl, T.nW, rfl, _, rfl, p.s, C, p.dx, fsT p, _, rfl, g1 _ _ S.at_, T.cl, T.nA, rfl, ?_⟩
 have hp2 : 2 ^ p.n - 1 < 2 ^ p.n := Nat.sub_lt (Nat.two_pow_pos _) (by decide)
 have S1 := S.ex hd.1 (Ex.same g1)
 have hd1 : KnownT p (upd H l (.lst [])) kvs := ⟨g1 _ _ hd.1, hd.2⟩
 dsimp only [gName, tSeq]
 refine while_by2 (fun σ H' => ∃ (x5 : Option V) (pre : List Nat) (left e num : Nat) (kvs' : List (List Key × V)), σ = [some (.ref p.s), some (.int (num : Nat)), some (.ref l), some (.int left), some (.int e), x5] ∧ Ex (fun b => b = p.ow ∨ b = l) (upd H l (.lst [])) H' ∧ H' l = some (.lst ((iv pre).map V.int)) ∧ Tly C p H' ∧ KnownT p H' kvs' ∧ left < 2 ^ p.n ∧ e ≤ p.n ∧ pre.length + cnt left ≤ 10 ∧
   num < ways p.near p.ends left e ∧ pre ++ byN p.near p.ends left e num = byN p.near p.ends (2 ^ p.n - 1) p.n num0)
  (fun σ _ => slotN 3 σ) ⟨none, [], 2 ^ p.n - 1, p.n, num0, kvs, rfl, Ex.refl, upd_same, S1, hd1, hp2, Nat.le_refl _, by have := cnt_le _ (S.lt hp2); simpa using this, hnum0, rfl⟩ ?_
 rintro σ H' ⟨x5, pre, left, e, num, kvs', rfl, ex, hl, S', hk', hlt, he, hlen, hnum, hpath⟩
 have hl' := S.lt hlt
 refine ⟨_, rfl, _, rfl, ite2 (fun c => ?_) (fun c => ?_)⟩
 ·have h0 : left ≠ 0 := fun z => by subst z; exact absurd c (by decide)
  obtain ⟨k, hkm, hkn, hb, ek, hw1, hw2, hcons⟩ := by_cons S.ok hl' h0 he hnum
  have n10 := S.ok.n10
  have hdec := cnt_dec left hl' k (by omega) hb
  refine next_by (H := H') (μ := fun σ _ => slotN 3 σ) ?_
  refine ⟨_, rfl, p.s, p.dx, _, rfl, S'.at_, rfl, _, rfl, _, rfl, _, rfl, p, kvs', left, e, num, k, rfl, S', hk', hlt, cnt_le _ hl', he, ek, fun H2 kvs2 ex2 hk2 => ?_⟩
  have S2 := S'.ex hk'.1 ex2
  refine ⟨_, rfl, _, rfl, p.s, p.dx, _, rfl, S2.at_, rfl, _, rfl, _, rfl, _, rfl, p, kvs2, left, e, k, rfl, S2, hk2, hlt, cnt_le _ hl', he, fun H3 kvs3 ex3 hk3 => ⟨_, _, rfl, rfl, ?_⟩⟩
  have hl3 := ex3 _ _ lo (ex2 _ _ lo hl)
  have exa : Ex (fun b => b = p.ow ∨ b = l) (upd H l (.lst [])) H3 := ex.trans ((ex2.trans ex3).wide fun b z => .inl z)
  refine ⟨_, rfl, .inl ⟨rfl, _, SqL.of hl3⟩, _, rfl, l, _, _, rfl, rfl, hl3, small1000 (by rw [List.length_map, iv_len]; omega), ?_⟩
  refine ⟨_, rfl, _, rfl, _, _, rfl, rfl, ⟨by show (0 : Int) ≤ (k : Int); omega, by show (k : Int) ≤ 1000000; omega, by decide⟩, _, _, rfl, rfl, ?_⟩
  refine ⟨_, rfl, ?_⟩
  have st : ∀ {b : Addr} {o u : HO}, H3 b = some o → (∀ xs, o ≠ .lst xs) → upd H3 l u b = some o := fun {b o u} h nl => by
   rw [upd_ne (ne_of h hl3 (nl _))]; exact h
  refine ⟨⟨some (.int (k : Nat)), pre ++ [k], left - 2 ^ k, k, num - wAh p.near p.ends left e k, kvs3, ?_, exa.trans (Ex.put _ (.inr rfl)), ?_, ?_, ⟨st hk3.1 (fun _ z => by cases z), hk3.2⟩, by omega, by omega, ?_, hw2, ?_⟩, ?_⟩
  ·rw [← sub_V left k (bit_le hb), show ((num - wAh p.near p.ends left e k : Nat) : Int) = ((num : Nat) : Int) - ((wAh p.near p.ends left e k : Nat) : Int) by omega]
   rfl
  ·rw [upd_same, iv_V, iv_V, List.map_append]
   rfl
  ·obtain ⟨rs, q1, q2, q3⟩ := S.nr
   have keep : ∀ {b : Addr} {o : HO}, H b = some o → b ≠ p.ow → ∀ {u}, upd H3 l u b = some o := fun {b o} h nb {u} => by
    have nbl : b ≠ l := ne_of_none h hln
    rw [upd_ne nbl]
    exact exa _ _ (fun z => z.elim nb nbl) (g1 _ _ h)
   have now : ∀ {b : Addr} {o : HO}, H b = some o → (∀ kvs, o ≠ .dT kvs) → b ≠ p.ow := fun {b o} h nd z => nd kvs (by rw [z, hd.1] at h; exact (Option.some.inj h).symm)
   exact ⟨keep S.at_ (now S.at_ (fun _ z => by cases z)), ⟨rs, q1, keep q2 (now q2 (fun _ z => by cases z)), fun e he => let ⟨r, r1, r2⟩ := q3 e he; ⟨r, r1, keep r2 (now r2 (fun _ z => by cases z))⟩⟩, keep S.lp (now S.lp (fun _ z => by cases z)), S.ok, S.le⟩
  ·rw [List.length_append]
   show pre.length + 1 + cnt (left - 2 ^ k) ≤ 10
   omega
  ·rw [← hpath, hcons, List.append_assoc]
   rfl
  ·show ((left : Int) - 1 * 2 ^ ((k : Int)).toNat).toNat < ((left : Int)).toNat
   rw [sub_V left k (bit_le hb)]
   omega
 ·have h0 : left = 0 := by
   rcases Nat.eq_zero_or_pos left with z | z
   ·exact z
   ·exact absurd (by simp; omega) c
  subst h0
  have bz : byN p.near p.ends 0 e num = [] := rfl
  rw [bz, List.append_nil] at hpath
  rw [hpath] at hl
  refine ⟨_, rfl, q l H' (fun b o hb' ho => ?_) hln hl⟩
  have nbl : b ≠ l := ne_of_none ho hln
  exact ex _ _ (fun z => z.elim hb' nbl) (g1 _ _ ho)
theorem scRb : FnScope ["plan", "number", "tally"] ["plan", "number"] (defScope sRb) := ⟨rfl, rfl, rfl, by decide +kernel, rfl, by decide +kernel, by decide +kernel⟩
theorem ok_rb (F : Fun K "row_by" "row_by" sRb f fd) (T : TyT K C) (mW : Meth K C "all_ways" g1) (mP : Meth K C "places_by" g5)
  (GW : FnOk P w K mg base CX0 25 g1 gd1 ["self"] (spAw C)) (bW : Binds K gd1 ["self"] [])
  (GP : FnOk P w K mg base CX0 25 g5 gd5 ["self", "number"] (spPb C)) (bP : Binds K gd5 ["self", "number"] [])
  (GC : FnOk P w K mg base CX0 25 g2 gd2 ["plan"] spCkP) (bC : Binds K gd2 ["plan"] []) (kC : Kee K g2) (mC : mg "check_plan" = some (.ref g2))
  (GT : FnOk P w K mg base CX0 25 g3 gd3 ["plan"] (spTr C)) (bT : Binds K gd3 ["plan"] []) (kT : Kee K g3) (mT : mg "tally_of_rows" = some (.ref g3))
  {g6 g7 : Addr} {gd6 gd7 : FuncData}
  (GI : FnOk P w K mg base CX0 25 g6 gd6 ["thing"] spWhole) (bI : Binds K gd6 ["thing"] []) (kI : Kee K g6) (mI : mg "is_whole" = some (.ref g6))
  (GN : FnOk P w K mg base CX0 25 g7 gd7 ["plan", "places"] spNums) (bN : Binds K gd7 ["plan", "places"] []) (kN : Kee K g7) (mN : mg "numbers_at" = some (.ref g7)) : FnOk P w K mg base CX0 26 f fd ["plan", "number"] spRb := by
 refine F.ok scRb (fun vs H Q E h => ?_) (fun cdv A outer s H vs Q E hr h => ?_)
 ·obtain ⟨t, a, b, ns, ss, num, rfl, _⟩ := h
  rfl
 obtain ⟨t, a, b, ns, ss, num, rfl, pl, hnum, q⟩ := h
 refine ⟨_, (@pss_cons _ _ _ _ _ (ps_expr (pe_call GC hr rfl mC kC bC .nil pass0 (pa_cons (pv 0) pa_nil))) (@pss_cons _ _ _ _ _ (ps_set (i := 2) scRb.nd rfl (Or.inl rfl) (pe_call GT hr rfl mT kT bT .nil pass0 (pa_cons (pv 0) pa_nil))) (@pss_cons _ _ _ _ _ (ps_if (PW.pt (pw_or (pt_not (pt_val (pe_call GI hr rfl mI kI bI .nil pass0 (pa_cons (pv 1) pa_nil)))) (pw_or1 (pt_not (pt_chain op_le op_lt pe_int (pv 1) (pe_meth0 (pv 2) T.cl mW GW hr bW .nil pass0)))))) (@pss_one _ _ _ ps_never) pss_nil) (@pss_one _ _ _ (ps_ret (pe_call GN hr rfl mN kN bN .nil pass0 (pa_cons (pv 0) (pa_cons (pe_meth (pv 2) T.cl mP GP hr bP .nil pass0 (pa_cons (pv 1) pa_nil)) pa_nil)))))))), ?_⟩
 refine ⟨_, rfl, t, a, b, ns, ss, rfl, pl, ?_⟩
 refine ⟨_, rfl, t, a, b, ns, ss, rfl, pl, fun p H1 e1 e2 e3 g1 how S hk => ?_⟩
 have n1 : 1 ≤ p.n := by rw [e1]; exact pl.ok.n1
 have ew : ways p.near p.ends (2 ^ p.n - 1) p.n = cntW ns ss false := by rw [e1, e2, e3]; rfl
 refine ⟨_, rfl, _, rfl, _, rfl, iteF ?_⟩
 refine ⟨_, rfl, _, _, rfl, rfl, _, rfl, ite2 (fun _ => ?_) (fun c => absurd (decide_eq_true (by omega)) c)⟩
 refine ⟨_, rfl, p.s, p.dx, _, rfl, S.at_, rfl, p, [], rfl, S, hk, n1, fun H2 kvs2 ex2 hk2 => ⟨_, _, rfl, rfl, _, rfl, ?_⟩⟩
 rw [ew, decide_eq_true (show ((num : Nat) : Int) < ((cntW ns ss false : Nat) : Int) by omega)]
 refine iteF ?_
 have S2 := S.ex hk.1 ex2
 refine ⟨_, rfl, _, rfl, p.s, p.dx, _, rfl, S2.at_, rfl, _, rfl, p, kvs2, num, rfl, S2, hk2, n1, by rw [ew]; exact hnum, fun l H3 ex3 hl3 el3 => ?_⟩
 have g2 : Same H H2 := fun c o hc => ex2 c o (ne_of_none hc how) (g1 _ _ hc)
 have g3 : Same H H3 := fun c o hc => ex3 c o (ne_of_none hc how) (g2 _ _ hc)
 rw [e1, e2, e3] at el3
 have N : NearOk (nearX ns ss (List.range ns.length)) ns.length := near_ok pl.ok (fun k hk => List.mem_range.mp hk) List.pairwise_lt_range
 obtain ⟨lt, len⟩ := byF_lt (ends := endsP ns ss false) N (cnt (2 ^ ns.length - 1)) (2 ^ ns.length - 1) ns.length num (Nat.le_refl _)
 have wl : 2 ^ ns.length - 1 < 1024 := by have := pow_le ns.length (by have := pl.ok.n2; omega); have := Nat.two_pow_pos ns.length; omega
 have c10 := cnt_le _ wl
 refine ⟨t, a, b, l, ns, ss, byN (nearX ns ss (List.range ns.length)) (endsP ns ss false) (2 ^ ns.length - 1) ns.length num, rfl, pl.same g3, el3, Nat.le_trans len (Nat.le_trans c10 (by decide)), lt, ?_⟩
 intro l2 H6 g6 hl6 e6
 exact q l2 H6 (g3.trans g6) (none_of_same g3 hl6) e6
end
abbrev sNa : Stmt := inClass (top 30) 7
section
variable (near : Nat → List Nat) (ends : Nat → Bool)
def numF : Nat → Nat → List Nat → Nat
 | _, _, [] => 0
 | left, e, k :: r => wAh near ends left e k + numF (left - 2 ^ k) k r
end
def InL : Nat → List Nat → Prop
 | _, [] => True
 | left, k :: r => left.testBit k = true ∧ InL (left - 2 ^ k) r
theorem bit_of' : ∀ m < 1024, ∀ k < 10, m.testBit k = true → ∀ j < 10, (m - 2 ^ k).testBit j = (m.testBit j && decide (j ≠ k)) := by decide +kernel
theorem inL_of : ∀ {ks : List Nat} {left : Nat}, left < 1024 → ks.Nodup → (∀ k ∈ ks, k < 10 ∧ left.testBit k = true) → InL left ks
 | [], _, _, _, _ => trivial
 | k :: r, left, hl, nd, h => by
  obtain ⟨k10, hb⟩ := h k List.mem_cons_self
  obtain ⟨nk, nd'⟩ := List.nodup_cons.mp nd
  refine ⟨hb, inL_of (Nat.lt_of_le_of_lt (Nat.sub_le _ _) hl) nd' fun j hj => ?_⟩
  obtain ⟨j10, jb⟩ := h j (List.mem_cons_of_mem _ hj)
  refine ⟨j10, ?_⟩
  rw [bit_of' left hl k k10 hb j j10, jb, decide_eq_true (p := j ≠ k) fun z : j = k => nk (z ▸ hj)]
  rfl
theorem num_by {near : Nat → List Nat} {ends : Nat → Bool} {n : Nat} (N : NearOk near n) : ∀ (m left e num : Nat), cnt left = m → left < 1024 → e ≤ n → num < ways near ends left e → numF near ends left e (byN near ends left e num) = num
 | 0, left, e, num, hc, hl, he, h => by
  have z := cnt_zero left hl hc
  subst z
  have h1 : ways near ends 0 e ≤ 1 := by
   show (if ends e then 1 else 0) ≤ 1
   split <;> decide
  show 0 = num
  omega
 | m + 1, left, e, num, hc, hl, he, h => by
  have h0 : left ≠ 0 := fun z => by
   have c0 : cnt 0 = 0 := by decide
   rw [z, c0] at hc
   omega
  obtain ⟨k, hk, hkn, hb, pk, h1, h2, hc2⟩ := by_cons N hl h0 he h
  have n10 := N.n10
  have cd := (cnt_dec left hl k (by omega) hb).1
  rw [hc2]
  show wAh near ends left e k + numF near ends (left - 2 ^ k) k (byN near ends (left - 2 ^ k) k (num - wAh near ends left e k)) = num
  rw [num_by N m (left - 2 ^ k) k (num - wAh near ends left e k) (by omega) (Nat.lt_of_le_of_lt (Nat.sub_le _ _) hl) (by omega) h2]
  omega
def Walk (near : Nat → List Nat) : Nat → List Nat → Prop
 | _, [] => True
 | e, k :: r => k ∈ near e ∧ Walk near k r
theorem by_walk {near : Nat → List Nat} {ends : Nat → Bool} {n : Nat} (N : NearOk near n) : ∀ (m left e num : Nat), cnt left = m → left < 1024 → e ≤ n → num < ways near ends left e → (byN near ends left e num).length = m ∧ (byN near ends left e num).Nodup ∧ (∀ k ∈ byN near ends left e num, k < n ∧ left.testBit k = true) ∧ Walk near e (byN near ends left e num)
 | 0, left, e, num, hc, hl, he, h => by
  have z := cnt_zero left hl hc
  subst z
  exact ⟨rfl, List.nodup_nil, (fun _ h => nomatch h), trivial⟩
 | m + 1, left, e, num, hc, hl, he, h => by
  have h0 : left ≠ 0 := fun z => by
   have c0 : cnt 0 = 0 := by decide
   rw [z, c0] at hc
   omega
  obtain ⟨k, hk, hkn, hb, pk, h1, h2, hc2⟩ := by_cons N hl h0 he h
  have n10 := N.n10
  have cd := (cnt_dec left hl k (by omega) hb).1
  obtain ⟨a1, a2, a3, a4⟩ := by_walk N m (left - 2 ^ k) k (num - wAh near ends left e k) (by omega) (Nat.lt_of_le_of_lt (Nat.sub_le _ _) hl) (by omega) h2
  have a5 : ∀ j ∈ byN near ends (left - 2 ^ k) k (num - wAh near ends left e k), left.testBit j = true ∧ j ≠ k := fun j hj => by
   obtain ⟨j1, j2⟩ := a3 j hj
   rw [bit_of' left hl k (by omega) hb j (by omega), Bool.and_eq_true, decide_eq_true_iff] at j2
   exact j2
  rw [hc2]
  refine ⟨by rw [List.length_cons, a1], List.nodup_cons.mpr ⟨fun z => (a5 k z).2 rfl, a2⟩, fun j hj => ?_, (List.mem_filter.mp hk).1, a4⟩
  rcases List.mem_cons.mp hj with z | z
  ·rw [z]; exact ⟨hkn, hb⟩
  ·exact ⟨(a3 j z).1, (a5 j z).1⟩
def spNa (C : Addr) : Sp := fun vs H Q _ => ∃ (p : SP) (kvs : List (List Key × V)) (l : Addr) (ks : List Nat), vs = [.ref p.s, .ref l] ∧ Tly C p H ∧ KnownT p H kvs ∧ H l = some (.lst ((iv ks).map V.int)) ∧ InL (2 ^ p.n - 1) ks ∧ (∀ k ∈ ks, k < p.n) ∧
 ∀ (H' : Hp) (kvs' : List (List Key × V)), Ex (· = p.ow) H H' → KnownT p H' kvs' → Q (.int (numF p.near p.ends (2 ^ p.n - 1) p.n ks : Nat)) H'
section
variable {f g1 g2 g3 g4 g5 C C0 : Addr} {mc : Value} {fd gd1 gd2 gd3 gd4 gd5 : FuncData}
theorem scNa : FnScope ["self", "places", "number", "left", "end", "place"] ["self", "places"] (defScope sNa) := ⟨rfl, rfl, rfl, by decide +kernel, rfl, by decide +kernel, by decide +kernel⟩
theorem ok_na {j : Nat} (F : Fun K "number_at" "Tally.number_at" sNa f fd) (T : TyT K C) (mA : Meth K C "ways_ahead" g1)
  (GA : FnOk P w K mg base CX0 j g1 gd1 ["self", "left", "end", "place"] (spWah C 10)) (bA : Binds K gd1 ["self", "left", "end", "place"] []) : FnOk P w K mg base CX0 (j + 1) f fd ["self", "places"] (spNa C) := by
 refine F.ok scNa (fun vs H Q E h => ?_) (fun cdv A outer s H vs Q E hr h => ?_)
 ·obtain ⟨p, kvs, l, ks, rfl, _⟩ := h
  rfl
 obtain ⟨p, kvs, l, ks, rfl, S, hd, hl, hin, hlt, q⟩ := h
 have n10 := S.ok.n10
 have hp2 : 2 ^ p.n - 1 < 2 ^ p.n := Nat.sub_lt (Nat.two_pow_pos _) (by decide)
 have lo : l ≠ p.ow := ne_of hl hd.1 (by intro z; cases z)
 refine ⟨_, (@pss_cons _ _ _ _ _ (ps_set (i := 2) scNa.nd rfl (Or.inl rfl) pe_int) (@pss_cons _ _ _ _ _ (ps_set (i := 3) scNa.nd rfl (Or.inl rfl) (pe_fld (pv 0) rfl)) (@pss_cons _ _ _ _ _ (ps_set (i := 4) scNa.nd rfl (Or.inl rfl) (pe_fld (pv 0) rfl)) (@pss_cons _ _ _ _ _ (ps_for PassesOwn.never rfl (pi_list (pv 1)) (pg_name (i := 5) scNa.nd rfl (Or.inl rfl)) (@pss_cons _ _ _ _ _ (ps_set (i := 2) scNa.nd rfl (Or.inl rfl) (pe_op op_add (pv 2) (pe_meth (pv 0) T.cl mA GA hr bA .nil pass0 (pa_cons (pv 3) (pa_cons (pv 4) (pa_cons (pv 5) pa_nil)))))) (@pss_cons _ _ _ _ _ (ps_set (i := 3) scNa.nd rfl (Or.inl rfl) (pe_op op_sub (pv 3) (pe_op op_shl pe_int (pv 5)))) (@pss_one _ _ _ (ps_set (i := 4) scNa.nd rfl (Or.inl rfl) (pv 5)))))) (@pss_one _ _ _ (ps_ret (pv 2))))))), ?_⟩
 refine ⟨_, rfl, p.s, C, p.dx, fsT p, _, rfl, S.at_, T.cl, T.nW, rfl, _, rfl, p.s, C, p.dx, fsT p, _, rfl, S.at_, T.cl, T.nA, rfl, ?_⟩
 refine ⟨_, rfl, l, rfl, ⟨_, SqL.of hl⟩, ?_⟩
 refine for_list (xs := (iv ks).map V.int) (fun i σ H' => ∃ (x5 : Option V) (left e num : Nat) (kvs' : List (List Key × V)), σ = [some (.ref p.s), some (.ref l), some (.int (num : Nat)), some (.int left), some (.int e), x5] ∧ Ex (· = p.ow) H H' ∧ KnownT p H' kvs' ∧ left < 2 ^ p.n ∧ e ≤ p.n ∧ InL left (ks.drop i) ∧ num + numF p.near p.ends left e (ks.drop i) = numF p.near p.ends (2 ^ p.n - 1) p.n ks)
  ⟨none, 2 ^ p.n - 1, p.n, 0, kvs, rfl, Ex.refl, hd, hp2, Nat.le_refl _, hin, Nat.zero_add _⟩ (fun i σ H' _ ⟨_, _, _, _, _, _, ex, _⟩ => SqL.of (ex _ _ lo hl)) ?_ ?_
 ·rintro i x σ H' hxi ⟨x5, left, e, num, kvs', rfl, ex, hk', hlf, he, hi, hsum⟩
  rw [iv_V, List.getElem?_map] at hxi
  cases hk : ks[i]? with
  | none => rw [hk] at hxi; cases hxi
  | some k =>
   rw [hk] at hxi
   cases hxi
   obtain ⟨hii, ek⟩ := List.getElem?_eq_some_iff.mp hk
   rw [List.drop_eq_getElem_cons hii, ek] at hi hsum
   obtain ⟨hb, hi'⟩ := hi
   have hkn := hlt k (List.mem_of_getElem? hk)
   have S' : Tly C p H' := S.ex hd.1 ex
   refine ⟨_, rfl, _, rfl, p.s, p.dx, _, rfl, S'.at_, rfl, _, rfl, _, rfl, _, rfl, p, kvs', left, e, k, rfl, S', hk', hlf, cnt_le _ (S.lt hlf), he, fun H3 kvs3 ex3 hk3 => ⟨_, _, rfl, rfl, ?_⟩⟩
   refine ⟨_, rfl, _, rfl, _, _, rfl, rfl, ⟨by show (0 : Int) ≤ (k : Int); omega, by show (k : Int) ≤ 1000000; omega, by decide⟩, _, _, rfl, rfl, ?_⟩
   refine ⟨_, rfl, ?_⟩
   refine ⟨some (.int (k : Nat)), left - 2 ^ k, k, num + wAh p.near p.ends left e k, kvs3, ?_, ex.trans ex3, hk3, Nat.lt_of_le_of_lt (Nat.sub_le _ _) hlf, by omega, hi', ?_⟩
   ·rw [← sub_V left k (bit_le hb)]
    rfl
   ·rw [← hsum]
    show num + wAh p.near p.ends left e k + _ = num + (wAh p.near p.ends left e k + _)
    omega
 ·rintro σ H' ⟨x5, left, e, num, kvs', rfl, ex, hk', hlf, he, hi, hsum⟩
  have el : ((iv ks).map V.int).length = ks.length := by rw [List.length_map, iv_len]
  rw [el, List.drop_length] at hsum
  have e0 : num = numF p.near p.ends (2 ^ p.n - 1) p.n ks := hsum
  refine ⟨_, rfl, ?_⟩
  rw [e0]
  exact q H' kvs' ex hk'
end
abbrev sNb : Stmt := top 23
abbrev sLw : Stmt := top 9
abbrev sHo : Stmt := top 24
abbrev sIsR : Stmt := top 25
def nbB (ss : List Int) (zs : List Int) : Bool := (List.range (zs.length - 1)).all fun i => addUp ss (zs.getD i 0) (zs.getD (i + 1) 0)
def rowB (ns ss zs : List Int) : Bool := zs.isPerm ns && nbB ss zs
def ringB (ns ss zs : List Int) : Bool := rowB ns ss zs && !decide (zs.length < 3) && addUp ss (zs.getD (zs.length - 1) 0) (zs.getD 0 0)
def spNb : Sp := fun vs H Q _ => ∃ (t a b p : Addr) (ns ss zs : List Int), vs = [.ref t, .ref p] ∧ IsPl H t a b ns ss ∧ H p = some (.lst (zs.map V.int)) ∧ zs.length < 64 ∧ ∀ H', Same H H' → Q (.bl (nbB ss zs)) H'
def spLw : Sp := fun vs H Q _ => ∃ (p : Addr) (zs : List Int), vs = [.ref p] ∧ H p = some (.lst (zs.map V.int)) ∧ zs.length < 64 ∧ ∀ H', Same H H' → Q (.bl true) H'
def spHo : Sp := fun vs H Q _ => ∃ (t a b p : Addr) (ns ss zs : List Int), vs = [.ref t, .ref p] ∧ IsPl H t a b ns ss ∧ H p = some (.lst (zs.map V.int)) ∧ zs.length < 64 ∧ ∀ H', Same H H' → Q (.bl (zs.isPerm ns)) H'
def spIsR : Sp := fun vs H Q _ => ∃ (t a b p : Addr) (ns ss zs : List Int), vs = [.ref t, .ref p] ∧ IsPl H t a b ns ss ∧ H p = some (.lst (zs.map V.int)) ∧ zs.length < 64 ∧ ∀ H', Same H H' → Q (.bl (rowB ns ss zs)) H'
theorem cut1 (zs : List Int) : cutV (zs.map V.int) (some 1) none = (zs.drop 1).map V.int := by
 unfold cutV
 have h1 : HT.sIx (zs.map V.int).length 0 (some 1) = min 1 zs.length := by
  unfold HT.sIx
  rw [List.length_map]
  simp
 have h2 : HT.sIx (zs.map V.int).length (zs.map V.int).length none = zs.length := by
  unfold HT.sIx
  rw [List.length_map]
 rw [h1, h2]
 cases zs with
 | nil => rfl
 | cons x r =>
  have e : min 1 (x :: r).length = 1 := by rw [List.length_cons]; omega
  rw [e, List.map_cons, List.drop_succ_cons, List.drop_zero, List.drop_succ_cons, List.drop_zero, List.length_cons, Nat.add_sub_cancel, ← List.length_map (f := V.int), List.take_length]
theorem sorted_uniq : ∀ {xs ys : List Int}, xs.Perm ys → xs.Pairwise (· ≤ ·) → ys.Pairwise (· ≤ ·) → xs = ys
 | [], ys, h, _, _ => by rw [List.nil_perm.mp h]
 | x :: xs, ys, h, hx, hy => by
  cases ys with
  | nil => exact absurd h.length_eq (by simp)
  | cons y ys =>
   have hx' := List.pairwise_cons.mp hx
   have hy' := List.pairwise_cons.mp hy
   have e : x = y := by
    have m1 : y ∈ x :: xs := h.mem_iff.mpr List.mem_cons_self
    have m2 : x ∈ y :: ys := h.mem_iff.mp List.mem_cons_self
    rcases List.mem_cons.mp m1 with z | z
    ·exact z.symm
    ·rcases List.mem_cons.mp m2 with z' | z'
     ·exact z'
     ·have := hx'.1 y z
      have := hy'.1 x z'
      omega
   subst e
   rw [sorted_uniq h.cons_inv hx'.2 hy'.2]
theorem sort_is {ns zs ys : List Int} (hn : ns.Pairwise (· < ·)) (hp : ys.Perm zs) (hs : ys.Pairwise (· ≤ ·)) : (ys == ns) = zs.isPerm ns := by
 rw [Bool.eq_iff_iff, beq_iff_eq, List.isPerm_iff]
 constructor
 ·intro e
  rw [← e]
  exact hp.symm
 ·intro h
  exact sorted_uniq (hp.trans h) hs (hn.imp fun h => Int.le_of_lt h)
section
variable {f g1 g2 g3 : Addr} {fd gd1 gd2 gd3 : FuncData}
theorem scNb : FnScope ["plan", "numbers"] ["plan", "numbers"] (defScope sNb) := ⟨rfl, rfl, rfl, by decide +kernel, rfl, by decide +kernel, by decide +kernel⟩
theorem ok_nb (F : Fun K "are_neighbours" "are_neighbours" sNb f fd) (B : Bt4 mg)
  (GA : FnOk P w K mg base CX0 1 g1 gd1 ["plan", "one", "other"] spAdd) (bA : Binds K gd1 ["plan", "one", "other"] []) (kA : Kee K g1) (mA : mg "add_up" = some (.ref g1)) : FnOk P w K mg base CX0 2 f fd ["plan", "numbers"] spNb := by
 refine F.ok scNb (fun vs H Q E h => ?_) (fun cdv A outer s H vs Q E hr h => ?_)
 ·obtain ⟨t, a, b, p, ns, ss, zs, rfl, _⟩ := h
  rfl
 obtain ⟨t, a, b, p, ns, ss, zs, rfl, pl, hp, h64, q⟩ := h
 refine ⟨_, (@pss_one _ _ _ (ps_ret (pe_callB (call_allB rfl) rfl B.all boot_all (pa_cons (pe_comp ["one", "other"] rfl (blk_ok (defScope sNb) ["plan", "numbers"] rfl rfl (by decide +kernel)) (pi_zip rfl B.zip (pa_cons (pv 1) (pa_cons (pe_slice sl_list (pv 1) (po_some pe_int) po_none) pa_nil))) (fun pins C fp s3 H3 => ⟨(pg_tupK (n := 2) K rfl (pgs_cons (pg_name (i := 0) (show (blkN ["one", "other"] ["plan", "numbers"]).Nodup by decide +kernel) rfl (Or.inl rfl)) (pgs_cons (pg_name (i := 1) (show (blkN ["one", "other"] ["plan", "numbers"]).Nodup by decide +kernel) rfl (Or.inl rfl)) pgs_nil))), pif_nil, (pe_call GA hr rfl mA kA bA .nil pass0 (pa_cons (pv 2) (pa_cons (pv 0) (pa_cons (pv 1) pa_nil))))⟩)) pa_nil)))), ?_⟩
 refine ⟨_, rfl, _, rfl, 1, rfl, p, _, rfl, SqL.of hp, fun l2 hl2 => ?_⟩
 rw [cut1]
 have g2 : Same H (upd H l2 (.lst ((zs.drop 1).map V.int))) := Same.new hl2 _
 have e2 : (upd H l2 (.lst ((zs.drop 1).map V.int))) l2 = some (.lst ((zs.drop 1).map V.int)) := upd_same
 generalize upd H l2 (.lst ((zs.drop 1).map V.int)) = H2 at g2 e2 ⊢
 refine ⟨p, l2, _, _, rfl, g2 _ _ hp, e2, fun D hD => ?_⟩
 refine turns_zip (n := zs.length - 1) (σ := [some (.ref t), some (.ref p)]) (xs := zs.map V.int) (ys := (zs.drop 1).map V.int) (fun _ => true) (fun i => .bl (addUp ss (zs.getD i 0) (zs.getD (i + 1) 0))) (g2 _ _ hp) e2 (by rw [List.length_map, List.length_map, List.length_drop]; omega) hD (by omega) (fun i H' hi g P hP => ?_) (fun i H' hi _ g P hP => ?_) fun H3 g3 e3 => ?_
 ·exact hP _ Same.rfl'
 ·have d1 : (zs.map V.int).getD i .non = .int (zs.getD i 0) := getD_map_int _ (by omega)
  have d2 : ((zs.drop 1).map V.int).getD i .non = .int (zs.getD (i + 1) 0) := by
   rw [getD_map_int _ (by rw [List.length_drop]; omega)]
   congr 1
   rw [List.getD_eq_getElem?_getD, List.getD_eq_getElem?_getD, List.getElem?_drop, Nat.add_comm]
  rw [d1, d2]
  exact ⟨_, rfl, _, rfl, _, rfl, t, a, b, ns, ss, _, _, rfl, (pl.same g2).same g, hP _ Same.rfl'⟩
 ·refine ⟨D, (List.range (zs.length - 1)).map fun i => addUp ss (zs.getD i 0) (zs.getD (i + 1) 0), rfl, SqL.of (by rw [e3, fltT, List.map_map]; rfl), ?_⟩
  have e : ((List.range (zs.length - 1)).map fun i => addUp ss (zs.getD i 0) (zs.getD (i + 1) 0)).all id = nbB ss zs := by
   unfold nbB
   rw [List.all_map]
   rfl
  rw [e]
  exact q H3 (g2.trans g3)
theorem scLw : FnScope ["thing"] ["thing"] (defScope sLw) := ⟨rfl, rfl, rfl, by decide +kernel, rfl, by decide +kernel, by decide +kernel⟩
theorem ok_lw (F : Fun K "is_list_of_wholes" "is_list_of_wholes" sLw f fd) (B : Bt4 mg)
  (GW : FnOk P w K mg base CX0 1 g1 gd1 ["thing"] spWhole) (bW : Binds K gd1 ["thing"] []) (kW : Kee K g1) (mW : mg "is_whole" = some (.ref g1)) : FnOk P w K mg base CX0 2 f fd ["thing"] spLw := by
 refine F.ok scLw (fun vs H Q E h => ?_) (fun cdv A outer s H vs Q E hr h => ?_)
 ·obtain ⟨p, zs, rfl, _⟩ := h
  rfl
 obtain ⟨p, zs, rfl, hp, h64, q⟩ := h
 refine ⟨_, (@pss_one _ _ _ (ps_ret (pe_and (pe_callB (call_isi "list") rfl B.isinstance boot_isinstance (pa_cons (pv 0) (pa_cons (pe_bltn (v := .ty "list") rfl B.list PyProof.Rows.boot_list rfl) pa_nil))) (pe_one (pe_callB (call_allB rfl) rfl B.all boot_all (pa_cons (pe_comp ["number"] rfl (blk_ok (defScope sLw) ["thing"] rfl rfl (by decide +kernel)) (pi_list (pv 0)) (fun pins C fp s3 H3 => ⟨(pg_name (i := 0) (show (blkN ["number"] ["thing"]).Nodup by decide +kernel) rfl (Or.inl rfl)), pif_nil, (pe_call GW hr rfl mW kW bW .nil pass0 (pa_cons (pv 0) pa_nil))⟩)) pa_nil)))))), ?_⟩
 have zml : (zs.map V.int).length = zs.length := List.length_map _
 refine ⟨_, rfl, _, _, true, rfl, .lst hp, rfl, _, rfl, iteT ?_⟩
 refine ⟨_, rfl, p, rfl, ⟨_, SqL.of hp⟩, fun D hD => ?_⟩
 refine turns_list (σ := [some (.ref p)]) (xs := zs.map V.int) (fun _ => true) (fun _ => .bl true) (SqL.of hp) hD (by omega) (fun i H' hi g P hP => ?_) (fun i H' hi _ g P hP => ?_) fun H2 g2 e2 => ?_
 ·exact hP _ Same.rfl'
 ·rw [getD_map_int _ (by rw [zml] at hi; exact hi)]
  exact ⟨_, rfl, _, rfl, hP _ Same.rfl'⟩
 refine ⟨D, (List.range zs.length).map fun _ => true, rfl, SqL.of (by rw [e2, fltT, List.map_map, zml]; rfl), ?_⟩
 have et : ((List.range zs.length).map fun _ => true).all id = true := by
  rw [List.all_map]
  exact List.all_eq_true.mpr fun _ _ => rfl
 rw [et]
 exact q _ g2
theorem scHo : FnScope ["plan", "thing"] ["plan", "thing"] (defScope sHo) := ⟨rfl, rfl, rfl, by decide +kernel, rfl, by decide +kernel, by decide +kernel⟩
theorem ok_ho (F : Fun K "holds_all" "holds_all" sHo f fd) (B : Bt4 mg)
  (GL : FnOk P w K mg base CX0 2 g1 gd1 ["thing"] spLw) (bL : Binds K gd1 ["thing"] []) (kL : Kee K g1) (mL : mg "is_list_of_wholes" = some (.ref g1)) : FnOk P w K mg base CX0 3 f fd ["plan", "thing"] spHo := by
 refine F.ok scHo (fun vs H Q E h => ?_) (fun cdv A outer s H vs Q E hr h => ?_)
 ·obtain ⟨t, a, b, p, ns, ss, zs, rfl, _⟩ := h
  rfl
 obtain ⟨t, a, b, p, ns, ss, zs, rfl, pl, hp, h64, q⟩ := h
 refine ⟨_, (@pss_one _ _ _ (ps_ret (pe_and (pe_call GL hr rfl mL kL bL .nil pass0 (pa_cons (pv 1) pa_nil)) (pe_one (pe_cmpR (op_eqD hr.units) (pe_callB call_sorted rfl B.sorted boot_sorted (pa_cons (pv 1) pa_nil)) (pe_ix ix_tup (pv 0) pe_int (fun _ _ => rfl)) (nomark _)))))), ?_⟩
 refine ⟨_, rfl, p, zs, rfl, hp, h64, fun H2 g2 => ⟨_, rfl, iteT ?_⟩⟩
 refine ⟨_, rfl, p, zs, rfl, SqL.of (g2 _ _ hp), h64, fun l ys hl hperm hle => ?_⟩
 have g3 : Same H2 (upd H2 l (.lst (ys.map V.int))) := Same.new hl _
 have px := (pl.same g2).same g3
 refine ⟨_, rfl, t, _, 0, _, rfl, rfl, SqT.of px.t, rfl, _, rcv_ints (SqL.of upd_same) (SqL.of px.a), ?_⟩
 rw [sort_is pl.ok.n.up hperm hle]
 exact q _ (g2.trans g3)
theorem scIsR : FnScope ["plan", "thing"] ["plan", "thing"] (defScope sIsR) := ⟨rfl, rfl, rfl, by decide +kernel, rfl, by decide +kernel, by decide +kernel⟩
theorem ok_isR (F : Fun K "is_row" "is_row" sIsR f fd)
  (GC : FnOk P w K mg base CX0 4 g1 gd1 ["plan"] spCkP) (bC : Binds K gd1 ["plan"] []) (kC : Kee K g1) (mC : mg "check_plan" = some (.ref g1))
  (GH : FnOk P w K mg base CX0 4 g2 gd2 ["plan", "thing"] spHo) (bH : Binds K gd2 ["plan", "thing"] []) (kH : Kee K g2) (mH : mg "holds_all" = some (.ref g2))
  (GN : FnOk P w K mg base CX0 4 g3 gd3 ["plan", "numbers"] spNb) (bN : Binds K gd3 ["plan", "numbers"] []) (kN : Kee K g3) (mN : mg "are_neighbours" = some (.ref g3)) : FnOk P w K mg base CX0 5 f fd ["plan", "thing"] spIsR := by
 refine F.ok scIsR (fun vs H Q E h => ?_) (fun cdv A outer s H vs Q E hr h => ?_)
 ·obtain ⟨t, a, b, p, ns, ss, zs, rfl, _⟩ := h
  rfl
 obtain ⟨t, a, b, p, ns, ss, zs, rfl, pl, hp, h64, q⟩ := h
 refine ⟨_, (@pss_cons _ _ _ _ _ (ps_expr (pe_call GC hr rfl mC kC bC .nil pass0 (pa_cons (pv 0) pa_nil))) (@pss_one _ _ _ (ps_ret (pe_and (pe_call GH hr rfl mH kH bH .nil pass0 (pa_cons (pv 0) (pa_cons (pv 1) pa_nil))) (pe_one (pe_call GN hr rfl mN kN bN .nil pass0 (pa_cons (pv 0) (pa_cons (pv 1) pa_nil)))))))), ?_⟩
 refine ⟨_, rfl, t, a, b, ns, ss, rfl, pl, ?_⟩
 refine ⟨_, rfl, _, rfl, t, a, b, p, ns, ss, zs, rfl, pl, hp, h64, fun H1 g1 => ⟨_, rfl, ite2 (fun c => ?_) (fun c => ?_)⟩⟩
 ·refine ⟨_, rfl, _, rfl, t, a, b, p, ns, ss, zs, rfl, pl.same g1, g1 _ _ hp, h64, fun H2 g2 => ?_⟩
  have e : rowB ns ss zs = nbB ss zs := by unfold rowB; rw [c]; rfl
  rw [← e]
  exact q _ (g1.trans g2)
 ·have e : rowB ns ss zs = false := by unfold rowB; rw [Bool.eq_false_iff.mpr c]; rfl
  rw [e] at q
  exact q _ g1
end
abbrev sNo : Stmt := top 36
def numW (ns ss zs : List Int) : Nat := numF (nearX ns ss (List.range ns.length)) (endsP ns ss false) (2 ^ ns.length - 1) ns.length (zs.map fun z => ns.idxOf z)
theorem whole_bit' : ∀ n ≤ 10, ∀ k < n, (2 ^ n - 1).testBit k = true := by decide
theorem idx_nd {ns : List Int} : ∀ {zs : List Int}, zs.Nodup → (∀ z ∈ zs, z ∈ ns) → (zs.map fun z => ns.idxOf z).Nodup
 | [], _, _ => List.nodup_nil
 | z :: r, nd, h => by
  obtain ⟨n1, n2⟩ := List.nodup_cons.mp nd
  rw [List.map_cons]
  refine List.nodup_cons.mpr ⟨fun hm => ?_, idx_nd n2 fun y hy => h y (List.mem_cons_of_mem _ hy)⟩
  obtain ⟨y, hy, e⟩ := List.mem_map.mp hm
  have hz := h z List.mem_cons_self
  have hy' := h y (List.mem_cons_of_mem _ hy)
  have e1 : ns[ns.idxOf z]? = some z := List.getElem?_eq_some_iff.mpr ⟨List.idxOf_lt_length_iff.mpr hz, List.getElem_idxOf _⟩
  have e2 : ns[ns.idxOf y]? = some y := List.getElem?_eq_some_iff.mpr ⟨List.idxOf_lt_length_iff.mpr hy', List.getElem_idxOf _⟩
  have e' : ns.idxOf y = ns.idxOf z := e
  rw [e', e1] at e2
  exact n1 (Option.some.inj e2 ▸ hy)
theorem map_rng (zs : List Int) (F : Int → V) : ((List.range zs.length).filter fun _ => true).map (fun i => F (zs.getD i 0)) = zs.map F := by
 rw [List.filter_eq_self.mpr fun _ _ => rfl]
 refine List.ext_getElem (by rw [List.length_map, List.length_map, List.length_range]) fun i h1 h2 => ?_
 have hi : i < zs.length := by rw [List.length_map] at h2; exact h2
 rw [List.getElem_map, List.getElem_map, List.getElem_range, List.getD_eq_getElem?_getD, List.getElem?_eq_getElem hi]
 rfl
def spNoI : Sp := fun vs H Q _ => ∃ (t a b p0 : Addr) (ns ss zs : List Int), vs = [.ref t, .ref p0] ∧ IsPl H t a b ns ss ∧ H p0 = some (.lst (zs.map V.int)) ∧ rowB ns ss zs = true ∧ ∀ H', Same H H' → Q (.int (numW ns ss zs : Nat)) H'
section
variable {f g1 g2 g3 g4 g5 C : Addr} {mc : Value} {fd gd1 gd2 gd3 gd4 gd5 : FuncData}
theorem scNo : FnScope ["plan", "thing"] ["plan", "thing"] (defScope sNo) := ⟨rfl, rfl, rfl, by decide +kernel, rfl, by decide +kernel, by decide +kernel⟩
theorem ok_noI {j : Nat} (F : Fun K "number_of" "number_of" sNo f fd) (T : TyT K C) (mA : Meth K C "number_at" g1)
  (GA : FnOk P w K mg base CX0 j g1 gd1 ["self", "places"] (spNa C)) (bA : Binds K gd1 ["self", "places"] [])
  (GR : FnOk P w K mg base CX0 j g2 gd2 ["plan", "thing"] spIsR) (bR : Binds K gd2 ["plan", "thing"] []) (kR : Kee K g2) (mR : mg "is_row" = some (.ref g2))
  (GT : FnOk P w K mg base CX0 j g3 gd3 ["plan"] (spTr C)) (bT : Binds K gd3 ["plan"] []) (kT : Kee K g3) (mT : mg "tally_of_rows" = some (.ref g3)) : FnOk P w K mg base CX0 (j + 1) f fd ["plan", "thing"] spNoI := by
 refine F.ok scNo (fun vs H Q E h => ?_) (fun cdv A outer s H vs Q E hr h => ?_)
 ·obtain ⟨t, a, b, p0, ns, ss, zs, rfl, _⟩ := h
  rfl
 obtain ⟨t, a, b, p0, ns, ss, zs, rfl, pl0, hp00, c, q0⟩ := h
 have z64 : zs.length < 64 := by
  have := (List.isPerm_iff.mp (Bool.and_eq_true_iff.mp c).1).length_eq
  have := pl0.ok.n2
  omega
 refine ⟨_, (@pss_cons _ _ _ _ _ (ps_if (pt_not (pt_val (pe_call GR hr rfl mR kR bR .nil pass0 (pa_cons (pv 0) (pa_cons (pv 1) pa_nil))))) (@pss_one _ _ _ ps_never) pss_nil) (@pss_one _ _ _ (ps_ret (pe_meth (pe_call GT hr rfl mT kT bT .nil pass0 (pa_cons (pv 0) pa_nil)) T.cl mA GA hr bA .nil pass0 (pa_cons (pe_comp ["number"] rfl (blk_ok (defScope sNo) ["plan", "thing"] rfl rfl (by decide +kernel)) (pi_list (pv 1)) (fun pins C fp s3 H3 => ⟨(pg_name (i := 0) (show (blkN ["number"] ["plan", "thing"]).Nodup by decide +kernel) rfl (Or.inl rfl)), pif_nil, (pe_bmK K PySem.F.plainAttrs_list PySem.F.slot_list_index PySem.F.type_list_index mt_index (pe_ix (ix_tupK K) (pv 1) pe_int (fun _ _ => rfl)) (pa_cons (pv 0) pa_nil))⟩)) pa_nil))))), ?_⟩
 refine ⟨_, rfl, _, rfl, t, a, b, p0, ns, ss, zs, rfl, pl0, hp00, z64, fun H1 g1 => ?_⟩
 rw [c]
 refine ⟨_, rfl, iteF ?_⟩
 have pl := pl0.same g1
 have hp0 := g1 _ _ hp00
 have q : ∀ H', Same H1 H' → Q (.int (numW ns ss zs : Nat)) H' := fun H' g => q0 H' (g1.trans g)
 have pm : zs.Perm ns := List.isPerm_iff.mp (Bool.and_eq_true_iff.mp c).1
 have n10 := pl.ok.n2
 have nsnd : ns.Nodup := pl.ok.n.up.imp fun h z => by omega
 have zin : ∀ z ∈ zs, z ∈ ns := fun z hz => pm.mem_iff.mp hz
 refine ⟨_, rfl, t, a, b, ns, ss, rfl, pl, fun p H2 e1 e2 e3 g2 how S hk => ?_⟩
 have pl2 := pl.same g2
 have hp2 := g2 _ _ (hp0)
 have zml : (zs.map V.int).length = zs.length := List.length_map _
 refine ⟨p.s, p.dx, _, rfl, S.at_, rfl, ?_⟩
 refine ⟨_, rfl, p0, rfl, ⟨_, SqL.of hp2⟩, fun D hD => ?_⟩
 refine turns_list (σ := [some (.ref t), some (.ref p0)]) (xs := zs.map V.int) (fun _ => true) (fun i => .int ((ns.idxOf (zs.getD i 0) : Nat) : Int)) (SqL.of hp2) hD (by omega) (fun i H' hi g P hP => ?_) (fun i H' hi _ g P hP => ?_) fun H3 g3 e3' => ?_
 ·exact hP _ Same.rfl'
 ·have hi' : i < zs.length := by rw [zml] at hi; exact hi
  have ek : zs[i]? = some zs[i] := List.getElem?_eq_getElem hi'
  have x1 : (zs.map V.int).getD i .non = .int zs[i] := by rw [List.getD_eq_getElem?_getD, List.getElem?_map, ek]; rfl
  have x2 : zs.getD i 0 = zs[i] := by rw [List.getD_eq_getElem?_getD, ek]; rfl
  have hin : zs[i] ∈ ns := zin _ (List.getElem_mem hi')
  rw [x1]
  rw [x2] at hP
  refine ⟨_, rfl, t, _, 0, _, rfl, rfl, SqT.of (pl2.same g).t, rfl, .inl ⟨rfl, _, SqL.of (pl2.same g).a⟩, _, rfl, a, ns, zs[i], ns.idxOf zs[i], rfl, rfl, (pl2.same g).a, List.getElem?_eq_some_iff.mpr ⟨List.idxOf_lt_length_iff.mpr hin, List.getElem_idxOf _⟩, fun m hm hz => ?_, by omega, hP _ Same.rfl'⟩
  obtain ⟨m1, m2⟩ := List.getElem?_eq_some_iff.mp hz
  have il := List.idxOf_lt_length_iff.mpr hin
  have lt := List.pairwise_iff_getElem.mp pl.ok.n.up m (ns.idxOf zs[i]) m1 il hm
  rw [m2, List.getElem_idxOf] at lt
  omega
 ·have S3 := S.ex hk.1 (Ex.same g3)
  have eks : H3 D = some (.lst ((iv (zs.map fun z => ns.idxOf z)).map V.int)) := by
   rw [e3', zml, iv_V, List.map_map]
   refine congrArg (fun x => some (HO.lst x)) ?_
   exact map_rng zs fun z => V.int ((ns.idxOf z : Nat) : Int)
  refine ⟨p, [], D, zs.map fun z => ns.idxOf z, rfl, S3, ⟨g3 _ _ hk.1, hk.2⟩, eks, ?_, ?_, fun H4 kvs4 ex4 hk4 => ?_⟩
  ·rw [e1]
   refine inL_of (Nat.lt_of_lt_of_le (Nat.sub_lt (Nat.two_pow_pos _) (by decide)) (pow_le _ (by omega))) (idx_nd (pm.nodup_iff.mpr nsnd) zin) fun k hk => ?_
   obtain ⟨z, hz, rfl⟩ := List.mem_map.mp hk
   have := List.idxOf_lt_length_iff.mpr (zin z hz)
   exact ⟨by omega, whole_bit' _ n10 _ this⟩
  ·intro k hk
   obtain ⟨z, hz, rfl⟩ := List.mem_map.mp hk
   rw [e1]
   exact List.idxOf_lt_length_iff.mpr (zin z hz)
  ·rw [e1, e2, e3]
   exact q H4 fun c o hc => ex4 c o (ne_of_none hc how) (g3 _ _ (g2 _ _ hc))
end
theorem bit_off : ∀ m < 1024, ∀ k < 10, m.testBit k = true → ∀ j < 10, (m - 2 ^ k).testBit j = (m.testBit j && decide (j ≠ k)) := by decide +kernel
theorem sub_len {α : Type} [DecidableEq α] : ∀ {xs ys : List α}, xs.Nodup → (∀ x ∈ xs, x ∈ ys) → xs.length ≤ ys.length
 | [], _, _, _ => Nat.zero_le _
 | x :: xs, ys, nd, h => by
  obtain ⟨h1, nd'⟩ := List.nodup_cons.mp nd
  have hx := h x List.mem_cons_self
  have ih := sub_len (ys := ys.erase x) nd' fun y hy => (List.mem_erase_of_ne (fun e : y = x => h1 (e ▸ hy))).mpr (h y (List.mem_cons_of_mem _ hy))
  rw [List.length_erase_of_mem hx] at ih
  have : 0 < ys.length := List.length_pos_of_mem hx
  rw [List.length_cons]
  omega
section
variable (near : Nat → List Nat) (ends : Nat → Bool)
def pthF : Nat → Nat → Nat → List (List Nat)
 | 0, _, e => if ends e then [[]] else []
 | m + 1, left, e => ((near e).filter fun k => left.testBit k).flatMap fun k => (pthF m (left - 2 ^ k) k).map (k :: ·)
variable {near ends}
theorem pth_len : ∀ (m left e : Nat), (pthF near ends m left e).length = waysF near ends m left e
 | 0, left, e => by
  show (if ends e then [[]] else ([] : List (List Nat))).length = if ends e then 1 else 0
  split <;> rfl
 | m + 1, left, e => by
  show (((near e).filter fun k => left.testBit k).flatMap fun k => (pthF near ends m (left - 2 ^ k) k).map (k :: ·)).length = (((near e).filter fun k => left.testBit k).map fun k => waysF near ends m (left - 2 ^ k) k).sum
  rw [List.length_flatMap]
  congr 1
  exact List.map_congr_left fun k _ => by rw [List.length_map, pth_len m]
theorem nodup_mapO {α β : Type} {f : α → β} : ∀ {l : List α}, (∀ a ∈ l, ∀ b ∈ l, f a = f b → a = b) → l.Nodup → (l.map f).Nodup
 | [], _, _ => List.nodup_nil
 | a :: r, hf, h => by
  obtain ⟨h1, h2⟩ := List.nodup_cons.mp h
  rw [List.map_cons]
  refine List.nodup_cons.mpr ⟨fun z => ?_, nodup_mapO (fun x hx y hy => hf x (List.mem_cons_of_mem _ hx) y (List.mem_cons_of_mem _ hy)) h2⟩
  obtain ⟨b, hb, e⟩ := List.mem_map.mp z
  exact h1 (hf b (List.mem_cons_of_mem _ hb) a List.mem_cons_self e ▸ hb)
theorem pth_nodup {n : Nat} (N : NearOk near n) : ∀ (m left e : Nat), e ≤ n → (pthF near ends m left e).Nodup
 | 0, left, e, _ => by
  show (if ends e then [[]] else ([] : List (List Nat))).Nodup
  split
  ·exact List.nodup_cons.mpr ⟨(fun h => nomatch h), List.nodup_nil⟩
  ·exact List.nodup_nil
 | m + 1, left, e, he => by
  have hs : ((near e).filter fun k => left.testBit k).Pairwise (· < ·) := (N.up e he).sublist List.filter_sublist
  have hk : ∀ k ∈ (near e).filter (fun k => left.testBit k), k < n := fun k h => N.lt e he k (List.mem_filter.mp h).1
  show (((near e).filter fun k => left.testBit k).flatMap fun k => (pthF near ends m (left - 2 ^ k) k).map (k :: ·)).Nodup
  generalize (near e).filter (fun k => left.testBit k) = ks at hs hk ⊢
  induction ks with
  | nil => exact List.nodup_nil
  | cons a r ih =>
   rw [List.flatMap_cons]
   refine List.nodup_append.mpr ⟨nodup_mapO (fun x _ y _ z => (List.cons.inj z).2) (pth_nodup N m _ a (Nat.le_of_lt (hk a List.mem_cons_self))), ih hs.of_cons fun k h => hk k (List.mem_cons_of_mem _ h), fun x hx y hy e => ?_⟩
   obtain ⟨x', _, rfl⟩ := List.mem_map.mp hx
   obtain ⟨b, hb, hy'⟩ := List.mem_flatMap.mp hy
   obtain ⟨y', _, rfl⟩ := List.mem_map.mp hy'
   have : a = b := (List.cons.inj e).1
   have := List.rel_of_pairwise_cons hs hb
   omega
def wlk (near : Nat → List Nat) : List Nat → Prop
 | x :: y :: r => y ∈ near x ∧ wlk near (y :: r)
 | _ => True
theorem mem_pth {n : Nat} (N : NearOk near n) : ∀ (m left e : Nat) (l : List Nat), cnt left = m → left < 1024 → left < 2 ^ n → e ≤ n → (l ∈ pthF near ends m left e ↔ wlk near (e :: l) ∧ l.Nodup ∧ (∀ k, k ∈ l ↔ left.testBit k = true) ∧ ∃ z, (e :: l).getLast? = some z ∧ ends z = true)
 | 0, left, e, l, hc, hl, hn, he => by
  have l0 : left = 0 := cnt_zero left hl hc
  subst l0
  show l ∈ (if ends e then [[]] else ([] : List (List Nat))) ↔ _
  constructor
  ·intro h
   split at h
   ·rename_i hE
    rw [List.mem_singleton.mp h]
    exact ⟨trivial, List.nodup_nil, fun k => ⟨(fun z => nomatch z), fun z => by rw [Nat.zero_testBit] at z; cases z⟩, e, rfl, hE⟩
   ·cases h
  ·rintro ⟨_, _, h3, z, h4, h5⟩
   have ln : l = [] := by
    cases l with
    | nil => rfl
    | cons a r =>
     have := (h3 a).mp List.mem_cons_self
     rw [Nat.zero_testBit] at this
     cases this
   subst ln
   have ez : e = z := Option.some.inj h4
   rw [← ez] at h5
   rw [if_pos h5]
   exact List.mem_cons_self
 | m + 1, left, e, l, hc, hl, hn, he => by
  show l ∈ (((near e).filter fun k => left.testBit k).flatMap fun k => (pthF near ends m (left - 2 ^ k) k).map (k :: ·)) ↔ _
  rw [List.mem_flatMap]
  have n10 := N.n10
  have stp : ∀ k, k < n → left.testBit k = true → cnt (left - 2 ^ k) = m ∧ left - 2 ^ k < 1024 ∧ left - 2 ^ k < 2 ^ n ∧ ∀ j, (left - 2 ^ k).testBit j = true ↔ left.testBit j = true ∧ j ≠ k := fun k hk hb => by
   have cd := cnt_dec left hl k (by omega) hb
   refine ⟨by omega, by omega, by omega, fun j => ?_⟩
   by_cases hj : j < 10
   ·rw [bit_off left hl k (by omega) hb j hj, Bool.and_eq_true, decide_eq_true_iff]
   ·have z1 : (left - 2 ^ k).testBit j = false := Nat.testBit_lt_two_pow (Nat.lt_of_lt_of_le (show left - 2 ^ k < 2 ^ 10 by omega) (Nat.pow_le_pow_right (by decide) (by omega)))
    have z2 : left.testBit j = false := Nat.testBit_lt_two_pow (Nat.lt_of_lt_of_le (show left < 2 ^ 10 by omega) (Nat.pow_le_pow_right (by decide) (by omega)))
    rw [z1, z2]
    simp
  constructor
  ·rintro ⟨k, hk, hm⟩
   obtain ⟨h1, h2⟩ := List.mem_filter.mp hk
   obtain ⟨l', hl', rfl⟩ := List.mem_map.mp hm
   have hkn := N.lt e he k h1
   obtain ⟨s1, s2, s3, s4⟩ := stp k hkn h2
   obtain ⟨a1, a2, a3, z, a4, a5⟩ := (mem_pth N m (left - 2 ^ k) k l' s1 s2 s3 (Nat.le_of_lt hkn)).mp hl'
   refine ⟨⟨h1, a1⟩, List.nodup_cons.mpr ⟨fun h => ((s4 k).mp ((a3 k).mp h)).2 rfl, a2⟩, fun j => ?_, z, ?_, a5⟩
   ·rw [List.mem_cons, a3 j, s4 j]
    by_cases hj : j = k
    ·rw [hj]; exact ⟨fun _ => h2, fun _ => .inl rfl⟩
    ·exact ⟨fun h => h.elim (fun z => absurd z hj) fun z => z.1, fun h => .inr ⟨h, hj⟩⟩
   ·rw [List.getLast?_cons_cons]
    exact a4
  ·rintro ⟨a1, a2, a3, z, a4, a5⟩
   cases l with
   | nil =>
    exfalso
    have : left = 0 := Nat.eq_of_testBit_eq fun k => by
     rw [Nat.zero_testBit]
     cases hb : left.testBit k with
     | false => rfl
     | true => exact nomatch (a3 k).mpr hb
    rw [this] at hc
    exact absurd (show cnt 0 = m + 1 from hc) (by show ¬ (0 = m + 1); omega)
   | cons k l' =>
    have h2 := (a3 k).mp List.mem_cons_self
    have h1 : k ∈ near e := a1.1
    have hkn := N.lt e he k h1
    obtain ⟨s1, s2, s3, s4⟩ := stp k hkn h2
    obtain ⟨b1, b2⟩ := List.nodup_cons.mp a2
    refine ⟨k, List.mem_filter.mpr ⟨h1, h2⟩, List.mem_map.mpr ⟨l', (mem_pth N m (left - 2 ^ k) k l' s1 s2 s3 (Nat.le_of_lt hkn)).mpr ⟨a1.2, b2, fun j => ?_, z, ?_, a5⟩, rfl⟩⟩
    ·rw [s4 j, ← a3 j, List.mem_cons]
     exact ⟨fun h => ⟨.inr h, fun e => b1 (e ▸ h)⟩, fun h => h.1.elim (fun e => absurd e h.2) id⟩
    ·rw [List.getLast?_cons_cons] at a4
     exact a4
end
def Cyc (near : Nat → List Nat) (n : Nat) (c : List Nat) : Prop := wlk near c ∧ c.Nodup ∧ (∀ k, k ∈ c ↔ k < n) ∧ ∃ x z, c.head? = some x ∧ c.getLast? = some z ∧ x ∈ near z
theorem wlk_app {near : Nat → List Nat} : ∀ (p q : List Nat), wlk near (p ++ q) ↔ wlk near p ∧ wlk near q ∧ ∀ x y, p.getLast? = some x → q.head? = some y → y ∈ near x
 | [], q => ⟨fun h => ⟨trivial, h, fun _ _ z => nomatch z⟩, fun h => h.2.1⟩
 | [x], [] => ⟨fun _ => ⟨trivial, trivial, fun _ _ _ z => nomatch z⟩, fun _ => trivial⟩
 | [x], y :: q => ⟨fun h => ⟨trivial, h.2, fun a b ha hb => by cases ha; cases hb; exact h.1⟩, fun h => ⟨h.2.2 x y rfl rfl, h.2.1⟩⟩
 | x :: y :: p, q => by
  have ih := wlk_app (near := near) (y :: p) q
  show (y ∈ near x ∧ wlk near ((y :: p) ++ q)) ↔ (y ∈ near x ∧ wlk near (y :: p)) ∧ _
  rw [ih, List.getLast?_cons_cons]
  exact ⟨fun h => ⟨⟨h.1, h.2.1⟩, h.2.2⟩, fun h => ⟨h.1.1, h.1.2, h.2⟩⟩
def rot (j : Nat) (c : List Nat) : List Nat := c.dropWhile (fun k => decide (k ≠ j)) ++ c.takeWhile fun k => decide (k ≠ j)
theorem split_at {j : Nat} : ∀ {c : List Nat}, j ∈ c → ∃ p q, c = p ++ j :: q ∧ j ∉ p ∧ rot j c = j :: q ++ p
 | x :: r, h => by
  by_cases e : x = j
  ·subst e
   refine ⟨[], r, rfl, (fun h => nomatch h), ?_⟩
   unfold rot
   rw [List.dropWhile_cons_of_neg (by simp), List.takeWhile_cons_of_neg (by simp)]
  ·obtain ⟨p, q, e1, e2, e3⟩ := split_at ((List.mem_cons.mp h).resolve_left fun z => e z.symm)
   refine ⟨x :: p, q, by rw [e1]; rfl, fun z => (List.mem_cons.mp z).elim (fun y => e y.symm) e2, ?_⟩
   subst e1
   unfold rot at e3 ⊢
   have dn : ∀ (p : List Nat), j ∉ p → (p ++ j :: q).dropWhile (fun k => decide (k ≠ j)) = j :: q ∧ (p ++ j :: q).takeWhile (fun k => decide (k ≠ j)) = p := by
    intro p
    induction p with
    | nil => intro _; rw [List.nil_append, List.dropWhile_cons_of_neg (by simp), List.takeWhile_cons_of_neg (by simp)]; exact ⟨rfl, rfl⟩
    | cons a p ih =>
     intro hp
     have ha : a ≠ j := fun z => hp (by rw [z]; exact List.mem_cons_self)
     obtain ⟨i1, i2⟩ := ih fun z => hp (List.mem_cons_of_mem _ z)
     rw [List.cons_append, List.dropWhile_cons_of_pos (by simpa using ha), List.takeWhile_cons_of_pos (by simpa using ha), i1, i2]
     exact ⟨rfl, rfl⟩
   obtain ⟨d1, d2⟩ := dn (x :: p) fun z => (List.mem_cons.mp z).elim (fun y => e y.symm) e2
   rw [← List.cons_append, d1, d2]
theorem rot_is {j : Nat} {p q : List Nat} (h : j ∉ p) : rot j (p ++ j :: q) = j :: q ++ p := by
 obtain ⟨p', q', e1, e2, e3⟩ := split_at (j := j) (c := p ++ j :: q) (List.mem_append_right _ List.mem_cons_self)
 have : p = p' ∧ q = q' := by
  clear e3
  induction p generalizing p' with
  | nil =>
   cases p' with
   | nil => exact ⟨rfl, (List.cons.inj e1).2⟩
   | cons a p' => exact absurd (by rw [← (List.cons.inj e1).1]; exact List.mem_cons_self) e2
  | cons b p ih =>
   cases p' with
   | nil => exact absurd (by rw [(List.cons.inj e1).1]; exact List.mem_cons_self) h
   | cons a p' =>
    obtain ⟨h1, h2⟩ := List.cons.inj e1
    obtain ⟨i1, i2⟩ := ih (fun z => h (List.mem_cons_of_mem _ z)) p' h2 fun z => e2 (List.mem_cons_of_mem _ z)
    rw [h1, i1, i2]
    exact ⟨rfl, rfl⟩
 rw [e3, this.1, this.2]
theorem cyc_rot {near : Nat → List Nat} {n j : Nat} {c : List Nat} (C : Cyc near n c) (hj : j < n) : Cyc near n (rot j c) ∧ (rot j c).head? = some j ∧ ∀ i, c.head? = some i → rot i (rot j c) = c := by
 obtain ⟨c1, c2, c3, x, z, c4, c5, c6⟩ := C
 obtain ⟨p, q, e1, e2, e3⟩ := split_at ((c3 j).mpr hj)
 rw [e3]
 have pm : (j :: q ++ p).Perm c := by rw [e1]; exact List.perm_append_comm
 rw [e1, wlk_app] at c1
 refine ⟨⟨?_, (pm.nodup_iff).mpr c2, fun k => by rw [pm.mem_iff]; exact c3 k, j, ?_⟩, rfl, fun i hi => ?_⟩
 ·rw [wlk_app]
  refine ⟨c1.2.1, c1.1, fun a b ha hb => ?_⟩
  rw [e1] at c4 c5
  have hb' : (p ++ j :: q).head? = some b := by
   cases p with
   | nil => cases hb
   | cons y p => exact hb
  rw [hb'] at c4
  cases c4
  rw [List.getLast?_append, ha] at c5
  cases c5
  exact c6
 ·cases hp : p.getLast? with
  | none =>
   have pn : p = [] := List.getLast?_eq_none_iff.mp hp
   subst pn
   refine ⟨z, rfl, ?_, ?_⟩
   ·rw [List.append_nil]
    rw [e1] at c5
    exact c5
   ·rw [e1] at c4
    cases c4
    exact c6
  | some y =>
   refine ⟨y, rfl, ?_, c1.2.2 y j hp rfl⟩
   rw [List.getLast?_append, hp]
   rfl
 ·rw [e1] at hi ⊢
  cases p with
  | nil =>
   cases hi
   rw [List.append_nil]
   exact (rot_is (p := []) (fun h => nomatch h)).trans (List.append_nil _)
  | cons y p =>
   have ei : y = i := Option.some.inj hi
   subst ei
   have hni : y ∉ j :: q := fun h => by
    rw [e1] at c2
    exact (List.nodup_append.mp c2).2.2 y List.mem_cons_self y h rfl
   exact rot_is hni
section
variable {near : Nat → List Nat} {n : Nat}
def ringsAt (near : Nat → List Nat) (n i : Nat) : List (List Nat) := (pthF near (fun e => (near e).contains i) (cnt (2 ^ n - 1 - 2 ^ i)) (2 ^ n - 1 - 2 ^ i) i).map (i :: ·)
theorem mem_rings (N : NearOk near n) {i : Nat} (hi : i < n) (c : List Nat) : c ∈ ringsAt near n i ↔ Cyc near n c ∧ c.head? = some i := by
 have n10 := N.n10
 have hp := pow_le n (by omega)
 have hpos := Nat.two_pow_pos n
 have hw : 2 ^ n - 1 < 1024 := by omega
 have hb := whole_bit hi
 have cd := cnt_dec _ hw i (by omega) hb
 have bits : ∀ k, (2 ^ n - 1 - 2 ^ i).testBit k = true ↔ k < n ∧ k ≠ i := fun k => by
  by_cases hk : k < 10
  ·rw [bit_off _ hw i (by omega) hb k hk, Bool.and_eq_true, decide_eq_true_iff, Nat.testBit_two_pow_sub_one, decide_eq_true_iff]
  ·have z1 : (2 ^ n - 1 - 2 ^ i).testBit k = false := Nat.testBit_lt_two_pow (Nat.lt_of_lt_of_le (show 2 ^ n - 1 - 2 ^ i < 2 ^ 10 by omega) (Nat.pow_le_pow_right (by decide) (by omega)))
   rw [z1]
   exact ⟨fun h => (nomatch h), fun h => by omega⟩
 unfold ringsAt
 rw [List.mem_map]
 constructor
 ·rintro ⟨l, hl, rfl⟩
  obtain ⟨a1, a2, a3, z, a4, a5⟩ := (mem_pth N _ _ i l rfl (by omega) (by omega) (Nat.le_of_lt hi)).mp hl
  refine ⟨⟨a1, List.nodup_cons.mpr ⟨fun h => ((bits i).mp ((a3 i).mp h)).2 rfl, a2⟩, fun k => ?_, i, z, rfl, a4, List.contains_iff_mem.mp a5⟩, rfl⟩
  rw [List.mem_cons, a3 k, bits k]
  by_cases hk : k = i
  ·rw [hk]; exact ⟨fun _ => hi, fun _ => .inl rfl⟩
  ·exact ⟨fun h => h.elim (fun z => absurd z hk) fun z => z.1, fun h => .inr ⟨h, hk⟩⟩
 ·rintro ⟨⟨c1, c2, c3, x, z, c4, c5, c6⟩, hd⟩
  cases c with
  | nil => cases hd
  | cons y l =>
   cases hd
   cases c4
   obtain ⟨b1, b2⟩ := List.nodup_cons.mp c2
   refine ⟨l, (mem_pth N _ _ i l rfl (by omega) (by omega) (Nat.le_of_lt hi)).mpr ⟨c1, b2, fun k => ?_, z, c5, List.contains_iff_mem.mpr c6⟩, rfl⟩
   rw [bits k, ← c3 k, List.mem_cons]
   exact ⟨fun h => ⟨.inr h, fun e => b1 (e ▸ h)⟩, fun h => h.1.elim (fun e => absurd e h.2) id⟩
theorem rings_le (N : NearOk near n) {i j : Nat} (hi : i < n) (hj : j < n) : (ringsAt near n i).length ≤ (ringsAt near n j).length := by
 have nd : (ringsAt near n i).Nodup := nodup_mapO (fun x _ y _ z => (List.cons.inj z).2) (pth_nodup N _ _ i (Nat.le_of_lt hi))
 have nd2 : ((ringsAt near n i).map (rot j)).Nodup := nodup_mapO (fun c hc d hd e => by
  obtain ⟨C, h1⟩ := (mem_rings N hi c).mp hc
  obtain ⟨D, h2⟩ := (mem_rings N hi d).mp hd
  rw [← (cyc_rot C hj).2.2 i h1, ← (cyc_rot D hj).2.2 i h2, e]) nd
 have h := sub_len nd2 (ys := ringsAt near n j) fun c hc => by
  obtain ⟨d, hd, rfl⟩ := List.mem_map.mp hc
  obtain ⟨D, _⟩ := (mem_rings N hi d).mp hd
  exact (mem_rings N hj _).mpr ⟨(cyc_rot D hj).1, (cyc_rot D hj).2.1⟩
 rw [List.length_map] at h
 exact h
theorem rings_eq (N : NearOk near n) {i j : Nat} (hi : i < n) (hj : j < n) : ways near (fun e => (near e).contains i) (2 ^ n - 1 - 2 ^ i) i = ways near (fun e => (near e).contains j) (2 ^ n - 1 - 2 ^ j) j := by
 have a := rings_le N hi hj
 have b := rings_le N hj hi
 unfold ringsAt at a b
 rw [List.length_map, List.length_map, pth_len, pth_len] at a b
 exact Nat.le_antisymm a b
theorem ways_cong {near' : Nat → List Nat} {ends ends' : Nat → Bool} (N : NearOk near n) (h1 : ∀ e < n, near e = near' e) (h2 : ∀ e < n, ends e = ends' e) : ∀ (m left e : Nat), e < n → waysF near ends m left e = waysF near' ends' m left e
 | 0, left, e, he => by
  show (if ends e then 1 else 0) = if ends' e then 1 else 0
  rw [h2 e he]
 | m + 1, left, e, he => by
  show (((near e).filter fun k => left.testBit k).map fun k => waysF near ends m (left - 2 ^ k) k).sum = (((near' e).filter fun k => left.testBit k).map fun k => waysF near' ends' m (left - 2 ^ k) k).sum
  rw [← h1 e he]
  congr 1
  exact List.map_congr_left fun k hk => ways_cong N h1 h2 m _ k (N.lt e (Nat.le_of_lt he) k (List.mem_filter.mp hk).1)
end
theorem whole_lt {n : Nat} (h : n ≤ 10) : 2 ^ n - 1 < 1024 := by have := pow_le n (by omega); have := Nat.two_pow_pos n; omega
theorem near_all {ns ss : List Int} (ok : PlanOk ns ss) : NearOk (nearX ns ss (List.range ns.length)) ns.length := near_ok ok (fun k hk => List.mem_range.mp hk) List.pairwise_lt_range
def ringAt (ns ss : List Int) (i : Nat) : Nat := ways (nearX ns ss (List.range ns.length)) (fun e => (nearX ns ss (List.range ns.length) e).contains i) (2 ^ ns.length - 1 - 2 ^ i) i
theorem cnt_ring {ns ss : List Int} (ok : PlanOk ns ss) : cntW ns ss true = ringAt ns ss 0 := by
 have n1 := ok.n1
 have N0 : NearOk (nearX ns ss [0]) ns.length := near_ok ok (fun k hk => by rw [List.mem_singleton.mp hk]; omega) (List.pairwise_singleton _ _)
 have wp := Nat.one_lt_two_pow (n := ns.length) (by omega)
 unfold cntW ringAt
 show ways (nearX ns ss [0]) (endsP ns ss true) (2 ^ ns.length - 1) ns.length = _
 rw [ways_succ N0 (whole_lt ok.n2) (by omega) (Nat.le_refl _)]
 have e1 : nearX ns ss [0] ns.length = [0] := by unfold nearX; rw [if_neg (Nat.lt_irrefl _)]
 rw [e1, List.filter_cons, if_pos (whole_bit (by omega)), List.filter_nil]
 show ways _ _ _ 0 + 0 = _
 rw [Nat.add_zero]
 refine ways_cong N0 (fun e he => ?_) (fun e he => ?_) _ _ 0 (by omega)
 ·unfold nearX; rw [if_pos he, if_pos he]
 ·unfold nearX endsP; rw [if_pos he]; rfl
theorem ring_same {ns ss : List Int} (ok : PlanOk ns ss) {i : Nat} (hi : i < ns.length) : ringAt ns ss i = ringAt ns ss 0 := rings_eq (near_all ok) hi (by have := ok.n1; omega)
theorem getD_at {ns : List Int} {i : Nat} (h : i < ns.length) : ns[i]? = some (ns.getD i 0) := by rw [List.getD_eq_getElem?_getD, List.getElem?_eq_getElem h]; rfl
theorem perm_of_sub : ∀ {zs ns : List Int}, zs.Nodup → (∀ x ∈ zs, x ∈ ns) → zs.length = ns.length → zs.Perm ns
 | [], ns, _, _, hl => by
  have : ns = [] := List.eq_nil_of_length_eq_zero hl.symm
  rw [this]
 | x :: r, ns, hn, hs, hl => by
  rw [List.nodup_cons] at hn
  have hx := hs x List.mem_cons_self
  refine (List.Perm.cons x (perm_of_sub hn.2 (fun y hy => ?_) ?_)).trans (List.perm_cons_erase hx).symm
  ·exact (List.mem_erase_of_ne (fun e : y = x => hn.1 (by rw [← e]; exact hy))).mpr (hs y (List.mem_cons_of_mem _ hy))
  ·rw [List.length_erase_of_mem hx]
   rw [List.length_cons] at hl
   omega
theorem cnt_whole : ∀ n ≤ 10, cnt (2 ^ n - 1) = n := by decide
theorem idx_at {ns : List Int} (up : ns.Pairwise (· < ·)) {k : Nat} (hk : k < ns.length) : ns.idxOf (ns.getD k 0) = k := by
 have e : ns.getD k 0 = ns[k] := by rw [List.getD_eq_getElem?_getD, List.getElem?_eq_getElem hk]; rfl
 have hm : ns.getD k 0 ∈ ns := by rw [e]; exact List.getElem_mem hk
 have il := List.idxOf_lt_length_iff.mpr hm
 have ev : ns[ns.idxOf (ns.getD k 0)] = ns[k] := by rw [List.getElem_idxOf, e]
 rcases Nat.lt_trichotomy (ns.idxOf (ns.getD k 0)) k with z | z | z
 ·have := List.pairwise_iff_getElem.mp up _ _ il hk z
  omega
 ·exact z
 ·have := List.pairwise_iff_getElem.mp up _ _ hk il z
  omega
theorem walk_nb {near : Nat → List Nat} : ∀ {ks : List Nat} {e : Nat}, Walk near e ks → ∀ i (h : i + 1 < ks.length), ks[i + 1] ∈ near ks[i]
 | _ :: [], _, _, i, h => by
  have : i + 1 < 1 := h
  omega
 | a :: b :: r, e, w, 0, h => w.2.1
 | a :: b :: r, e, w, i + 1, h => walk_nb (ks := b :: r) w.2 i (by simpa using h)
theorem rowN_row {ns ss : List Int} (ok : PlanOk ns ss) {num : Nat} (h : num < cntW ns ss false) : rowB ns ss (rowN ns ss num) = true ∧ numW ns ss (rowN ns ss num) = num := by
 have N := near_all ok
 have n10 := ok.n2
 have wl := whole_lt n10
 have h' : num < ways (nearX ns ss (List.range ns.length)) (endsP ns ss false) (2 ^ ns.length - 1) ns.length := h
 obtain ⟨w1, w2, w3, w4⟩ := by_walk N _ _ _ _ (cnt_whole _ n10) wl (Nat.le_refl _) h'
 have e5 := num_by N _ _ _ _ (cnt_whole _ n10) wl (Nat.le_refl _) h'
 unfold rowN numW
 generalize byN (nearX ns ss (List.range ns.length)) (endsP ns ss false) (2 ^ ns.length - 1) ns.length num = ks at w1 w2 w3 w4 e5 ⊢
 have at_ : ∀ i (hi : i < ks.length), ks[i] < ns.length := fun i hi => (w3 _ (List.getElem_mem hi)).1
 refine ⟨?_, ?_⟩
 ·unfold rowB
  rw [Bool.and_eq_true, List.isPerm_iff]
  refine ⟨perm_of_sub ?_ (fun x hx => ?_) (by rw [List.length_map, w1]), ?_⟩
  ·refine List.pairwise_map.mpr (w2.imp_of_mem fun {x y} hx hy ne e => ne ?_)
   rw [← idx_at ok.n.up (w3 x hx).1, ← idx_at ok.n.up (w3 y hy).1, e]
  ·obtain ⟨k, hk, rfl⟩ := List.mem_map.mp hx
   exact List.mem_of_getElem? (getD_at (w3 k hk).1)
  ·unfold nbB
   refine List.all_eq_true.mpr fun i hi => ?_
   have hi' := List.mem_range.mp hi
   rw [List.length_map] at hi'
   have i1 : i + 1 < ks.length := by omega
   have i0 : i < ks.length := by omega
   have m := walk_nb w4 i i1
   unfold nearX at m
   rw [if_pos (at_ i i0)] at m
   unfold nearP at m
   have m2 := (List.mem_filter.mp m).2
   have g0 : (ks.map fun k => ns.getD k 0).getD i 0 = ns.getD ks[i] 0 := by rw [List.getD_eq_getElem?_getD, List.getElem?_map, List.getElem?_eq_getElem i0]; rfl
   have g1 : (ks.map fun k => ns.getD k 0).getD (i + 1) 0 = ns.getD ks[i + 1] 0 := by rw [List.getD_eq_getElem?_getD, List.getElem?_map, List.getElem?_eq_getElem i1]; rfl
   rw [g0, g1]
   exact m2
 ·have e6 : (ks.map fun k => ns.getD k 0).map (fun z => ns.idxOf z) = ks := by
   rw [List.map_map]
   refine (List.map_congr_left fun k hk => ?_).trans (List.map_id _)
   exact idx_at ok.n.up (w3 k hk).1
  rw [e6]
  exact e5
theorem flat_at {α β : Type} (f : α → List β) (k : α) (q : List α) {r : Nat} (h : r < (f k).length) : ∀ p : List α, ((p ++ k :: q).flatMap f)[(p.map fun a => (f a).length).sum + r]? = (f k)[r]?
 | [] => by
  show ((k :: q).flatMap f)[0 + r]? = _
  rw [Nat.zero_add, List.flatMap_cons, List.getElem?_append_left h]
 | a :: p => by
  rw [List.cons_append, List.flatMap_cons, List.map_cons, List.sum_cons, List.getElem?_append_right (by omega), ← flat_at f k q h p]
  congr 1
  omega
theorem by_pth {near : Nat → List Nat} {ends : Nat → Bool} {n : Nat} (N : NearOk near n) : ∀ (m left e num : Nat), cnt left = m → left < 1024 → e ≤ n → num < ways near ends left e → (pthF near ends m left e)[num]? = some (byN near ends left e num)
 | 0, left, e, num, hc, hl, he, h => by
  have h0 := cnt_zero left hl hc
  subst h0
  have h' : num < (if ends e = true then 1 else 0) := h
  by_cases z : ends e = true
  ·rw [if_pos z] at h'
   have n0 : num = 0 := by omega
   subst n0
   show (if ends e = true then [[]] else ([] : List (List Nat)))[0]? = _
   rw [if_pos z]
   rfl
  ·rw [if_neg z] at h'
   omega
 | m + 1, left, e, num, hc, hl, he, h => by
  have h0 : left ≠ 0 := fun z => by rw [z] at hc; cases hc
  obtain ⟨k, hk, hkn, hb, _, h1, h2, eb⟩ := by_cons N hl h0 he h
  have n10 := N.n10
  have hp : (nbs near left e).Pairwise (· < ·) := (N.up e he).sublist List.filter_sublist
  obtain ⟨p, q, eq⟩ := List.append_of_mem hk
  have len : ∀ j ∈ nbs near left e, (pthF near ends m (left - 2 ^ j) j).length = wBy near ends left j := fun j hj => by
   obtain ⟨j1, j2⟩ := List.mem_filter.mp hj
   have d := cnt_dec left hl j (by have := N.lt e he j j1; omega) j2
   rw [pth_len]
   unfold wBy ways
   rw [show cnt (left - 2 ^ j) = m by omega]
  have d := cnt_dec left hl k (by omega) hb
  have ih := by_pth (ends := ends) N m (left - 2 ^ k) k (num - wAh near ends left e k) (by omega) (by omega) (Nat.le_of_lt hkn) h2
  have wa : wAh near ends left e k = (p.map fun j => ((pthF near ends m (left - 2 ^ j) j).map (j :: ·)).length).sum := by
   unfold wAh
   rw [eq] at hp ⊢
   rw [ahd_at hp]
   refine congrArg List.sum (List.map_congr_left fun j hj => ?_)
   rw [List.length_map, len j (by rw [eq]; exact List.mem_append_left _ hj)]
  have lk : num - wAh near ends left e k < ((pthF near ends m (left - 2 ^ k) k).map (k :: ·)).length := by
   rw [List.length_map, len k hk]
   exact h2
  show ((nbs near left e).flatMap fun j => (pthF near ends m (left - 2 ^ j) j).map (j :: ·))[num]? = _
  have fa := flat_at (fun j => (pthF near ends m (left - 2 ^ j) j).map (j :: ·)) k q lk p
  rw [← wa, ← eq, show wAh near ends left e k + (num - wAh near ends left e k) = num by omega] at fa
  rw [fa, List.getElem?_map, ih, eb]
  rfl
theorem pth_flt {near : Nat → List Nat} (E : Nat → Bool) : ∀ (m left e : Nat), (pthF near (fun _ => true) m left e).filter (fun c => E (c.getLastD e)) = pthF near E m left e
 | 0, left, e => by
  show ([[]] : List (List Nat)).filter (fun c => E (c.getLastD e)) = if E e = true then [[]] else []
  rw [List.filter_cons, List.filter_nil]
  rfl
 | m + 1, left, e => by
  show (((near e).filter fun k => left.testBit k).flatMap fun k => (pthF near (fun _ => true) m (left - 2 ^ k) k).map (k :: ·)).filter _ = ((near e).filter fun k => left.testBit k).flatMap fun k => (pthF near E m (left - 2 ^ k) k).map (k :: ·)
  generalize (near e).filter (fun k => left.testBit k) = ks
  induction ks with
  | nil => rfl
  | cons k r ih =>
   rw [List.flatMap_cons, List.flatMap_cons, List.filter_append, ih, ← pth_flt E m (left - 2 ^ k) k, List.filter_map]
   congr 2
   exact List.filter_congr fun c _ => by
    show E ((k :: c).getLastD e) = E (c.getLastD k)
    rw [List.getLastD_cons]
theorem getD_atP {ns : List Int} {i : Nat} (h : i < ns.length) : ns[i]? = some (ns.getD i 0) := by rw [List.getD_eq_getElem?_getD, List.getElem?_eq_getElem h]; rfl
theorem getD_lt {ns : List Int} (up : ns.Pairwise (· < ·)) {i j : Nat} (h : i < j) (hj : j < ns.length) : ns.getD i 0 < ns.getD j 0 := by
 have := List.pairwise_iff_getElem.mp up i j (by omega) hj h
 have e1 := getD_atP (ns := ns) (i := i) (by omega)
 have e2 := getD_atP hj
 rw [List.getElem?_eq_getElem (by omega)] at e1 e2
 rw [← Option.some.inj e1, ← Option.some.inj e2]
 exact this
theorem by_lt {near : Nat → List Nat} {ends : Nat → Bool} {n : Nat} {g : Nat → Int} (N : NearOk near n) (gu : ∀ i j, i < j → j < n → g i < g j) : ∀ (m left e num num' : Nat), cnt left = m → left < 1024 → e ≤ n → num < num' → num' < ways near ends left e → HT.ordL .lt ((byN near ends left e num).map g) ((byN near ends left e num').map g) = true
 | 0, left, e, num, num', hc, hl, he, h1, h2 => by
  have h0 := cnt_zero left hl hc
  subst h0
  have h' : num' < (if ends e = true then 1 else 0) := h2
  split at h' <;> omega
 | m + 1, left, e, num, num', hc, hl, he, h1, h2 => by
  have h0 : left ≠ 0 := fun z => by rw [z] at hc; cases hc
  obtain ⟨k, hk, hkn, hb, _, a1, a2, eb⟩ := by_cons N hl h0 he (Nat.lt_trans h1 h2)
  obtain ⟨k', hk', hkn', hb', _, b1, b2, eb'⟩ := by_cons N hl h0 he h2
  have n10 := N.n10
  have hp : (nbs near left e).Pairwise (· < ·) := (N.up e he).sublist List.filter_sublist
  rw [eb, eb', List.map_cons, List.map_cons]
  unfold HT.ordL
  rcases Nat.lt_trichotomy k k' with z | z | z
  ·have := gu k k' z hkn'
   rw [if_neg (by omega)]
   exact decide_eq_true this
  ·subst z
   rw [if_pos rfl]
   have d := cnt_dec left hl k (by omega) hb
   exact by_lt N gu m (left - 2 ^ k) k _ _ (by omega) (by omega) (Nat.le_of_lt hkn) (by omega) b2
  ·have := ahd_next (w := wBy near ends left) hp hk' z
   have a1' : ahd (wBy near ends left) (nbs near left e) k ≤ num := a1
   have b1' : ahd (wBy near ends left) (nbs near left e) k' ≤ num' := b1
   have b2' : num' - ahd (wBy near ends left) (nbs near left e) k' < wBy near ends left k' := b2
   omega
theorem rowN_lt {ns ss : List Int} (ok : PlanOk ns ss) {i j : Nat} (h : i < j) (hj : j < cntW ns ss false) : HT.ordL .lt (rowN ns ss i) (rowN ns ss j) = true :=
 by_lt (near_all ok) (fun i j h1 h2 => getD_lt ok.n.up h1 h2) _ _ _ _ _ rfl (whole_lt ok.n2) (Nat.le_refl _) h hj
theorem rowN_len {ns ss : List Int} (ok : PlanOk ns ss) {i : Nat} (h : i < cntW ns ss false) : (rowN ns ss i).length = ns.length := (List.isPerm_iff.mp (Bool.and_eq_true_iff.mp (rowN_row ok h).1).1).length_eq
theorem last_getD {g : Nat → Int} : ∀ (c : List Nat) (i : Nat), ((i :: c).map g).getD c.length 0 = g (c.getLastD i)
 | [], _ => rfl
 | a :: c, i => by
  rw [List.getLastD_cons, ← last_getD (g := g) c a]
  rfl
theorem rows_pth {ns ss : List Int} (ok : PlanOk ns ss) : (List.range (cntW ns ss false)).map (rowN ns ss) = (pthF (nearX ns ss (List.range ns.length)) (fun _ => true) ns.length (2 ^ ns.length - 1) ns.length).map (List.map fun k => ns.getD k 0) := by
 have wc := cnt_whole ns.length ok.n2
 have wl := whole_lt ok.n2
 have pl : (pthF (nearX ns ss (List.range ns.length)) (fun _ => true) ns.length (2 ^ ns.length - 1) ns.length).length = cntW ns ss false := by
  rw [pth_len]
  show _ = waysF _ _ (cnt (2 ^ ns.length - 1)) _ _
  rw [wc]
  rfl
 refine List.ext_getElem? fun i => ?_
 rw [List.getElem?_map, List.getElem?_map]
 rcases Nat.lt_or_ge i (cntW ns ss false) with h | h
 ·rw [List.getElem?_eq_getElem (by rw [List.length_range]; exact h), List.getElem_range]
  have := by_pth (ends := fun _ => true) (near_all ok) _ _ _ i wc wl (Nat.le_refl _) h
  rw [this]
  rfl
 ·rw [List.getElem?_eq_none (by rw [List.length_range]; exact h), List.getElem?_eq_none (by rw [pl]; exact h)]
  rfl
theorem rings_count {ns ss : List Int} (ok : PlanOk ns ss) : ((List.range (cntW ns ss false)).filter fun k => ringB ns ss (rowN ns ss k)).length = ringsW ns ss := by
 have N := near_all ok
 have n1 := ok.n1
 have n10 := ok.n2
 have wl := whole_lt ok.n2
 have wc := cnt_whole ns.length ok.n2
 by_cases n3 : ns.length < 3
 ·have : (List.range (cntW ns ss false)).filter (fun k => ringB ns ss (rowN ns ss k)) = [] := List.filter_eq_nil_iff.mpr fun k hk z => by
   unfold ringB at z
   rw [rowN_len ok (List.mem_range.mp hk), decide_eq_true n3] at z
   simp at z
  rw [this]
  unfold ringsW
  rw [if_pos n3]
  rfl
 have e1 : ((List.range (cntW ns ss false)).filter fun k => ringB ns ss (rowN ns ss k)).length = (((List.range (cntW ns ss false)).map (rowN ns ss)).filter (ringB ns ss)).length := by
  rw [List.filter_map, List.length_map]
  rfl
 rw [e1, rows_pth ok, List.filter_map, List.length_map]
 have rowP : ∀ c ∈ pthF (nearX ns ss (List.range ns.length)) (fun _ => true) ns.length (2 ^ ns.length - 1) ns.length, rowB ns ss (c.map fun k => ns.getD k 0) = true := fun c hc => by
  have : (c.map fun k => ns.getD k 0) ∈ (List.range (cntW ns ss false)).map (rowN ns ss) := by rw [rows_pth ok]; exact List.mem_map.mpr ⟨c, hc, rfl⟩
  obtain ⟨k, hk, e⟩ := List.mem_map.mp this
  rw [← e]
  exact (rowN_row ok (List.mem_range.mp hk)).1
 obtain ⟨m, em⟩ : ∃ m, ns.length = m + 1 := ⟨ns.length - 1, by omega⟩
 have ef : pthF (nearX ns ss (List.range ns.length)) (fun _ => true) ns.length (2 ^ ns.length - 1) ns.length = (List.range ns.length).flatMap fun i => (pthF (nearX ns ss (List.range ns.length)) (fun _ => true) m (2 ^ ns.length - 1 - 2 ^ i) i).map (i :: ·) := by
  have gen : ∀ M, M = m + 1 → pthF (nearX ns ss (List.range ns.length)) (fun _ => true) M (2 ^ ns.length - 1) ns.length = (List.range ns.length).flatMap fun i => (pthF (nearX ns ss (List.range ns.length)) (fun _ => true) m (2 ^ ns.length - 1 - 2 ^ i) i).map (i :: ·) := fun M hM => by
   subst hM
   show ((nearX ns ss (List.range ns.length) ns.length).filter fun k => (2 ^ ns.length - 1).testBit k).flatMap _ = _
   have : nearX ns ss (List.range ns.length) ns.length = List.range ns.length := by unfold nearX; rw [if_neg (Nat.lt_irrefl _)]
   rw [this, List.filter_eq_self.mpr fun k hk => whole_bit (List.mem_range.mp hk)]
  exact gen _ em
 have per : ∀ i < ns.length, (((pthF (nearX ns ss (List.range ns.length)) (fun _ => true) m (2 ^ ns.length - 1 - 2 ^ i) i).map (i :: ·)).filter (ringB ns ss ∘ List.map fun k => ns.getD k 0)).length = ringAt ns ss 0 := fun i hi => by
  have wb := whole_bit hi
  have d := cnt_dec _ wl i (by omega) wb
  rw [List.filter_map, List.length_map]
  have : (pthF (nearX ns ss (List.range ns.length)) (fun _ => true) m (2 ^ ns.length - 1 - 2 ^ i) i).filter ((ringB ns ss ∘ List.map fun k => ns.getD k 0) ∘ (i :: ·)) = (pthF (nearX ns ss (List.range ns.length)) (fun _ => true) m (2 ^ ns.length - 1 - 2 ^ i) i).filter (fun c => (nearX ns ss (List.range ns.length) (c.getLastD i)).contains i) := List.filter_congr fun c hc => by
   have hm : (i :: c) ∈ pthF (nearX ns ss (List.range ns.length)) (fun _ => true) ns.length (2 ^ ns.length - 1) ns.length := by
    rw [ef]
    exact List.mem_flatMap.mpr ⟨i, List.mem_range.mpr hi, List.mem_map.mpr ⟨c, hc, rfl⟩⟩
   have rb := rowP _ hm
   have ln : ((i :: c).map fun k => ns.getD k 0).length = ns.length := (List.isPerm_iff.mp (Bool.and_eq_true_iff.mp rb).1).length_eq
   have lc : c.length + 1 = ns.length := by rw [← ln, List.length_map, List.length_cons]
   have zl : c.getLastD i < ns.length := by
    have mp := (mem_pth (ends := fun _ => true) N ns.length (2 ^ ns.length - 1) ns.length (i :: c) wc wl (by have := Nat.two_pow_pos ns.length; omega) (Nat.le_refl _)).mp hm
    have hz : c.getLastD i ∈ i :: c := by
     cases c with
     | nil => exact List.mem_cons_self
     | cons a r => rw [List.getLastD_eq_getLast?, List.getLast?_eq_some_getLast (List.cons_ne_nil a r)]; exact List.mem_cons_of_mem _ (List.getLast_mem _)
    exact bit_lt (by have := Nat.two_pow_pos ns.length; omega) ((mp.2.2.1 _).mp hz)
   show ringB ns ss ((i :: c).map fun k => ns.getD k 0) = _
   unfold ringB
   rw [rb, ln, decide_eq_false n3, show ns.length - 1 = c.length by omega, last_getD]
   show (true && !false && addUp ss (ns.getD (c.getLastD i) 0) (ns.getD i 0)) = _
   unfold nearX
   rw [if_pos zl]
   unfold nearP
   rw [Bool.eq_iff_iff, List.contains_iff_mem, List.mem_filter]
   simp [hi]
  rw [this, pth_flt (fun e => (nearX ns ss (List.range ns.length) e).contains i), pth_len]
  show waysF _ _ m _ _ = _
  rw [← ring_same ok hi]
  unfold ringAt ways
  rw [show cnt (2 ^ ns.length - 1 - 2 ^ i) = m by omega]
 rw [ef]
 have sum : ∀ l : List Nat, (∀ i ∈ l, i < ns.length) → ((l.flatMap fun i => (pthF (nearX ns ss (List.range ns.length)) (fun _ => true) m (2 ^ ns.length - 1 - 2 ^ i) i).map (i :: ·)).filter (ringB ns ss ∘ List.map fun k => ns.getD k 0)).length = l.length * ringAt ns ss 0 := fun l => by
  induction l with
  | nil => intro _; simp
  | cons i r ih =>
   intro h
   rw [List.flatMap_cons, List.filter_append, List.length_append, per i (h i List.mem_cons_self), ih fun j hj => h j (List.mem_cons_of_mem _ hj), List.length_cons, Nat.add_mul]
   omega
 rw [sum _ fun i hi => List.mem_range.mp hi, List.length_range]
 unfold ringsW
 rw [if_neg n3, cnt_ring ok]
abbrev sCkN : Stmt := top 13
abbrev sCb : Stmt := top 34
abbrev sAre : Stmt := top 15
def spCkN : Sp := fun vs H Q _ => ∃ (t a b : Addr) (ns ss : List Int) (i : Nat), vs = [.ref t, .int (ns.getD i 0)] ∧ IsPl H t a b ns ss ∧ i < ns.length ∧ Q .non H
def betW (ns ss : List Int) (i j : Nat) : Nat := ways (nearX ns ss [i]) (fun e => decide (e = j)) (2 ^ ns.length - 1 - 2 ^ i) i
def spCb : Sp := fun vs H Q _ => ∃ (t a b : Addr) (ns ss : List Int) (i j : Nat), vs = [.ref t, .int (ns.getD i 0), .int (ns.getD j 0)] ∧ IsPl H t a b ns ss ∧ i < ns.length ∧ j < ns.length ∧ ∀ H', Same H H' → Q (.int (betW ns ss i j : Nat)) H'
theorem rise_inj {ns : List Int} (r : Rise ns) {i j : Nat} (hi : i < ns.length) (hj : j < ns.length) (h : ns.getD i 0 = ns.getD j 0) : i = j := by
 rcases Nat.lt_trichotomy i j with z | z | z
 ·have := getD_lt r.up z hj; omega
 ·exact z
 ·have := getD_lt r.up z hi; omega
def spAreI : Sp := fun vs H Q _ => ∃ (t a b : Addr) (ns ss : List Int) (i j : Nat), vs = [.ref t, .int (ns.getD i 0), .int (ns.getD j 0)] ∧ IsPl H t a b ns ss ∧ i < ns.length ∧ j < ns.length ∧ Q (.bl (addUp ss (ns.getD i 0) (ns.getD j 0))) H
section
variable {f g1 g2 g3 g4 C cp cn ad : Addr} {fd gd1 gd2 gd3 gd4 cpd cnd add : FuncData}
theorem scCkN : FnScope ["plan", "number"] ["plan", "number"] (defScope sCkN) := ⟨rfl, rfl, rfl, by decide +kernel, rfl, by decide +kernel, by decide +kernel⟩
theorem ok_ckN (F : Fun K "check_number" "check_number" sCkN f fd) (GW : FnOk P w K mg base CX0 1 g1 gd1 ["thing"] spWhole) (bW : Binds K gd1 ["thing"] []) (kW : Kee K g1) (mW : mg "is_whole" = some (.ref g1)) : FnOk P w K mg base CX0 2 f fd ["plan", "number"] spCkN := by
 refine F.ok scCkN (fun vs H Q E h => ?_) (fun cdv A outer s H vs Q E hr h => ?_)
 ·obtain ⟨t, a, b, ns, ss, i, rfl, _⟩ := h
  rfl
 obtain ⟨t, a, b, ns, ss, i, rfl, pl, hi, q⟩ := h
 refine ⟨_, (@pss_one _ _ _ (ps_if (PW.pt (pw_or (pt_not (pt_val (pe_call GW hr rfl mW kW bW .nil pass0 (pa_cons (pv 1) pa_nil)))) (pw_or1 (pt_cmpR (op_notInI K) (pv 1) (pe_ix ix_tup (pv 0) pe_int (fun _ _ => rfl)) rfl)))) (@pss_one _ _ _ ps_never) pss_nil)), ?_⟩
 refine ⟨_, rfl, _, rfl, _, rfl, ite2 (fun c => nomatch c) (fun _ => ?_)⟩
 refine ⟨_, rfl, _, rfl, t, _, 0, _, rfl, rfl, SqT.of pl.t, rfl, a, _, ns, rfl, rfl, SqL.of pl.a, _, rfl, ite2 (fun c => ?_) (fun _ => q)⟩
 have hm : ns.contains (ns.getD i 0) = true := List.contains_iff_mem.mpr (List.mem_of_getElem? (getD_at hi))
 have c' : (!ns.contains (ns.getD i 0)) = true := c
 rw [hm] at c'
 cases c'
theorem scCb : FnScope ["plan", "one", "other"] ["plan", "one", "other"] (defScope sCb) := ⟨rfl, rfl, rfl, by decide +kernel, rfl, by decide +kernel, by decide +kernel⟩
theorem ok_cb (F : Fun K "count_between" "count_between" sCb f fd) (T : TyT K C) (mW : Meth K C "all_ways" g1) (MT : Mk K C g4) (mT : mg "Tally" = some (.ref C))
  (GI : FnOk P w K mg base CX0 22 g4 gd4 ["self", "plan", "first_places", "last_places"] (spTIn C)) (bI : Binds K gd4 ["self", "plan", "first_places", "last_places"] [])
  (GW : FnOk P w K mg base CX0 23 g1 gd1 ["self"] (spAw C)) (bW : Binds K gd1 ["self"] [])
  (GC : FnOk P w K mg base CX0 23 g2 gd2 ["plan"] spCkP) (bC : Binds K gd2 ["plan"] []) (kC : Kee K g2) (mC : mg "check_plan" = some (.ref g2))
  (GN : FnOk P w K mg base CX0 23 g3 gd3 ["plan", "number"] spCkN) (bN : Binds K gd3 ["plan", "number"] []) (kN : Kee K g3) (mN : mg "check_number" = some (.ref g3)) : FnOk P w K mg base CX0 24 f fd ["plan", "one", "other"] spCb := by
 refine F.ok scCb (fun vs H Q E h => ?_) (fun cdv A outer s H vs Q E hr h => ?_)
 ·obtain ⟨t, a, b, ns, ss, i, j, rfl, _⟩ := h
  rfl
 obtain ⟨t, a, b, ns, ss, i, j, rfl, pl, hi, hj, q⟩ := h
 have n1 := pl.ok.n1
 have n2 := pl.ok.n2
 have noi : ∀ {i : Nat}, i < ns.length → ∀ m < i, ns[m]? ≠ some (ns.getD i 0) := fun {i} hi m hm z => by
  rw [getD_at (by omega)] at z
  have := rise_inj pl.ok.n (by omega) hi (Option.some.inj z)
  omega
 refine ⟨_, (@pss_cons _ _ _ _ _ (ps_expr (pe_call GC hr rfl mC kC bC .nil pass0 (pa_cons (pv 0) pa_nil))) (@pss_cons _ _ _ _ _ (ps_expr (pe_call GN hr rfl mN kN bN .nil pass0 (pa_cons (pv 0) (pa_cons (pv 1) pa_nil)))) (@pss_cons _ _ _ _ _ (ps_expr (pe_call GN hr rfl mN kN bN .nil pass0 (pa_cons (pv 0) (pa_cons (pv 2) pa_nil)))) (@pss_one _ _ _ (ps_ret (pe_meth0 (pe_make MT GI hr rfl mT bI .nil pass0 (pa_cons (pv 0) (pa_cons (pe_lst (pa_cons (pe_bm PySem.F.plainAttrs_list PySem.F.slot_list_index PySem.F.type_list_index mt_index (pe_ix ix_tup (pv 0) pe_int (fun _ _ => rfl)) (pa_cons (pv 1) pa_nil)) pa_nil)) (pa_cons (pe_lst (pa_cons (pe_bm PySem.F.plainAttrs_list PySem.F.slot_list_index PySem.F.type_list_index mt_index (pe_ix ix_tup (pv 0) pe_int (fun _ _ => rfl)) (pa_cons (pv 2) pa_nil)) pa_nil)) pa_nil)))) T.cl mW GW hr bW .nil pass0)))))), ?_⟩
 refine ⟨_, rfl, t, a, b, ns, ss, rfl, pl, ?_⟩
 refine ⟨_, rfl, _, rfl, t, a, b, ns, ss, i, rfl, pl, hi, ?_⟩
 refine ⟨_, rfl, _, rfl, t, a, b, ns, ss, j, rfl, pl, hj, ?_⟩
 refine ⟨_, rfl, _, rfl, t, _, 0, _, rfl, rfl, SqT.of pl.t, rfl, .inl ⟨rfl, _, SqL.of pl.a⟩, _, rfl, a, ns, _, i, rfl, rfl, pl.a, getD_at hi, noi hi, by omega, (by show 1 ≤ sizeLine; decide), fun l1 hl1 => ?_⟩
 have g1 : Same H (upd H l1 (.lst [.int (i : Int)])) := Same.new hl1 _
 have p1 := pl.same g1
 have el1 : (upd H l1 (.lst [.int (i : Int)])) l1 = some (.lst ((iv [i]).map V.int)) := upd_same
 generalize upd H l1 (.lst [.int (i : Int)]) = H1 at g1 p1 el1 ⊢
 refine ⟨_, rfl, t, _, 0, _, rfl, rfl, SqT.of p1.t, rfl, .inl ⟨rfl, _, SqL.of p1.a⟩, _, rfl, a, ns, _, j, rfl, rfl, p1.a, getD_at hj, noi hj, by omega, (by show 1 ≤ sizeLine; decide), fun l2 hl2 => ?_⟩
 have g2 : Same H1 (upd H1 l2 (.lst [.int (j : Int)])) := Same.new hl2 _
 have el2 : (upd H1 l2 (.lst [.int (j : Int)])) l2 = some (.lst ((iv [j]).map V.int)) := upd_same
 generalize upd H1 l2 (.lst [.int (j : Int)]) = H2 at g2 el2 ⊢
 refine fun x dx nx ndx nex => ?_
 have g3 : Same H2 (upd (upd H2 dx (.own x)) x (.ins C dx [])) := fun c o hc => by
  rw [upd_ne (ne_of_none hc nx), upd_ne (ne_of_none hc ndx)]; exact hc
 refine ⟨x, t, a, b, l1, l2, dx, ns, ss, [i], [j], rfl, upd_same, (p1.same g2).same g3, g3 _ _ (g2 _ _ el1), g3 _ _ el2, fun nr lq ow H3 ex3 how s3 na3 lq3 ow3 => ⟨rfl, ?_⟩⟩
 have g12 := g1.trans g2
 have how' : H ow = none := none_of_same (g12.trans g3) how
 have g4 : Same H H3 := fun c o hc => ex3 c o (ne_of_none (g12 _ _ hc) nx) (g3 _ _ (g12 _ _ hc))
 have N : NearOk (nearX ns ss [i]) ns.length := near_ok pl.ok (fun k hk => by rw [List.mem_singleton.mp hk]; exact hi) (List.pairwise_singleton _ _)
 have S3 : Tly C ⟨ns.length, nearX ns ss [i], fun e => decide (e = j), [j], x, dx, nr, lq, ow⟩ H3 := by
  refine ⟨s3, na3, lq3, N, fun e _ => ?_⟩
  rw [Bool.eq_iff_iff, List.contains_iff_mem, List.mem_singleton, decide_eq_true_iff]
 refine ⟨x, dx, _, rfl, S3.at_, rfl, ⟨ns.length, nearX ns ss [i], fun e => decide (e = j), [j], x, dx, nr, lq, ow⟩, [], rfl, S3, ⟨ow3, memoT_nil⟩, n1, fun H4 kvs4 ex4 hk4 => ?_⟩
 have z := q H4 (fun c o hc => ex4 c o (ne_of_none hc how') (g4 _ _ hc))
 have ew : ways (nearX ns ss [i]) (fun e => decide (e = j)) (2 ^ ns.length - 1) ns.length = betW ns ss i j := by
  have wp := Nat.one_lt_two_pow (n := ns.length) (by omega)
  rw [ways_succ N (whole_lt n2) (by omega) (Nat.le_refl _)]
  have e1 : nearX ns ss [i] ns.length = [i] := by unfold nearX; rw [if_neg (Nat.lt_irrefl _)]
  rw [e1, List.filter_cons, if_pos (whole_bit hi), List.filter_nil]
  show ways _ _ _ i + 0 = _
  rfl
 rw [← ew] at z
 exact z
theorem scAre : FnScope ["plan", "one", "other"] ["plan", "one", "other"] (defScope sAre) := ⟨rfl, rfl, rfl, by decide +kernel, rfl, by decide +kernel, by decide +kernel⟩
theorem ok_areI (F : Fun K "are_partners" "are_partners" sAre f fd)
  (GC : FnOk P w K mg base CX0 4 cp cpd ["plan"] spCkP) (bC : Binds K cpd ["plan"] []) (kC : Kee K cp) (mC : mg "check_plan" = some (.ref cp))
  (GN : FnOk P w K mg base CX0 4 cn cnd ["plan", "number"] spCkN) (bN : Binds K cnd ["plan", "number"] []) (kN : Kee K cn) (mN : mg "check_number" = some (.ref cn))
  (GA : FnOk P w K mg base CX0 4 ad add ["plan", "one", "other"] spAdd) (bA : Binds K add ["plan", "one", "other"] []) (kA : Kee K ad) (mA : mg "add_up" = some (.ref ad)) : FnOk P w K mg base CX0 5 f fd ["plan", "one", "other"] spAreI := by
 refine F.ok scAre (fun vs H Q E h => ?_) (fun cdv A outer s H vs Q E hr h => ?_)
 ·obtain ⟨t, a, b, ns, ss, i, j, rfl, _⟩ := h
  rfl
 obtain ⟨t, a, b, ns, ss, i, j, rfl, pl, hi, hj, q⟩ := h
 refine ⟨_, (@pss_cons _ _ _ _ _ (ps_expr (pe_call GC hr rfl mC kC bC .nil pass0 (pa_cons (pv 0) pa_nil))) (@pss_cons _ _ _ _ _ (ps_expr (pe_call GN hr rfl mN kN bN .nil pass0 (pa_cons (pv 0) (pa_cons (pv 1) pa_nil)))) (@pss_cons _ _ _ _ _ (ps_expr (pe_call GN hr rfl mN kN bN .nil pass0 (pa_cons (pv 0) (pa_cons (pv 2) pa_nil)))) (@pss_one _ _ _ (ps_ret (pe_call GA hr rfl mA kA bA .nil pass0 (pa_cons (pv 0) (pa_cons (pv 1) (pa_cons (pv 2) pa_nil))))))))), ?_⟩
 refine ⟨_, rfl, t, a, b, ns, ss, rfl, pl, ?_⟩
 refine ⟨_, rfl, _, rfl, t, a, b, ns, ss, i, rfl, pl, hi, ?_⟩
 refine ⟨_, rfl, _, rfl, t, a, b, ns, ss, j, rfl, pl, hj, ?_⟩
 exact ⟨_, rfl, _, rfl, _, rfl, t, a, b, ns, ss, _, _, rfl, pl, q⟩
end
theorem addUp_swap (ss : List Int) (x y : Int) : addUp ss x y = addUp ss y x := addUp_comm ss x y
theorem wlk_of {near : Nat → List Nat} : ∀ {l : List Nat}, (∀ i a b, l[i]? = some a → l[i + 1]? = some b → b ∈ near a) → wlk near l
 | [], _ => trivial
 | [_], _ => trivial
 | a :: b :: t, h => ⟨h 0 a b rfl rfl, wlk_of (l := b :: t) fun i x y h1 h2 => h (i + 1) x y (by simpa using h1) (by simpa using h2)⟩
def kz (ns zs : List Int) : List Nat := zs.map fun z => ns.idxOf z
theorem idx_in {ns : List Int} {z : Int} (h : z ∈ ns) : ns.idxOf z < ns.length ∧ ns.getD (ns.idxOf z) 0 = z := by
 have il := List.idxOf_lt_length_iff.mpr h
 refine ⟨il, ?_⟩
 rw [List.getD_eq_getElem?_getD, List.getElem?_eq_getElem il]
 exact List.getElem_idxOf il
structure RowF (ns ss zs : List Int) : Prop where
 lt : ∀ k ∈ kz ns zs, k < ns.length
 nd : (kz ns zs).Nodup
 all : ∀ k < ns.length, k ∈ kz ns zs
 back : (kz ns zs).map (fun k => ns.getD k 0) = zs
 st : ∀ (fs : List Nat) (i a b : Nat), (kz ns zs)[i]? = some a → (kz ns zs)[i + 1]? = some b → b ∈ nearX ns ss fs a
theorem rowF {ns ss zs : List Int} (ok : PlanOk ns ss) (h : rowB ns ss zs = true) : RowF ns ss zs := by
 obtain ⟨h1, h2⟩ := Bool.and_eq_true_iff.mp h
 have pm := List.isPerm_iff.mp h1
 have zin : ∀ z ∈ zs, z ∈ ns := fun z hz => pm.mem_iff.mp hz
 have nsnd : ns.Nodup := ok.n.up.imp fun h z => by omega
 have lt : ∀ k ∈ kz ns zs, k < ns.length := fun k hk => by
  obtain ⟨z, hz, rfl⟩ := List.mem_map.mp hk
  exact (idx_in (zin z hz)).1
 refine ⟨lt, idx_nd (pm.nodup_iff.mpr nsnd) zin, fun k hk => ?_, ?_, fun fs i a b ha hb => ?_⟩
 ·have hm : ns.getD k 0 ∈ ns := List.mem_of_getElem? (getD_atP hk)
  exact List.mem_map.mpr ⟨_, pm.mem_iff.mpr hm, idx_at ok.n.up hk⟩
 ·unfold kz
  rw [List.map_map]
  have : zs.map ((fun k => ns.getD k 0) ∘ fun z => ns.idxOf z) = zs.map id := List.map_congr_left fun z hz => (idx_in (zin z hz)).2
  rw [this, List.map_id]
 ·unfold kz at ha hb
  rw [List.getElem?_map] at ha hb
  have hi : i + 1 < zs.length := by
   rcases Nat.lt_or_ge (i + 1) zs.length with z | z
   ·exact z
   ·rw [List.getElem?_eq_none z] at hb; cases hb
  have e1 := List.getElem?_eq_getElem (show i < zs.length by omega)
  have e2 := List.getElem?_eq_getElem hi
  rw [e1] at ha
  rw [e2] at hb
  have ha' : ns.idxOf zs[i] = a := Option.some.inj ha
  have hb' : ns.idxOf zs[i + 1] = b := Option.some.inj hb
  obtain ⟨a1, a2⟩ := idx_in (zin zs[i] (List.getElem_mem _))
  obtain ⟨b1, b2⟩ := idx_in (zin zs[i + 1] (List.getElem_mem _))
  rw [ha'] at a1 a2
  rw [hb'] at b1 b2
  unfold nearX
  rw [if_pos a1]
  refine List.mem_filter.mpr ⟨List.mem_range.mpr b1, ?_⟩
  rw [a2, b2]
  unfold nbB at h2
  have := List.all_eq_true.mp h2 i (List.mem_range.mpr (by omega))
  rw [List.getD_eq_getElem?_getD, List.getD_eq_getElem?_getD, e1, e2] at this
  exact this
theorem two_pow_bit {n k : Nat} (h : (2 ^ n - 1).testBit k = true) : k < n := bit_lt (by have := Nat.two_pow_pos n; omega) h
theorem row_num {ns ss zs : List Int} (ok : PlanOk ns ss) (h : rowB ns ss zs = true) : numW ns ss zs < cntW ns ss false ∧ rowN ns ss (numW ns ss zs) = zs := by
 have F := rowF ok h
 have N := near_all ok
 have n1 := ok.n1
 have wl := whole_lt ok.n2
 have wc := cnt_whole ns.length ok.n2
 have wp := Nat.two_pow_pos ns.length
 have mem : kz ns zs ∈ pthF (nearX ns ss (List.range ns.length)) (fun _ => true) ns.length (2 ^ ns.length - 1) ns.length := by
  refine (mem_pth (ends := fun _ => true) N ns.length (2 ^ ns.length - 1) ns.length (kz ns zs) wc wl (by omega) (Nat.le_refl _)).mpr ⟨wlk_of fun i a b ha hb => ?_, F.nd, fun k => ⟨fun hk => whole_bit (F.lt k hk), fun hk => F.all k (two_pow_bit hk)⟩, ?_⟩
  ·cases i with
   | zero =>
    have ea : ns.length = a := by simpa using ha
    rw [← ea]
    have hb' : (kz ns zs)[0]? = some b := by simpa using hb
    unfold nearX
    rw [if_neg (Nat.lt_irrefl _)]
    exact List.mem_range.mpr (F.lt b (List.mem_of_getElem? hb'))
   | succ i => exact F.st _ i a b (by simpa using ha) (by simpa using hb)
  ·exact ⟨_, List.getLast?_eq_some_getLast (List.cons_ne_nil _ _), rfl⟩
 have : zs ∈ (List.range (cntW ns ss false)).map (rowN ns ss) := by
  rw [rows_pth ok]
  exact List.mem_map.mpr ⟨_, mem, F.back⟩
 obtain ⟨num, hn, e⟩ := List.mem_map.mp this
 have hn := List.mem_range.mp hn
 have e2 := (rowN_row ok hn).2
 rw [e] at e2
 rw [e2]
 exact ⟨hn, e⟩
theorem nb_rev {ss zs : List Int} (h : nbB ss zs = true) : nbB ss zs.reverse = true := by
 unfold nbB at h ⊢
 rw [List.all_eq_true] at h ⊢
 intro i hi
 have hi' := List.mem_range.mp hi
 rw [List.length_reverse] at hi'
 have at_ : ∀ j < zs.length, zs.reverse.getD j 0 = zs.getD (zs.length - 1 - j) 0 := fun j hj => by
  rw [List.getD_eq_getElem?_getD, List.getD_eq_getElem?_getD, List.getElem?_reverse hj]
 rw [at_ i (by omega), at_ (i + 1) (by omega), addUp_swap]
 have := h (zs.length - 1 - (i + 1)) (List.mem_range.mpr (by omega))
 rw [show zs.length - 1 - (i + 1) + 1 = zs.length - 1 - i by omega] at this
 exact this
theorem row_rev {ns ss zs : List Int} (h : rowB ns ss zs = true) : rowB ns ss zs.reverse = true := by
 obtain ⟨h1, h2⟩ := Bool.and_eq_true_iff.mp h
 unfold rowB
 rw [Bool.and_eq_true]
 exact ⟨List.isPerm_iff.mpr ((List.reverse_perm zs).trans (List.isPerm_iff.mp h1)), nb_rev h2⟩
def prm : Nat → List Int → List (List Int)
 | 0, _ => [[]]
 | m + 1, l => l.flatMap fun x => (prm m (l.erase x)).map (x :: ·)
def fac : Nat → Nat
 | 0 => 1
 | m + 1 => (m + 1) * fac m
theorem fac10 : ∀ m ≤ 10, fac m ≤ 3628800 := by decide
theorem prm_len : ∀ (m : Nat) (l : List Int), l.length = m → (prm m l).length ≤ fac m
 | 0, _, _ => Nat.le_refl _
 | m + 1, l, h => by
  have gen : ∀ q : List Int, (∀ x ∈ q, x ∈ l) → (q.flatMap fun x => (prm m (l.erase x)).map (x :: ·)).length ≤ q.length * fac m := fun q => by
   induction q with
   | nil => intro _; exact Nat.zero_le _
   | cons x q ih =>
    intro hq
    have h1 := ih fun y hy => hq y (List.mem_cons_of_mem _ hy)
    have h2 := prm_len m (l.erase x) (by rw [List.length_erase_of_mem (hq x List.mem_cons_self)]; omega)
    rw [List.flatMap_cons, List.length_append, List.length_map, List.length_cons, Nat.add_mul]
    omega
  have := gen l fun _ h => h
  rw [h] at this
  exact this
theorem mem_prm : ∀ (m : Nat) (l r : List Int), l.length = m → r.Perm l → r ∈ prm m l
 | 0, l, r, h, p => by
  have : l = [] := List.length_eq_zero_iff.mp h
  rw [this] at p
  rw [p.eq_nil]
  exact List.mem_singleton.mpr rfl
 | m + 1, l, [], h, p => by
  have := p.length_eq
  rw [h] at this
  cases this
 | m + 1, l, x :: r, h, p => by
  have hx : x ∈ l := p.mem_iff.mp List.mem_cons_self
  have pe : r.Perm (l.erase x) := List.Perm.cons_inv (p.trans (List.perm_cons_erase hx))
  exact List.mem_flatMap.mpr ⟨x, hx, List.mem_map.mpr ⟨r, mem_prm m (l.erase x) r (by rw [List.length_erase_of_mem hx]; omega) pe, rfl⟩⟩
theorem sub_lenA {α : Type} [DecidableEq α] : ∀ {xs ys : List α}, xs.Nodup → (∀ x ∈ xs, x ∈ ys) → xs.length ≤ ys.length
 | [], _, _, _ => Nat.zero_le _
 | x :: xs, ys, nd, h => by
  obtain ⟨h1, nd'⟩ := List.nodup_cons.mp nd
  have hx := h x List.mem_cons_self
  have ih := sub_lenA (ys := ys.erase x) nd' fun y hy => (List.mem_erase_of_ne (fun e : y = x => h1 (e ▸ hy))).mpr (h y (List.mem_cons_of_mem _ hy))
  rw [List.length_erase_of_mem hx] at ih
  have : 0 < ys.length := List.length_pos_of_mem hx
  rw [List.length_cons]
  omega
theorem perms_le {l : List Int} {R : List (List Int)} (h10 : l.length ≤ 10) (nd : R.Nodup) (h : ∀ r ∈ R, r.Perm l) : R.length ≤ 3628800 :=
 Nat.le_trans (sub_lenA nd fun r hr => mem_prm _ l r rfl (h r hr)) (Nat.le_trans (prm_len _ l rfl) (fac10 _ h10))
theorem cnt_cap {ns ss : List Int} (ok : PlanOk ns ss) : cntW ns ss false ≤ 3628800 := by
 have h := perms_le (l := ns) (R := (List.range (cntW ns ss false)).map (rowN ns ss)) ok.n2 (nodup_mapO (fun a ha b hb e => by
  have h1 := (rowN_row ok (List.mem_range.mp ha)).2
  have h2 := (rowN_row ok (List.mem_range.mp hb)).2
  rw [e, h2] at h1
  exact h1.symm) List.nodup_range) fun r hr => by
  obtain ⟨k, hk, rfl⟩ := List.mem_map.mp hr
  exact List.isPerm_iff.mp (Bool.and_eq_true_iff.mp (rowN_row ok (List.mem_range.mp hk)).1).1
 rw [List.length_map, List.length_range] at h
 exact h
def allR (ns ss : List Int) : List (List Int) := (List.range (cntW ns ss false)).map (rowN ns ss)
theorem all_len (ns ss : List Int) : (allR ns ss).length = cntW ns ss false := by unfold allR; rw [List.length_map, List.length_range]
theorem mem_all {ns ss zs : List Int} (ok : PlanOk ns ss) : zs ∈ allR ns ss ↔ rowB ns ss zs = true := by
 unfold allR
 constructor
 ·intro h
  obtain ⟨k, hk, e⟩ := List.mem_map.mp h
  rw [← e]
  exact (rowN_row ok (List.mem_range.mp hk)).1
 ·intro h
  obtain ⟨h1, h2⟩ := row_num ok h
  exact List.mem_map.mpr ⟨_, List.mem_range.mpr h1, h2⟩
theorem ordL_irr : ∀ a : List Int, HT.ordL .lt a a = false
 | [] => rfl
 | x :: a => by
  show (if x = x then HT.ordL .lt a a else decide (x < x)) = false
  rw [if_pos rfl]
  exact ordL_irr a
theorem nodup_all {ns ss : List Int} (ok : PlanOk ns ss) : (allR ns ss).Nodup := by
 unfold allR
 refine List.pairwise_map.mpr (List.pairwise_lt_range.imp_of_mem fun {i j} _ hj hij z => ?_)
 have := rowN_lt ok hij (List.mem_range.mp hj)
 rw [z, ordL_irr] at this
 cases this
def fstB (ns : List Int) (i j : Nat) (z : List Int) : Bool := decide (z.getD 0 0 = ns.getD i 0) && decide (z.getD (z.length - 1) 0 = ns.getD j 0)
theorem bet_rows {ns ss : List Int} (ok : PlanOk ns ss) {i j : Nat} (hi : i < ns.length) (hj : j < ns.length) : betW ns ss i j = ((allR ns ss).filter (fstB ns i j)).length := by
 have N := near_all ok
 have n1 := ok.n1
 have n10 := ok.n2
 have wl := whole_lt ok.n2
 have wc := cnt_whole ns.length ok.n2
 unfold allR
 rw [rows_pth ok, List.filter_map, List.length_map]
 obtain ⟨m, em⟩ : ∃ m, ns.length = m + 1 := ⟨ns.length - 1, by omega⟩
 have ef : pthF (nearX ns ss (List.range ns.length)) (fun _ => true) ns.length (2 ^ ns.length - 1) ns.length = (List.range ns.length).flatMap fun i => (pthF (nearX ns ss (List.range ns.length)) (fun _ => true) m (2 ^ ns.length - 1 - 2 ^ i) i).map (i :: ·) := by
  have gen : ∀ M, M = m + 1 → pthF (nearX ns ss (List.range ns.length)) (fun _ => true) M (2 ^ ns.length - 1) ns.length = (List.range ns.length).flatMap fun i => (pthF (nearX ns ss (List.range ns.length)) (fun _ => true) m (2 ^ ns.length - 1 - 2 ^ i) i).map (i :: ·) := fun M hM => by
   subst hM
   show ((nearX ns ss (List.range ns.length) ns.length).filter fun k => (2 ^ ns.length - 1).testBit k).flatMap _ = _
   have : nearX ns ss (List.range ns.length) ns.length = List.range ns.length := by unfold nearX; rw [if_neg (Nat.lt_irrefl _)]
   rw [this, List.filter_eq_self.mpr fun k hk => whole_bit (List.mem_range.mp hk)]
  exact gen _ em
 have bits : ∀ c ∈ pthF (nearX ns ss (List.range ns.length)) (fun _ => true) ns.length (2 ^ ns.length - 1) ns.length, ∀ z ∈ c, z < ns.length := fun c hc z hz => by
  have mp := (mem_pth (ends := fun _ => true) N ns.length (2 ^ ns.length - 1) ns.length c wc wl (by have := Nat.two_pow_pos ns.length; omega) (Nat.le_refl _)).mp hc
  exact bit_lt (by have := Nat.two_pow_pos ns.length; omega) ((mp.2.2.1 _).mp hz)
 have key : ∀ a c, (a :: c) ∈ pthF (nearX ns ss (List.range ns.length)) (fun _ => true) ns.length (2 ^ ns.length - 1) ns.length → fstB ns i j ((a :: c).map fun k => ns.getD k 0) = (decide (a = i) && decide (c.getLastD a = j)) := fun a c hc => by
  have ha := bits _ hc a List.mem_cons_self
  have hz : c.getLastD a ∈ a :: c := by
   cases c with
   | nil => exact List.mem_cons_self
   | cons b r => rw [List.getLastD_eq_getLast?, List.getLast?_eq_some_getLast (List.cons_ne_nil b r)]; exact List.mem_cons_of_mem _ (List.getLast_mem _)
  have hz := bits _ hc _ hz
  unfold fstB
  rw [List.length_map, List.length_cons, Nat.add_sub_cancel, last_getD]
  show (decide (ns.getD a 0 = ns.getD i 0) && decide (ns.getD (c.getLastD a) 0 = ns.getD j 0)) = _
  congr 1
  ·exact decide_eq_decide.mpr ⟨fun e => rise_inj ok.n ha hi e, fun e => by rw [e]⟩
  ·exact decide_eq_decide.mpr ⟨fun e => rise_inj ok.n hz hj e, fun e => by rw [e]⟩
 rw [ef] at key ⊢
 have per : ∀ a < ns.length, (((pthF (nearX ns ss (List.range ns.length)) (fun _ => true) m (2 ^ ns.length - 1 - 2 ^ a) a).map (a :: ·)).filter (fstB ns i j ∘ List.map fun k => ns.getD k 0)).length = if a = i then betW ns ss i j else 0 := fun a ha => by
  rw [List.filter_map, List.length_map]
  have : (pthF (nearX ns ss (List.range ns.length)) (fun _ => true) m (2 ^ ns.length - 1 - 2 ^ a) a).filter ((fstB ns i j ∘ List.map fun k => ns.getD k 0) ∘ (a :: ·)) = (pthF (nearX ns ss (List.range ns.length)) (fun _ => true) m (2 ^ ns.length - 1 - 2 ^ a) a).filter (fun c => decide (a = i) && decide (c.getLastD a = j)) := List.filter_congr fun c hc => key a c (List.mem_flatMap.mpr ⟨a, List.mem_range.mpr ha, List.mem_map.mpr ⟨c, hc, rfl⟩⟩)
  rw [this]
  by_cases e : a = i
  ·rw [if_pos e, ← e, decide_eq_true rfl]
   have f2 : (pthF (nearX ns ss (List.range ns.length)) (fun _ => true) m (2 ^ ns.length - 1 - 2 ^ a) a).filter (fun c => true && decide (c.getLastD a = j)) = pthF (nearX ns ss (List.range ns.length)) (fun e => decide (e = j)) m (2 ^ ns.length - 1 - 2 ^ a) a := by
    have := pth_flt (near := nearX ns ss (List.range ns.length)) (fun e => decide (e = j)) m (2 ^ ns.length - 1 - 2 ^ a) a
    simpa using this
   rw [f2, pth_len]
   have d := cnt_dec _ wl a (by omega) (whole_bit ha)
   unfold betW ways
   rw [show cnt (2 ^ ns.length - 1 - 2 ^ a) = m by omega]
   refine ways_cong N (fun e he => ?_) (fun _ _ => rfl) _ _ _ ha
   unfold nearX
   rw [if_pos he, if_pos he]
  ·rw [if_neg e, decide_eq_false e]
   have : (pthF (nearX ns ss (List.range ns.length)) (fun _ => true) m (2 ^ ns.length - 1 - 2 ^ a) a).filter (fun c => false && decide (c.getLastD a = j)) = [] := List.filter_eq_nil_iff.mpr fun c _ z => by cases z
   rw [this]
   rfl
 have sum : ∀ l : List Nat, (∀ a ∈ l, a < ns.length) → l.Nodup → ((l.flatMap fun i => (pthF (nearX ns ss (List.range ns.length)) (fun _ => true) m (2 ^ ns.length - 1 - 2 ^ i) i).map (i :: ·)).filter (fstB ns i j ∘ List.map fun k => ns.getD k 0)).length = if i ∈ l then betW ns ss i j else 0 := fun l => by
  induction l with
  | nil => intro _ _; rfl
  | cons a r ih =>
   intro h nd
   obtain ⟨nd1, nd2⟩ := List.nodup_cons.mp nd
   rw [List.flatMap_cons, List.filter_append, List.length_append, per a (h a List.mem_cons_self), ih (fun b hb => h b (List.mem_cons_of_mem _ hb)) nd2]
   by_cases e : a = i
   ·rw [if_pos e, if_neg (fun z => nd1 (e ▸ z)), if_pos (e ▸ List.mem_cons_self)]
    rfl
   ·rw [if_neg e, Nat.zero_add]
    by_cases z : i ∈ r
    ·rw [if_pos z, if_pos (List.mem_cons_of_mem _ z)]
    ·rw [if_neg z, if_neg (fun y => (List.mem_cons.mp y).elim (fun y => e y.symm) z)]
 rw [sum _ (fun a ha => List.mem_range.mp ha) List.nodup_range, if_pos (List.mem_range.mpr hi)]
theorem rev_all {ns ss : List Int} (ok : PlanOk ns ss) : ((allR ns ss).map List.reverse).Perm (allR ns ss) := by
 refine (List.perm_ext_iff_of_nodup (nodup_mapO (fun a _ b _ e => List.reverse_inj.mp e) (nodup_all ok)) (nodup_all ok)).mpr fun z => ?_
 constructor
 ·intro h
  obtain ⟨y, hy, rfl⟩ := List.mem_map.mp h
  exact (mem_all ok).mpr (row_rev ((mem_all ok).mp hy))
 ·intro h
  exact List.mem_map.mpr ⟨z.reverse, (mem_all ok).mpr (row_rev ((mem_all ok).mp h)), List.reverse_reverse z⟩
theorem bet_sym {ns ss : List Int} (ok : PlanOk ns ss) {i j : Nat} (hi : i < ns.length) (hj : j < ns.length) : betW ns ss i j = betW ns ss j i := by
 rw [bet_rows ok hi hj, bet_rows ok hj hi]
 have := ((rev_all ok).filter (fstB ns i j)).length_eq
 rw [List.filter_map, List.length_map] at this
 rw [← this]
 congr 1
 refine List.filter_congr fun z hz => ?_
 have zl := (List.isPerm_iff.mp (Bool.and_eq_true_iff.mp ((mem_all ok).mp hz)).1).length_eq
 have n1 := ok.n1
 show fstB ns i j z.reverse = fstB ns j i z
 unfold fstB
 have e1 : z.reverse.getD 0 0 = z.getD (z.length - 1) 0 := by
  rw [List.getD_eq_getElem?_getD, List.getD_eq_getElem?_getD, List.getElem?_reverse (by omega)]
  rfl
 have e2 : z.reverse.getD (z.reverse.length - 1) 0 = z.getD 0 0 := by
  rw [List.length_reverse, List.getD_eq_getElem?_getD, List.getD_eq_getElem?_getD, List.getElem?_reverse (by omega), show z.length - 1 - (z.length - 1) = 0 by omega]
 rw [e1, e2, Bool.and_comm]
theorem one_hit : ∀ (n k : Nat), k < n → ((List.range n).map fun i => if k = i then 1 else 0).sum = 1
 | 0, _, h => by omega
 | n + 1, k, h => by
  rw [List.range_succ, List.map_append, List.sum_append]
  show _ + (if k = n then 1 else 0) + 0 = 1
  by_cases e : k = n
  ·rw [if_pos e]
   have : ∀ l : List Nat, (∀ i ∈ l, i < n) → (l.map fun i => if k = i then 1 else 0).sum = 0 := fun l => by
    induction l with
    | nil => intro _; rfl
    | cons a r ih =>
     intro h
     have := h a List.mem_cons_self
     rw [List.map_cons, List.sum_cons, if_neg (by omega), ih fun b hb => h b (List.mem_cons_of_mem _ hb)]
   rw [this _ fun i hi => List.mem_range.mp hi]
  ·rw [if_neg e, one_hit n k (by omega)]
theorem sum_addF {f g : Nat → Nat} : ∀ l : List Nat, (l.map fun i => f i + g i).sum = (l.map f).sum + (l.map g).sum
 | [] => rfl
 | a :: r => by
  rw [List.map_cons, List.map_cons, List.map_cons, List.sum_cons, List.sum_cons, List.sum_cons, sum_addF r]
  omega
theorem count_by {α : Type} (n : Nat) (a : α → Nat) (p : α → Bool) : ∀ L : List α, (∀ x ∈ L, a x < n) → ((List.range n).map fun i => (L.filter fun x => decide (a x = i) && p x).length).sum = (L.filter p).length
 | [], _ => by
  have : ∀ l : List Nat, (l.map fun _ => 0).sum = 0 := fun l => by
   induction l with
   | nil => rfl
   | cons b r ih => rw [List.map_cons, List.sum_cons, ih]
  exact this _
 | x :: L, h => by
  have ih := count_by n a p L fun y hy => h y (List.mem_cons_of_mem _ hy)
  have e : ∀ i, ((x :: L).filter fun x => decide (a x = i) && p x).length = (if p x = true then (if a x = i then 1 else 0) else 0) + (L.filter fun x => decide (a x = i) && p x).length := fun i => by
   rw [List.filter_cons]
   by_cases z : a x = i
   ·rw [decide_eq_true z, Bool.true_and, if_pos z]
    by_cases y : p x = true
    ·rw [if_pos y, if_pos y, List.length_cons]; omega
    ·rw [if_neg y, if_neg y]; omega
   ·rw [decide_eq_false z, Bool.false_and, if_neg z, if_neg (by decide)]
    split <;> omega
  simp only [e]
  rw [sum_addF, ih, List.filter_cons]
  by_cases y : p x = true
  ·simp only [if_pos y]
   rw [one_hit n (a x) (h x List.mem_cons_self), List.length_cons]
   omega
  ·simp only [if_neg y]
   have : ∀ l : List Nat, (l.map fun _ => 0).sum = 0 := fun l => by
    induction l with
    | nil => rfl
    | cons b r ih => rw [List.map_cons, List.sum_cons, ih]
   rw [this]
   omega
theorem fst_is {ns ss z : List Int} (ok : PlanOk ns ss) (h : rowB ns ss z = true) : (ns.idxOf (z.getD 0 0) < ns.length ∧ ns.getD (ns.idxOf (z.getD 0 0)) 0 = z.getD 0 0) ∧ ns.idxOf (z.getD (z.length - 1) 0) < ns.length ∧ ns.getD (ns.idxOf (z.getD (z.length - 1) 0)) 0 = z.getD (z.length - 1) 0 := by
 have pm := List.isPerm_iff.mp (Bool.and_eq_true_iff.mp h).1
 have zl := pm.length_eq
 have n1 := ok.n1
 have mm : ∀ k < z.length, z.getD k 0 ∈ ns := fun k hk => pm.mem_iff.mp (List.mem_of_getElem? (getD_atP hk))
 exact ⟨idx_in (mm 0 (by omega)), idx_in (mm (z.length - 1) (by omega))⟩
theorem bet_sumC {ns ss : List Int} (ok : PlanOk ns ss) (c : Nat → Nat → Bool) : ((List.range ns.length).map fun i => ((List.range ns.length).map fun j => if c i j = true then betW ns ss i j else 0).sum).sum = ((allR ns ss).filter fun z => c (ns.idxOf (z.getD 0 0)) (ns.idxOf (z.getD (z.length - 1) 0))).length := by
 have fb : ∀ i < ns.length, ∀ j < ns.length, (if c i j = true then betW ns ss i j else 0) = ((allR ns ss).filter fun z => decide (ns.idxOf (z.getD (z.length - 1) 0) = j) && (decide (ns.idxOf (z.getD 0 0) = i) && c (ns.idxOf (z.getD 0 0)) (ns.idxOf (z.getD (z.length - 1) 0)))).length := fun i hi j hj => by
  have e : ∀ z ∈ allR ns ss, (decide (ns.idxOf (z.getD (z.length - 1) 0) = j) && (decide (ns.idxOf (z.getD 0 0) = i) && c (ns.idxOf (z.getD 0 0)) (ns.idxOf (z.getD (z.length - 1) 0)))) = (c i j && fstB ns i j z) := fun z hz => by
   obtain ⟨⟨f1, f2⟩, l1, l2⟩ := fst_is ok ((mem_all ok).mp hz)
   have e1 : decide (z.getD 0 0 = ns.getD i 0) = decide (ns.idxOf (z.getD 0 0) = i) := decide_eq_decide.mpr ⟨fun w => rise_inj ok.n f1 hi (f2.trans w), fun w => by rw [← w, f2]⟩
   have e2 : decide (z.getD (z.length - 1) 0 = ns.getD j 0) = decide (ns.idxOf (z.getD (z.length - 1) 0) = j) := decide_eq_decide.mpr ⟨fun w => rise_inj ok.n l1 hj (l2.trans w), fun w => by rw [← w, l2]⟩
   unfold fstB
   rw [e1, e2]
   by_cases h1 : ns.idxOf (z.getD 0 0) = i
   ·by_cases h2 : ns.idxOf (z.getD (z.length - 1) 0) = j
    ·rw [h1, h2, decide_eq_true rfl, decide_eq_true rfl]
     simp
    ·rw [decide_eq_false h2]
     simp
   ·rw [decide_eq_false h1]
    simp
  rw [List.filter_congr e]
  by_cases h : c i j = true
  ·rw [if_pos h, h, bet_rows ok hi hj]
   simp
  ·rw [if_neg h, Bool.eq_false_iff.mpr h]
   have : (allR ns ss).filter (fun z => false && fstB ns i j z) = [] := List.filter_eq_nil_iff.mpr fun z _ w => by cases w
   rw [this]
   rfl
 have inner : ∀ i < ns.length, ((List.range ns.length).map fun j => if c i j = true then betW ns ss i j else 0).sum = ((allR ns ss).filter fun z => decide (ns.idxOf (z.getD 0 0) = i) && c (ns.idxOf (z.getD 0 0)) (ns.idxOf (z.getD (z.length - 1) 0))).length := fun i hi => by
  rw [List.map_congr_left fun j hj => fb i hi j (List.mem_range.mp hj)]
  exact count_by ns.length (fun z : List Int => ns.idxOf (z.getD (z.length - 1) 0)) (fun z => decide (ns.idxOf (z.getD 0 0) = i) && c (ns.idxOf (z.getD 0 0)) (ns.idxOf (z.getD (z.length - 1) 0))) _ fun z hz => (fst_is ok ((mem_all ok).mp hz)).2.1
 rw [List.map_congr_left fun i hi => inner i (List.mem_range.mp hi)]
 exact count_by ns.length (fun z : List Int => ns.idxOf (z.getD 0 0)) (fun z => c (ns.idxOf (z.getD 0 0)) (ns.idxOf (z.getD (z.length - 1) 0))) _ fun z hz => (fst_is ok ((mem_all ok).mp hz)).1.1
theorem bet_total {ns ss : List Int} (ok : PlanOk ns ss) : ((List.range ns.length).map fun i => ((List.range ns.length).map fun j => betW ns ss i j).sum).sum = cntW ns ss false := by
 have := bet_sumC ok fun _ _ => true
 simp only [if_true] at this
 rw [this, List.filter_eq_self.mpr fun _ _ => rfl, all_len]
theorem bet_rings {ns ss : List Int} (ok : PlanOk ns ss) : ((List.range ns.length).map fun i => ((List.range ns.length).map fun j => if (decide (2 < ns.length) && addUp ss (ns.getD i 0) (ns.getD j 0)) = true then betW ns ss i j else 0).sum).sum = ringsW ns ss := by
 rw [bet_sumC ok fun i j => decide (2 < ns.length) && addUp ss (ns.getD i 0) (ns.getD j 0), ← rings_count ok]
 have e1 : ((List.range (cntW ns ss false)).filter fun k => ringB ns ss (rowN ns ss k)).length = ((allR ns ss).filter (ringB ns ss)).length := by
  unfold allR
  rw [List.filter_map, List.length_map]
  rfl
 rw [e1]
 congr 1
 refine List.filter_congr fun z hz => ?_
 have rb := (mem_all ok).mp hz
 obtain ⟨⟨f1, f2⟩, l1, l2⟩ := fst_is ok rb
 have zl := (List.isPerm_iff.mp (Bool.and_eq_true_iff.mp rb).1).length_eq
 show (decide (2 < ns.length) && addUp ss (ns.getD (ns.idxOf (z.getD 0 0)) 0) (ns.getD (ns.idxOf (z.getD (z.length - 1) 0)) 0)) = ringB ns ss z
 rw [f2, l2]
 unfold ringB
 rw [rb, addUp_comm]
 have : (!decide (z.length < 3)) = decide (2 < ns.length) := by
  by_cases h : z.length < 3
  ·rw [decide_eq_true h, decide_eq_false (by omega)]; rfl
  ·rw [decide_eq_false h, decide_eq_true (by omega)]; rfl
 rw [Bool.true_and, this]
theorem sum_pos {f : Nat → Nat} : ∀ (l : List Nat), decide (0 < (l.map f).sum) = l.any fun k => decide (0 < f k)
 | [] => rfl
 | k :: r => by
  rw [List.map_cons, List.sum_cons, List.any_cons, ← sum_pos r, Bool.eq_iff_iff, Bool.or_eq_true, decide_eq_true_eq, decide_eq_true_eq, decide_eq_true_eq]
  omega
theorem can_ways {near : Nat → List Nat} {ends : Nat → Bool} {n : Nat} (N : NearOk near n) : ∀ (c l e : Nat), cnt l = c → l < 1024 → e ≤ n → can near ends l e = decide (0 < ways near ends l e)
 | 0, l, e, hc, hl, he => by
  rw [cnt_zero l hl hc, show ways near ends 0 e = (if ends e = true then 1 else 0) from rfl, show can near ends 0 e = ends e from rfl, Bool.eq_iff_iff, decide_eq_true_eq]
  cases ends e <;> simp
 | c + 1, l, e, hc, hl, he => by
  have h0 : l ≠ 0 := fun z => by rw [z] at hc; cases hc
  rw [can_succ N hl h0 he, ways_succ N hl h0 he, sum_pos, List.any_filter]
  refine any_congr' fun k hk => ?_
  cases hb : l.testBit k with
  | false => rfl
  | true =>
   have hkn := N.lt e he k hk
   have cd := cnt_dec l hl k (Nat.lt_of_lt_of_le hkn N.n10) hb
   rw [can_ways N c (l - 2 ^ k) k (by omega) (by omega) (Nat.le_of_lt hkn)]
theorem sum_zero {w : Nat → Nat} : ∀ {l : List Nat}, (∀ k ∈ l, w k = 0) → (l.map w).sum = 0
 | [], _ => rfl
 | a :: r, h => by rw [List.map_cons, List.sum_cons, h a List.mem_cons_self, sum_zero fun k hk => h k (List.mem_cons_of_mem _ hk)]
theorem by_zero {near : Nat → List Nat} {ends : Nat → Bool} {n : Nat} (N : NearOk near n) : ∀ (m left e : Nat), cnt left = m → left < 1024 → e ≤ n → can near ends left e = true → byF near ends m left e 0 = pathF near ends m left e
 | 0, _, _, _, _, _, _ => rfl
 | m + 1, left, e, hc, hl, he, hcan => by
  have h0 : left ≠ 0 := fun z => by rw [z] at hc; cases hc
  rw [can_succ N hl h0 he] at hcan
  obtain ⟨k, hk⟩ : ∃ k, fst near ends left e = some k := by
   cases h : fst near ends left e with
   | some k => exact ⟨k, rfl⟩
   | none =>
    obtain ⟨k, h1, h2⟩ := List.any_eq_true.mp hcan
    exact absurd h2 (List.find?_eq_none.mp h k h1)
  obtain ⟨pk, as, bs, ek, no⟩ := List.find?_eq_some_iff_append.mp hk
  obtain ⟨p1, p2⟩ := Bool.and_eq_true_iff.mp pk
  have km : k ∈ near e := by rw [ek]; exact List.mem_append_right _ List.mem_cons_self
  have up := N.up e he
  have lt := N.lt e he
  have dec : ∀ j ∈ near e, left.testBit j = true → can near ends (left - 2 ^ j) j = decide (0 < ways near ends (left - 2 ^ j) j) ∧ cnt (left - 2 ^ j) = m ∧ left - 2 ^ j < 1024 ∧ j ≤ n := fun j hj hb => by
   have jn := lt j hj
   have := cnt_dec left hl j (Nat.lt_of_lt_of_le jn N.n10) hb
   exact ⟨can_ways N m _ _ (by omega) (by omega) (by omega), by omega, by omega, by omega⟩
  have w0 : wAh near ends left e k = 0 := by
   unfold wAh ahd
   refine sum_zero fun j hj => ?_
   obtain ⟨hj1, hj2⟩ := List.mem_filter.mp hj
   obtain ⟨hj3, hj4⟩ := List.mem_filter.mp hj1
   have jk := of_decide_eq_true hj2
   have ja : j ∈ as := by
    rw [ek] at hj3 up
    rcases List.mem_append.mp hj3 with z | z
    ·exact z
    ·rcases List.mem_cons.mp z with z | z
     ·omega
     ·have := (List.pairwise_cons.mp (List.pairwise_append.mp up).2.1).1 j z
      omega
   have nj := no j ja
   rw [hj4, Bool.true_and, (dec j hj3 hj4).1] at nj
   unfold wBy
   have : ¬ 0 < ways near ends (left - 2 ^ j) j := fun z => by rw [decide_eq_true z] at nj; cases nj
   omega
  obtain ⟨d1, d2, d3, d4⟩ := dec k km p1
  have wk : 0 < wBy near ends left k := by
   unfold wBy
   rw [d1] at p2
   exact of_decide_eq_true p2
  have pick : pickF near ends left e 0 = some k := pick_is N he (List.mem_filter.mpr ⟨km, p1⟩) (by omega) (by omega)
  show (match pickF near ends left e 0 with | none => [] | some k => k :: byF near ends m (left - 2 ^ k) k (0 - wAh near ends left e k)) = match fst near ends left e with | none => [] | some k => k :: pathF near ends m (left - 2 ^ k) k
  rw [pick, hk]
  show k :: byF near ends m (left - 2 ^ k) k (0 - wAh near ends left e k) = k :: pathF near ends m (left - 2 ^ k) k
  rw [w0, by_zero N m (left - 2 ^ k) k d2 d3 d4 p2]
theorem row_zero {ns ss : List Int} (ok : PlanOk ns ss) (h : hasW ns ss false = true) : rowN ns ss 0 = rowW ns ss false := by
 have N := near_all ok
 have hc : can (nearX ns ss (List.range ns.length)) (endsP ns ss false) (2 ^ ns.length - 1) ns.length = true := (Bool.and_eq_true_iff.mp h).1
 unfold rowN rowW byN path
 have := by_zero N _ _ _ rfl (whole_lt ok.n2) (Nat.le_refl _) hc
 rw [this]
 rfl
theorem has_cnt {ns ss : List Int} (ok : PlanOk ns ss) : hasW ns ss false = decide (0 < cntW ns ss false) := by
 have e : hasW ns ss false = can (nearX ns ss (List.range ns.length)) (endsP ns ss false) (2 ^ ns.length - 1) ns.length := by
  unfold hasW canW
  rw [Bool.false_and, Bool.not_false, Bool.and_true]
  rfl
 rw [e]
 exact can_ways (near_all ok) _ _ _ rfl (whole_lt ok.n2) (Nat.le_refl _)
theorem ord_head {x y : Int} {a b : List Int} (h : HT.ordL .lt (x :: a) (y :: b) = true) : x ≤ y := by
 have h' : (if x = y then HT.ordL .lt a b else decide (x < y)) = true := h
 by_cases e : x = y
 ·omega
 ·rw [if_neg e] at h'
  have := of_decide_eq_true h'
  omega
theorem head_mono {ns ss : List Int} (ok : PlanOk ns ss) {i j : Nat} (h : i ≤ j) (hj : j < cntW ns ss false) : (rowN ns ss i).getD 0 0 ≤ (rowN ns ss j).getD 0 0 := by
 rcases Nat.lt_or_ge i j with z | z
 ·have o := rowN_lt ok z hj
  have l1 := rowN_len ok (show i < cntW ns ss false by omega)
  have l2 := rowN_len ok hj
  have n1 := ok.n1
  generalize rowN ns ss i = a at o l1 ⊢
  generalize rowN ns ss j = b at o l2 ⊢
  cases a with
  | nil => have : 0 = ns.length := l1; omega
  | cons x a =>
   cases b with
   | nil => have : 0 = ns.length := l2; omega
   | cons y b => exact ord_head o
 ·rw [show i = j by omega]
  exact Int.le_refl _
theorem sub_lenN {l m : List Nat} (nd : l.Nodup) (h : ∀ x ∈ l, x ∈ m) : l.length ≤ m.length := by
 induction l generalizing m with
 | nil => exact Nat.zero_le _
 | cons x xs ih =>
  obtain ⟨h1, nd'⟩ := List.nodup_cons.mp nd
  have hx := h x List.mem_cons_self
  have := ih (m := m.erase x) nd' fun y hy => (List.mem_erase_of_ne (fun e : y = x => h1 (e ▸ hy))).mpr (h y (List.mem_cons_of_mem _ hy))
  rw [List.length_erase_of_mem hx] at this
  have : 0 < m.length := List.length_pos_of_mem hx
  rw [List.length_cons]
  omega
theorem stands {ns ss : List Int} (ok : PlanOk ns ss) {k : Nat} (hk : k < cntW ns ss false) : ((allR ns ss).filter fun z => decide (z.getD 0 0 < (rowN ns ss k).getD 0 0)).length ≤ k ∧ k < ((allR ns ss).filter fun z => decide (z.getD 0 0 ≤ (rowN ns ss k).getD 0 0)).length := by
 unfold allR
 rw [List.filter_map, List.filter_map, List.length_map, List.length_map]
 constructor
 ·have := sub_lenN (l := (List.range (cntW ns ss false)).filter ((fun z => decide (z.getD 0 0 < (rowN ns ss k).getD 0 0)) ∘ rowN ns ss)) (m := List.range k) (List.nodup_range.sublist List.filter_sublist) fun i hi => by
   obtain ⟨h1, h2⟩ := List.mem_filter.mp hi
   have h2' : (rowN ns ss i).getD 0 0 < (rowN ns ss k).getD 0 0 := of_decide_eq_true h2
   rcases Nat.lt_or_ge i k with z | z
   ·exact List.mem_range.mpr z
   ·have := head_mono ok z (List.mem_range.mp h1)
    omega
  rwa [List.length_range] at this
 ·have := sub_lenN (l := List.range (k + 1)) (m := (List.range (cntW ns ss false)).filter ((fun z => decide (z.getD 0 0 ≤ (rowN ns ss k).getD 0 0)) ∘ rowN ns ss)) List.nodup_range fun i hi => by
   have := List.mem_range.mp hi
   exact List.mem_filter.mpr ⟨List.mem_range.mpr (by omega), decide_eq_true (head_mono ok (by omega) hk)⟩
  rw [List.length_range] at this
  omega
theorem seq_postT {t u : TS} {D : Ends} {σ : L2.St} {H : Hp} (R : L2.St → Hp → Prop) (ht : ∀ N : L2.St → Hp → Prop, (∀ σ' H', R σ' H' → N σ' H') → t { D with nx := N } σ H) (hu : ∀ σ' H', R σ' H' → u D σ' H') : tSeq t u D σ H := ht _ hu
abbrev sBet : Stmt := top 43
def sB (ns ss : List Int) (i j : Nat) : Nat := ((List.range j).map fun j' => betW ns ss i j').sum
def tB (ns ss : List Int) (i : Nat) : Nat := ((List.range i).map fun i' => sB ns ss i' ns.length).sum
def rB (ns ss : List Int) (i j : Nat) : Nat := ((List.range j).map fun j' => if (decide (2 < ns.length) && addUp ss (ns.getD i 0) (ns.getD j' 0)) = true then betW ns ss i j' else 0).sum
def uB (ns ss : List Int) (i : Nat) : Nat := ((List.range i).map fun i' => rB ns ss i' ns.length).sum
theorem rng_sum (f : Nat → Nat) (n : Nat) : ((List.range (n + 1)).map f).sum = ((List.range n).map f).sum + f n := by
 rw [List.range_succ, List.map_append, List.sum_append]
 show _ + (f n + 0) = _
 omega
def spBet : Sp := fun vs H Q _ => ∃ (t a b : Addr) (ns ss : List Int), vs = [.ref t] ∧ IsPl H t a b ns ss ∧ ∀ H', Same H H' → Q (.bl true) H'
section
variable {f g1 g2 g3 g4 : Addr} {fd gd1 gd2 gd3 gd4 : FuncData}
theorem scBet : FnScope ["plan", "numbers", "total", "rings", "one", "other", "many"] ["plan"] (defScope sBet) := ⟨rfl, rfl, rfl, by decide +kernel, rfl, by decide +kernel, by decide +kernel⟩
set_option maxHeartbeats 0 in
theorem ok_bet (F : Fun K "_law_between_right" "_law_between_right" sBet f fd) (B : Bt4 mg)
  (GB : FnOk P w K mg base CX0 26 g1 gd1 ["plan", "one", "other"] spCb) (bB : Binds K gd1 ["plan", "one", "other"] []) (kB : Kee K g1) (mB : mg "count_between" = some (.ref g1))
  (GP : FnOk P w K mg base CX0 26 g2 gd2 ["plan", "one", "other"] spAreI) (bP : Binds K gd2 ["plan", "one", "other"] []) (kP : Kee K g2) (mP : mg "are_partners" = some (.ref g2))
  (GR : FnOk P w K mg base CX0 26 g3 gd3 ["plan"] (spCount fun ns ss => cntW ns ss false)) (bR : Binds K gd3 ["plan"] []) (kR : Kee K g3) (mR : mg "count_rows" = some (.ref g3))
  (GG : FnOk P w K mg base CX0 26 g4 gd4 ["plan"] (spCount ringsW)) (bG : Binds K gd4 ["plan"] []) (kG : Kee K g4) (mG : mg "count_rings" = some (.ref g4)) : FnOk P w K mg base CX0 27 f fd ["plan"] spBet := by
 refine F.ok scBet (fun vs H Q E h => ?_) (fun cdv A outer s H vs Q E hr h => ?_)
 ·obtain ⟨t, a, b, ns, ss, rfl, _⟩ := h
  rfl
 obtain ⟨t, a, b, ns, ss, rfl, pl, q⟩ := h
 refine ⟨_, (@pss_cons _ _ _ _ _ (ps_set (i := 1) scBet.nd rfl (Or.inl rfl) (pe_ix ix_tup (pv 0) pe_int (fun _ _ => rfl))) (@pss_cons _ _ _ _ _ (ps_set (i := 2) scBet.nd rfl (Or.inl rfl) pe_int) (@pss_cons _ _ _ _ _ (ps_set (i := 3) scBet.nd rfl (Or.inl rfl) pe_int) (@pss_cons _ _ _ _ _ (ps_for PassesOwn.never rfl (pi_list (pv 1)) (pg_name (i := 4) scBet.nd rfl (Or.inl rfl)) (@pss_one _ _ _ (ps_for PassesOwn.never rfl (pi_list (pv 1)) (pg_name (i := 5) scBet.nd rfl (Or.inl rfl)) (@pss_cons _ _ _ _ _ (ps_set (i := 6) scBet.nd rfl (Or.inl rfl) (pe_call GB hr rfl mB kB bB .nil pass0 (pa_cons (pv 0) (pa_cons (pv 4) (pa_cons (pv 5) pa_nil))))) (@pss_cons _ _ _ _ _ (ps_set (i := 2) scBet.nd rfl (Or.inl rfl) (pe_op op_add (pv 2) (pv 6))) (@pss_cons _ _ _ _ _ (ps_if (PW.pt (pw_and (pt_cmpR op_lt (pv 4) (pv 5) (nomark _)) (pw_and1 (pt_cmpR op_ne (pv 6) (pe_call GB hr rfl mB kB bB .nil pass0 (pa_cons (pv 0) (pa_cons (pv 5) (pa_cons (pv 4) pa_nil)))) (nomark _))))) (@pss_one _ _ _ (ps_ret pe_bl)) pss_nil) (@pss_one _ _ _ (ps_if (PW.pt (pw_and (pt_cmpR op_ne (pv 4) (pv 5) (nomark _)) (pw_and (pt_cmpR op_gt (pe_callB call_len_seq rfl B.len PySem.boot_len (pa_cons (pv 1) pa_nil)) pe_int (nomark _)) (pw_and1 (pt_val (pe_call GP hr rfl mP kP bP .nil pass0 (pa_cons (pv 0) (pa_cons (pv 4) (pa_cons (pv 5) pa_nil))))))))) (@pss_one _ _ _ (ps_set (i := 3) scBet.nd rfl (Or.inl rfl) (pe_op op_add (pv 3) (pv 6)))) pss_nil)))))))) (@pss_one _ _ _ (ps_ret (pe_and (pe_cmpR op_eq (pv 2) (pe_call GR hr rfl mR kR bR .nil pass0 (pa_cons (pv 0) pa_nil)) (nomark _)) (pe_one (pe_cmpR op_eq (pv 3) (pe_call GG hr rfl mG kG bG .nil pass0 (pa_cons (pv 0) pa_nil)) (nomark _)))))))))), ?_⟩
 have ok := pl.ok
 have nml : (ns.map V.int).length = ns.length := List.length_map _
 have vAt : ∀ {i : Nat} {v : V}, (ns.map V.int)[i]? = some v → i < ns.length ∧ v = .int (ns.getD i 0) := fun {i v} hv => by
  have hi : i < ns.length := by
   have := (List.getElem?_eq_some_iff.mp hv).1
   rwa [nml] at this
  rw [List.getElem?_map, List.getElem?_eq_getElem hi] at hv
  refine ⟨hi, ?_⟩
  rw [List.getD_eq_getElem?_getD, List.getElem?_eq_getElem hi]
  exact (Option.some.inj hv).symm
 refine ⟨_, rfl, t, _, 0, _, rfl, rfl, SqT.of pl.t, rfl, ?_⟩
 refine ⟨_, rfl, a, rfl, ⟨_, SqL.of pl.a⟩, ?_⟩
 refine for_list (xs := ns.map V.int) (fun i σ H' => ∃ (y4 y5 y6 : Option V), σ = [some (.ref t), some (.ref a), some (.int (tB ns ss i : Nat)), some (.int (uB ns ss i : Nat)), y4, y5, y6] ∧ Same H H') ⟨_, _, _, rfl, Same.rfl'⟩ (fun j σ H' _ ⟨_, _, _, _, g⟩ => SqL.of (g _ _ pl.a)) ?_ ?_
 ·rintro i v σ HA hv ⟨y4, y5, y6, rfl, gA⟩
  obtain ⟨hi, rfl⟩ := vAt hv
  have plA := pl.same gA
  refine ⟨_, rfl, a, rfl, ⟨_, SqL.of plA.a⟩, ?_⟩
  refine for_list (xs := ns.map V.int) (fun j σ H' => ∃ (y5 y6 : Option V), σ = [some (.ref t), some (.ref a), some (.int (tB ns ss i + sB ns ss i j : Nat)), some (.int (uB ns ss i + rB ns ss i j : Nat)), some (.int (ns.getD i 0)), y5, y6] ∧ Same HA H') ⟨_, _, rfl, Same.rfl'⟩ (fun j σ H' _ ⟨_, _, _, g⟩ => SqL.of (g _ _ plA.a)) ?_ ?_
  ·rintro j v σ HB hv ⟨y5, y6, rfl, gB⟩
   obtain ⟨hj, rfl⟩ := vAt hv
   have plB := plA.same gB
   refine ⟨_, rfl, _, rfl, _, rfl, t, a, b, ns, ss, i, j, rfl, plB, hi, hj, fun HC gC => ?_⟩
   have plC := plB.same gC
   refine ⟨_, rfl, _, rfl, _, _, rfl, rfl, ?_⟩
   have e1 : ((tB ns ss i + sB ns ss i j : Nat) : Int) + (betW ns ss i j : Nat) = ((tB ns ss i + sB ns ss i (j + 1) : Nat) : Int) := by
    unfold sB
    rw [rng_sum]
    omega
   dsimp only [gName]
   refine seq_postT (fun σ' H' => σ' = [some (.ref t), some (.ref a), some (.int (tB ns ss i + sB ns ss i (j + 1) : Nat)), some (.int (uB ns ss i + rB ns ss i j : Nat)), some (.int (ns.getD i 0)), some (.int (ns.getD j 0)), some (.int (betW ns ss i j : Nat))] ∧ Same HA H') (fun N hN => ?_) ?_
   ·refine ⟨_, rfl, _, rfl, _, _, rfl, rfl, _, rfl, ite2 (fun c => ?_) (fun _ => iteF (hN _ _ ⟨by rw [← e1]; rfl, gB.trans gC⟩))⟩
    refine ⟨_, rfl, _, rfl, _, rfl, _, rfl, t, a, b, ns, ss, j, i, rfl, plC, hj, hi, fun HD gD => ⟨rfl, _, rfl, ?_⟩⟩
    rw [bet_sym ok hj hi, decide_eq_true rfl]
    exact iteF (hN _ _ ⟨by rw [← e1]; rfl, gB.trans (gC.trans gD)⟩)
   rintro σ' HD ⟨rfl, gD⟩
   have plD := plA.same gD
   have rs : rB ns ss i (j + 1) = rB ns ss i j + if (decide (2 < ns.length) && addUp ss (ns.getD i 0) (ns.getD j 0)) = true then betW ns ss i j else 0 := by
    unfold rB
    rw [rng_sum]
   by_cases c1 : ns.getD i 0 = ns.getD j 0
   ·have e0 : addUp ss (ns.getD i 0) (ns.getD j 0) = false := by
     unfold addUp
     rw [c1]
     simp
    rw [e0, Bool.and_false, if_neg (by decide), Nat.add_zero] at rs
    rw [rs]
    refine ⟨_, rfl, _, rfl, rfl, _, rfl, ?_⟩
    rw [decide_eq_true (show V.int (ns.getD i 0) = V.int (ns.getD j 0) by rw [c1])]
    exact iteF (iteF ⟨_, _, rfl, gD⟩)
   ·refine ⟨_, rfl, _, rfl, rfl, _, rfl, ?_⟩
    rw [decide_eq_false (show ¬ V.int (ns.getD i 0) = V.int (ns.getD j 0) from fun z => c1 (V.int.inj z))]
    refine iteT ?_
    refine ⟨_, rfl, a, _, rfl, .inl (SqL.of plD.a), _, _, rfl, rfl, _, rfl, ?_⟩
    by_cases c2 : 2 < ns.length
    ·rw [decide_eq_true c2, Bool.true_and] at rs
     rw [decide_eq_true (show (2 : Int) < ((ns.map V.int).length : Nat) by rw [nml]; omega)]
     refine iteT ?_
     refine ⟨_, rfl, _, rfl, _, rfl, t, a, b, ns, ss, i, j, rfl, plD, hi, hj, _, rfl, ?_⟩
     by_cases c3 : addUp ss (ns.getD i 0) (ns.getD j 0) = true
     ·rw [if_pos c3] at rs
      rw [c3]
      refine iteT ⟨_, rfl, _, rfl, _, _, rfl, rfl, ?_⟩
      refine ⟨some (.int (ns.getD j 0)), some (.int (betW ns ss i j : Nat)), ?_, gD⟩
      rw [rs, ← Nat.add_assoc, Int.natCast_add (uB ns ss i + rB ns ss i j)]
      rfl
     ·rw [if_neg c3, Nat.add_zero] at rs
      rw [Bool.eq_false_iff.mpr c3, rs]
      exact iteF ⟨_, _, rfl, gD⟩
    ·rw [decide_eq_false c2, Bool.false_and, if_neg (by decide), Nat.add_zero] at rs
     rw [decide_eq_false (show ¬ (2 : Int) < ((ns.map V.int).length : Nat) by rw [nml]; omega), rs]
     exact iteF (iteF ⟨_, _, rfl, gD⟩)
  ·rintro σ HB ⟨y5, y6, rfl, gB⟩
   rw [nml]
   refine ⟨some (.int (ns.getD i 0)), y5, y6, ?_, gA.trans gB⟩
   have e1 : tB ns ss (i + 1) = tB ns ss i + sB ns ss i ns.length := rng_sum _ _
   have e2 : uB ns ss (i + 1) = uB ns ss i + rB ns ss i ns.length := rng_sum _ _
   rw [e1, e2]
 ·rintro σ HA ⟨y4, y5, y6, rfl, gA⟩
  rw [nml]
  have e1 : tB ns ss ns.length = cntW ns ss false := bet_total ok
  have e2 : uB ns ss ns.length = ringsW ns ss := bet_rings ok
  rw [e1, e2]
  have plA := pl.same gA
  refine ⟨_, rfl, _, rfl, t, a, b, ns, ss, rfl, plA, fun HB gB => ⟨rfl, _, rfl, ?_⟩⟩
  rw [decide_eq_true rfl]
  refine iteT ?_
  refine ⟨_, rfl, _, rfl, t, a, b, ns, ss, rfl, plA.same gB, fun HC gC => ⟨rfl, ?_⟩⟩
  rw [decide_eq_true rfl]
  exact q _ (gA.trans (gB.trans gC))
end
theorem sum_upto (f : Nat → Nat) (i0 : Nat) : ∀ k : Nat, ((List.range (i0 + k)).map fun i => if i < i0 then f i else 0).sum = ((List.range i0).map f).sum
 | 0 => by
  rw [Nat.add_zero]
  congr 1
  exact List.map_congr_left fun i hi => if_pos (List.mem_range.mp hi)
 | k + 1 => by
  rw [← Nat.add_assoc, rng_sum, sum_upto f i0 k, if_neg (by omega), Nat.add_zero]
theorem tB_is {ns ss : List Int} (ok : PlanOk ns ss) {i0 : Nat} (h : i0 ≤ ns.length) : tB ns ss i0 = ((allR ns ss).filter fun z => decide (ns.idxOf (z.getD 0 0) < i0)).length := by
 have := bet_sumC ok fun i _ => decide (i < i0)
 rw [← this]
 have e : ((List.range ns.length).map fun i => ((List.range ns.length).map fun j => if decide (i < i0) = true then betW ns ss i j else 0).sum) = (List.range ns.length).map fun i => if i < i0 then sB ns ss i ns.length else 0 := List.map_congr_left fun i _ => by
  by_cases c : i < i0
  ·simp only [decide_eq_true c, if_true, if_pos c]
   rfl
  ·simp only [decide_eq_false c, if_neg c]
   exact sum_zero fun _ _ => rfl
 rw [e]
 obtain ⟨k, hk⟩ : ∃ k, ns.length = i0 + k := ⟨ns.length - i0, by omega⟩
 unfold tB
 rw [← sum_upto (fun i' => sB ns ss i' ns.length) i0 k, ← hk]
theorem stands2 {ns ss : List Int} (ok : PlanOk ns ss) {k : Nat} (hk : k < cntW ns ss false) : ns.idxOf ((rowN ns ss k).getD 0 0) < ns.length ∧ ns.getD (ns.idxOf ((rowN ns ss k).getD 0 0)) 0 = (rowN ns ss k).getD 0 0 ∧ tB ns ss (ns.idxOf ((rowN ns ss k).getD 0 0)) ≤ k ∧ k < tB ns ss (ns.idxOf ((rowN ns ss k).getD 0 0)) + sB ns ss (ns.idxOf ((rowN ns ss k).getD 0 0)) ns.length := by
 obtain ⟨⟨f1, f2⟩, _⟩ := fst_is ok (rowN_row ok hk).1
 obtain ⟨s1, s2⟩ := stands ok hk
 refine ⟨f1, f2, ?_, ?_⟩
 ·rw [tB_is ok (Nat.le_of_lt f1)]
  refine Nat.le_trans (Nat.le_of_eq ?_) s1
  congr 1
  refine List.filter_congr fun z hz => ?_
  obtain ⟨⟨h1, h2⟩, _⟩ := fst_is ok ((mem_all ok).mp hz)
  refine decide_eq_decide.mpr ⟨fun w => ?_, fun w => ?_⟩
  ·have := getD_lt ok.n.up w f1
   rw [h2, f2] at this
   exact this
  ·rcases Nat.lt_or_ge (ns.idxOf (z.getD 0 0)) (ns.idxOf ((rowN ns ss k).getD 0 0)) with y | y
   ·exact y
   ·rcases Nat.lt_or_ge (ns.idxOf ((rowN ns ss k).getD 0 0)) (ns.idxOf (z.getD 0 0)) with x | x
    ·have := getD_lt ok.n.up x h1
     rw [h2, f2] at this
     omega
    ·have e : ns.idxOf (z.getD 0 0) = ns.idxOf ((rowN ns ss k).getD 0 0) := by omega
     rw [← h2, ← f2, e] at w
     omega
 ·have e1 : tB ns ss (ns.idxOf ((rowN ns ss k).getD 0 0) + 1) = tB ns ss (ns.idxOf ((rowN ns ss k).getD 0 0)) + sB ns ss (ns.idxOf ((rowN ns ss k).getD 0 0)) ns.length := rng_sum _ _
  rw [← e1, tB_is ok f1]
  refine Nat.lt_of_lt_of_le s2 (Nat.le_of_eq ?_)
  congr 1
  refine List.filter_congr fun z hz => ?_
  obtain ⟨⟨h1, h2⟩, _⟩ := fst_is ok ((mem_all ok).mp hz)
  refine decide_eq_decide.mpr ⟨fun w => ?_, fun w => ?_⟩
  ·rcases Nat.lt_or_ge (ns.idxOf ((rowN ns ss k).getD 0 0)) (ns.idxOf (z.getD 0 0)) with x | x
   ·have := getD_lt ok.n.up x h1
    rw [h2, f2] at this
    omega
   ·omega
  ·rcases Nat.lt_or_ge (ns.idxOf (z.getD 0 0)) (ns.idxOf ((rowN ns ss k).getD 0 0)) with y | y
   ·have := getD_lt ok.n.up y f1
    rw [h2, f2] at this
    omega
   ·have e : ns.idxOf (z.getD 0 0) = ns.idxOf ((rowN ns ss k).getD 0 0) := by omega
    rw [← h2, ← f2, e]
    exact Int.le_refl _
theorem flt_take {ns : List Int} (up : ns.Pairwise (· < ·)) {i0 : Nat} (h : i0 < ns.length) : ns.filter (fun x => decide (x < ns.getD i0 0)) = ns.take i0 := by
 conv => lhs; rw [← List.take_append_drop i0 ns]
 rw [List.filter_append]
 have e1 : (ns.take i0).filter (fun x => decide (x < ((ns.take i0) ++ (ns.drop i0)).getD i0 0)) = ns.take i0 := List.filter_eq_self.mpr fun x hx => by
  obtain ⟨k, hk, rfl⟩ := List.mem_iff_getElem.mp hx
  rw [List.length_take] at hk
  rw [List.take_append_drop]
  refine decide_eq_true ?_
  have := getD_lt up (show k < i0 by omega) h
  rw [List.getD_eq_getElem?_getD, List.getElem?_eq_getElem (by omega)] at this
  rw [List.getElem_take]
  exact this
 have e2 : (ns.drop i0).filter (fun x => decide (x < ((ns.take i0) ++ (ns.drop i0)).getD i0 0)) = [] := List.filter_eq_nil_iff.mpr fun x hx z => by
  rw [List.take_append_drop] at z
  obtain ⟨k, hk, rfl⟩ := List.mem_iff_getElem.mp hx
  rw [List.length_drop] at hk
  have z := of_decide_eq_true z
  rw [List.getElem_drop] at z
  rcases Nat.eq_zero_or_pos k with w | w
  ·subst w
   rw [List.getD_eq_getElem?_getD, List.getElem?_eq_getElem h] at z
   have z' : ns[i0 + 0] < ns[i0] := z
   exact absurd z' (by simp)
  ·have := getD_lt up (show i0 < i0 + k by omega) (by omega)
   have e : ns.getD (i0 + k) 0 = ns[i0 + k] := by rw [List.getD_eq_getElem?_getD, List.getElem?_eq_getElem (by omega)]; rfl
   rw [e] at this
   omega
 rw [e1, e2, List.append_nil]
abbrev sRri : Stmt := top 44
def spRri : Sp := fun vs H Q _ => ∃ (d p t a b : Addr) (ns ss : List Int), vs = [.ref d, .ref t, .int (cntW ns ss false : Nat)] ∧ Sto H d p ∧ IsPl H t a b ns ss ∧ (t ≠ d ∧ a ≠ d ∧ b ≠ d) ∧ 0 < cntW ns ss false ∧ ∀ H', Sto H' d p → Ex (· = d) H H' → Q (.bl true) H'
theorem sum_castN (f : Nat → Nat) : ∀ l : List Nat, (l.map fun j => ((f j : Nat) : Int)).sum = ((l.map f).sum : Nat)
 | [] => rfl
 | a :: r => by rw [List.map_cons, List.sum_cons, List.map_cons, List.sum_cons, sum_castN f r, Int.natCast_add]
theorem cmul1 {r : Int} (h0 : 0 ≤ r) (h1 : r < 10007) : CMul r 10007 := by unfold CMul; omega
section
variable {f g1 g2 g3 g4 g5 g6 : Addr} {fd gd1 gd2 gd3 gd4 gd5 gd6 : FuncData}
theorem scRri : FnScope ["store", "plan", "many", "far", "numbers", "rows", "number", "row", "ahead", "one", "own"] ["store", "plan", "many"] (defScope sRri) := ⟨rfl, rfl, rfl, by decide +kernel, rfl, by decide +kernel, by decide +kernel⟩
set_option maxHeartbeats 0 in
theorem ok_rri (F : Fun K "_law_rows_right" "_law_rows_right" sRri f fd) (B : Bt4 mg) (zset : mg "set" = none)
  (GT : FnOk P w K mg base CX0 26 g1 gd1 ["store", "many"] spTk) (bT : Binds K gd1 ["store", "many"] []) (kT : Kee K g1) (mT : mg "_law_take" = some (.ref g1))
  (GY : FnOk P w K mg base CX0 26 g2 gd2 ["plan", "number"] spRb) (bY : Binds K gd2 ["plan", "number"] []) (kY : Kee K g2) (mY : mg "row_by" = some (.ref g2))
  (GF : FnOk P w K mg base CX0 26 g3 gd3 ["plan"] (spFRow false)) (bF : Binds K gd3 ["plan"] []) (kF : Kee K g3) (mF : mg "first_row" = some (.ref g3))
  (GI : FnOk P w K mg base CX0 26 g4 gd4 ["plan", "thing"] spIsR) (bI : Binds K gd4 ["plan", "thing"] []) (kI : Kee K g4) (mI : mg "is_row" = some (.ref g4))
  (GN : FnOk P w K mg base CX0 26 g5 gd5 ["plan", "thing"] spNoI) (bN : Binds K gd5 ["plan", "thing"] []) (kN : Kee K g5) (mN : mg "number_of" = some (.ref g5))
  (GB : FnOk P w K mg base CX0 26 g6 gd6 ["plan", "one", "other"] spCb) (bB : Binds K gd6 ["plan", "one", "other"] []) (kB : Kee K g6) (mB : mg "count_between" = some (.ref g6)) : FnOk P w K mg base CX0 27 f fd ["store", "plan", "many"] spRri := by
 refine F.ok scRri (fun vs H Q E h => ?_) (fun cdv A outer s H vs Q E hr h => ?_)
 ·obtain ⟨d, p, t, a, b, ns, ss, rfl, _⟩ := h
  rfl
 obtain ⟨d, p, t, a, b, ns, ss, rfl, S0, pl0, ⟨td, ad, bd⟩, c0, q⟩ := h
 refine ⟨_, (@pss_cons _ _ _ _ _ (ps_set (i := 3) scRri.nd rfl (Or.inl rfl) (pe_op op_add (pe_op op_mul (pe_call GT hr rfl mT kT bT .nil pass0 (pa_cons (pv 0) (pa_cons pe_int pa_nil))) pe_int) (pe_call GT hr rfl mT kT bT .nil pass0 (pa_cons (pv 0) (pa_cons pe_int pa_nil))))) (@pss_cons _ _ _ _ _ (ps_set (i := 4) scRri.nd rfl (Or.inl rfl) (pe_sortSet rfl rfl B.sorted rfl zset (pe_lst (pa_cons pe_int (pa_cons (pe_op op_fdiv (pv 2) pe_int) (pa_cons (pe_op op_sub (pv 2) pe_int) (pa_cons (pe_op op_mod (pv 3) (pv 2)) (pa_cons (pe_op op_mod (pe_op op_fdiv (pv 3) pe_int) (pv 2)) pa_nil)))))))) (@pss_cons _ _ _ _ _ (ps_comp ["number"] rfl (blk_ok (defScope sRri) ["store", "plan", "many", "far", "numbers", "rows", "number", "row", "ahead", "one", "own"] rfl rfl (by decide +kernel)) (pi_list (pv 4)) (fun pins C fp s3 H3 => ⟨(pg_name (i := 0) (show (blkN ["number"] ["store", "plan", "many", "far", "numbers", "rows", "number", "row", "ahead", "one", "own"]).Nodup by decide +kernel) rfl (Or.inl rfl)), pif_nil, (pe_call GY hr rfl mY kY bY .nil pass0 (pa_cons (pv 2) (pa_cons (pv 0) pa_nil)))⟩) (j := 5) scRri.nd rfl (Or.inl rfl) rfl) (@pss_cons _ _ _ _ _ (ps_if (PW.pt (pw_or (pt_cmpR (op_neD hr.units) (pv 5) (pe_callB (call_sortedL hr.units) rfl B.sorted boot_sorted (pa_cons (pv 5) pa_nil)) (nomark _)) (pw_or1 (pt_cmpR (op_neD hr.units) (pe_ix ix_list (pv 5) pe_int (fun _ _ => rfl)) (pe_call GF hr rfl mF kF bF .nil pass0 (pa_cons (pv 1) pa_nil)) (nomark _))))) (@pss_one _ _ _ (ps_ret pe_bl)) pss_nil) (@pss_cons _ _ _ _ _ (ps_for PassesOwn.never rfl (pi_zip rfl B.zip (pa_cons (pv 4) (pa_cons (pv 5) pa_nil))) (pg_tup rfl (pgs_cons (pg_name (i := 6) scRri.nd rfl (Or.inl rfl)) (pgs_cons (pg_name (i := 7) scRri.nd rfl (Or.inr rfl)) pgs_nil))) (@pss_cons _ _ _ _ _ (ps_if (PW.pt (pw_or (pt_cmpR op_notB (pe_call GI hr rfl mI kI bI .nil pass0 (pa_cons (pv 1) (pa_cons (pv 7) pa_nil))) pe_bl (nomark _)) (pw_or1 (pt_cmpR op_ne (pe_call GN hr rfl mN kN bN .nil pass0 (pa_cons (pv 1) (pa_cons (pv 7) pa_nil))) (pv 6) (nomark _))))) (@pss_one _ _ _ (ps_ret pe_bl)) pss_nil) (@pss_cons _ _ _ _ _ (ps_if (pt_cmpR (op_neD hr.units) (pe_call GY hr rfl mY kY bY .nil pass0 (pa_cons (pv 1) (pa_cons (pe_call GN hr rfl mN kN bN .nil pass0 (pa_cons (pv 1) (pa_cons (pe_rev (pv 7)) pa_nil))) pa_nil))) (pe_rev (pv 7)) (nomark _)) (@pss_one _ _ _ (ps_ret pe_bl)) pss_nil) (@pss_cons _ _ _ _ _ (ps_set (i := 8) scRri.nd rfl (Or.inl rfl) pe_int) (@pss_cons _ _ _ _ _ (ps_for PassesOwn.never rfl (pi_list (pe_comp ["one"] rfl (blk_ok (defScope sRri) ["store", "plan", "many", "far", "numbers", "rows", "number", "row", "ahead", "one", "own"] rfl rfl (by decide +kernel)) (pi_list (pe_ix ix_tup (pv 1) pe_int (fun _ _ => rfl))) (fun pins C fp s3 H3 => ⟨(pg_name (i := 0) (show (blkN ["one"] ["store", "plan", "many", "far", "numbers", "rows", "number", "row", "ahead", "one", "own"]).Nodup by decide +kernel) rfl (Or.inl rfl)), (pif_one (pt_cmpR op_lt (pv 0) (pe_ix (ix_listK K) (pv 8) pe_int (fun _ _ => rfl)) (nomark _))), (pv 0)⟩))) (pg_name (i := 9) scRri.nd rfl (Or.inr rfl)) (@pss_one _ _ _ (ps_set (i := 8) scRri.nd rfl (Or.inl rfl) (pe_op op_add (pv 8) (pe_callB (call_sumL rfl) rfl B.sum boot_sum (pa_cons (pe_comp ["other"] rfl (blk_ok (defScope sRri) ["store", "plan", "many", "far", "numbers", "rows", "number", "row", "ahead", "one", "own"] rfl rfl (by decide +kernel)) (pi_list (pe_ix ix_tup (pv 1) pe_int (fun _ _ => rfl))) (fun pins C fp s3 H3 => ⟨(pg_name (i := 0) (show (blkN ["other"] ["store", "plan", "many", "far", "numbers", "rows", "number", "row", "ahead", "one", "own"]).Nodup by decide +kernel) rfl (Or.inl rfl)), pif_nil, (pe_call GB hr rfl mB kB bB .nil pass0 (pa_cons (pv 2) (pa_cons (pv 10) (pa_cons (pv 0) pa_nil))))⟩)) pa_nil)))))) (@pss_cons _ _ _ _ _ (ps_set (i := 10) scRri.nd rfl (Or.inl rfl) (pe_callB (call_sumL rfl) rfl B.sum boot_sum (pa_cons (pe_comp ["other"] rfl (blk_ok (defScope sRri) ["store", "plan", "many", "far", "numbers", "rows", "number", "row", "ahead", "one", "own"] rfl rfl (by decide +kernel)) (pi_list (pe_ix ix_tup (pv 1) pe_int (fun _ _ => rfl))) (fun pins C fp s3 H3 => ⟨(pg_name (i := 0) (show (blkN ["other"] ["store", "plan", "many", "far", "numbers", "rows", "number", "row", "ahead", "one", "own"]).Nodup by decide +kernel) rfl (Or.inl rfl)), pif_nil, (pe_call GB hr rfl mB kB bB .nil pass0 (pa_cons (pv 2) (pa_cons (pe_ix (ix_listK K) (pv 8) pe_int (fun _ _ => rfl)) (pa_cons (pv 0) pa_nil))))⟩)) pa_nil))) (@pss_one _ _ _ (ps_if (pt_not (pt_chain op_le op_lt (pv 8) (pv 6) (pe_op op_add (pv 8) (pv 10)))) (@pss_one _ _ _ (ps_ret pe_bl)) pss_nil)))))))) (@pss_one _ _ _ (ps_ret pe_bl))))))), ?_⟩
 have ok := pl0.ok
 have cc := cnt_cap ok
 have n10 := ok.n2
 have nml : (ns.map V.int).length = ns.length := List.length_map _
 have hw : hasW ns ss false = true := by rw [has_cnt ok]; exact decide_eq_true c0
 generalize eM : cntW ns ss false = M at c0 cc
 refine ⟨_, rfl, d, p, 10007, rfl, S0, by decide, fun r1 H1 r10 r11 S1 o1 => ⟨_, _, rfl, rfl, cmul1 r10 r11, ?_⟩⟩
 refine ⟨_, rfl, d, p, 10007, rfl, S1, by decide, fun r2 H2 r20 r21 S2 o2 => ⟨_, _, rfl, rfl, ?_⟩⟩
 have E2 := o1.ex.trans o2.ex
 have pl : IsPl H2 t a b ns ss := ⟨E2 _ _ td pl0.t, E2 _ _ ad pl0.a, E2 _ _ bd pl0.b, ok⟩
 have fin : ∀ {H' : Hp}, Same H2 H' → Q (.bl true) H' := fun {H'} g => q _ (S2.ex g) (E2.trans (Ex.same g))
 refine ⟨_, rfl, _, _, rfl, rfl, ⟨by decide, by decide⟩, _, rfl, _, _, rfl, rfl, _, rfl, _, rfl, _, _, rfl, rfl, by omega, _, rfl, _, _, rfl, rfl, ⟨by decide, by decide⟩, _, rfl, _, _, rfl, rfl, by omega, (by show 5 ≤ sizeLine; decide), fun l5 hl5 => ?_⟩
 refine ⟨l5, [0, (M : Int) / 2, (M : Int) - 1, (r1 * 10007 + r2) % (M : Int), (r1 * 10007 + r2) / 13 % (M : Int)], rfl, SqL.of upd_same, (by show 5 < 64; decide), fun nl ys hnl up mem => ?_⟩
 have y5 : ys.length ≤ 5 := sub_lenA (up.imp fun h z => by omega) fun y hy => (mem y).mp hy
 have yb : ∀ y ∈ ys, 0 ≤ y ∧ y < (M : Int) := fun y hy => by
  have m1 := Int.emod_nonneg (r1 * 10007 + r2) (show (M : Int) ≠ 0 by omega)
  have m2 := Int.emod_lt_of_pos (r1 * 10007 + r2) (show (0 : Int) < M by omega)
  have m3 := Int.emod_nonneg ((r1 * 10007 + r2) / 13) (show (M : Int) ≠ 0 by omega)
  have m4 := Int.emod_lt_of_pos ((r1 * 10007 + r2) / 13) (show (0 : Int) < M by omega)
  have := (mem y).mp hy
  simp only [List.mem_cons, List.not_mem_nil, or_false] at this
  rcases this with z | z | z | z | z <;> omega
 have y0 : 0 ∈ ys := (mem 0).mpr List.mem_cons_self
 obtain ⟨yt, ey⟩ : ∃ yt, ys = 0 :: yt := by
  cases ys with
  | nil => cases y0
  | cons x r =>
   have := (yb x List.mem_cons_self).1
   rcases List.mem_cons.mp y0 with z | z
   ·exact ⟨r, by rw [← z]⟩
   ·have := (List.pairwise_cons.mp up).1 0 z
    omega
 have g3 : Same H2 (upd (upd H2 l5 (.lst ([0, (M : Int) / 2, (M : Int) - 1, (r1 * 10007 + r2) % (M : Int), (r1 * 10007 + r2) / 13 % (M : Int)].map V.int))) nl (.lst (ys.map V.int))) := (Same.new hl5 (.lst ([0, (M : Int) / 2, (M : Int) - 1, (r1 * 10007 + r2) % (M : Int), (r1 * 10007 + r2) / 13 % (M : Int)].map V.int))).trans (Same.new hnl (.lst (ys.map V.int)))
 have e3 : upd (upd H2 l5 (.lst ([0, (M : Int) / 2, (M : Int) - 1, (r1 * 10007 + r2) % (M : Int), (r1 * 10007 + r2) / 13 % (M : Int)].map V.int))) nl (.lst (ys.map V.int)) nl = some (.lst (ys.map V.int)) := upd_same
 revert g3 e3
 generalize eH3 : upd (upd H2 l5 (.lst ([0, (M : Int) / 2, (M : Int) - 1, (r1 * 10007 + r2) % (M : Int), (r1 * 10007 + r2) / 13 % (M : Int)].map V.int))) nl (.lst (ys.map V.int)) = H3
 have eH3' : upd (upd H2 l5 (.lst [V.int 0, V.int ((M : Int) / 2), V.int ((M : Int) - 1), V.int ((r1 * 10007 + r2) % (M : Int)), V.int ((r1 * 10007 + r2) / 13 % (M : Int))])) nl (.lst (ys.map V.int)) = H3 := eH3
 intro g3 e3
 dsimp only [gName]
 rw [eH3']
 refine ⟨_, rfl, nl, rfl, ⟨_, SqL.of e3⟩, ?_⟩
 intro D hD
 have pl3 := pl.same g3
 refine turns_newI (σ := [some (.ref d), some (.ref t), some (.int (M : Nat)), some (.int (r1 * 10007 + r2)), some (.ref nl), none, none, none, none, none, none]) (fun _ => true) (fun x => rowN ns ss x.toNat) (SqL.of e3) hD (by omega) (fun x H' hx g => tells_true) (fun x H' P hx hc g hP => ?_) fun us H4 g4 freU ndU DU e4 rows4 => ?_
 ·have xb := yb x hx
  exact ⟨_, rfl, _, rfl, t, a, b, ns, ss, x.toNat, by rw [show ((x.toNat : Nat) : Int) = x by omega]; rfl, pl3.same g, by omega, fun l H'' g' nl' el => hP l H'' g' nl' el⟩
 rw [fltT] at rows4
 have ul : us.length = ys.length := by rw [rows4.len, List.length_map]
 have yml : (ys.map V.int).length = ys.length := List.length_map _
 have uml : (us.map V.ref).length = us.length := List.length_map _
 have G4 := g3.trans g4
 have pl4 := pl.same G4
 have e3' := g4 _ _ e3
 have gdR : ∀ i < ys.length, (ys.map fun x => rowN ns ss x.toNat).getD i [] = rowN ns ss (ys.getD i 0).toNat := fun i hi => by
  rw [List.getD_eq_getElem?_getD, List.getElem?_map, List.getElem?_eq_getElem hi, List.getD_eq_getElem?_getD, List.getElem?_eq_getElem hi]
  rfl
 have yg : ∀ i < ys.length, 0 ≤ ys.getD i 0 ∧ ys.getD i 0 < (M : Int) := fun i hi => yb _ (List.mem_of_getElem? (getD_atP hi))
 have yu : ∀ i j, i < j → j < ys.length → ys.getD i 0 < ys.getD j 0 := fun i j h hj => getD_lt up h hj
 have rlen : ∀ i < ys.length, (rowN ns ss (ys.getD i 0).toNat).length = ns.length := fun i hi => rowN_len ok (by have := yg i hi; omega)
 refine ⟨_, rfl, _, rfl, D, us, _, (fun i => ys.getD i 0), rfl, e4, by omega, rows4, (fun i j h hj => yu i j h (by omega)), (fun i j hi hj => by rw [gdR i (by omega), gdR j (by omega), rlen i (by omega), rlen j (by omega)]), (fun i j hi hj ne => ?_), fun sl hsl => ?_⟩
 ·rw [gdR i (by omega), gdR j (by omega)]
  show HT.ordL .lt _ _ = decide (ys.getD i 0 < ys.getD j 0)
  have bi := yg i (by omega)
  have bj := yg j (by omega)
  rcases Nat.lt_trichotomy i j with z | z | z
  ·have := yu i j z (by omega)
   rw [decide_eq_true this]
   exact rowN_lt ok (by omega) (by omega)
  ·exact absurd z ne
  ·have := yu j i z (by omega)
   rw [decide_eq_false (by omega)]
   have o := rowN_lt ok (show (ys.getD j 0).toNat < (ys.getD i 0).toNat by omega) (by omega)
   have irr : ∀ (x y : List Int), HT.ordL .lt x y = true → HT.ordL .lt y x = false := fun x => by
    induction x with
    | nil => intro y h; cases h
    | cons u x ih =>
     intro y h
     cases y with
     | nil => cases h
     | cons v y =>
      have h' : (if u = v then HT.ordL .lt x y else decide (u < v)) = true := h
      show (if v = u then HT.ordL .lt y x else decide (v < u)) = false
      by_cases e : u = v
      ·rw [if_pos e] at h'
       rw [if_pos e.symm]
       exact ih y h'
      ·rw [if_neg e] at h'
       rw [if_neg (Ne.symm e)]
       have := of_decide_eq_true h'
       exact decide_eq_false (by omega)
   exact irr _ _ o
 have g5 := Same.new hsl (.lst (us.map V.ref))
 have rows5 := rows4.same g5
 refine ⟨_, rcv_rows (g5 _ _ e4) upd_same rows5 rows5, _, rfl, ?_⟩
 rw [beq_self_eq_true]
 refine iteF ?_
 have G5 := G4.trans g5
 have e5 := g5 _ _ e4
 have e35 := g5 _ _ e3'
 generalize upd H4 sl (.lst (us.map V.ref)) = H5 at g5 rows5 G5 e5 e35 ⊢
 have pl5 := pl.same G5
 have u0 : 0 < us.length := by rw [ul, ey]; exact Nat.succ_pos _
 have r0 := (rows5.get u0).1
 rw [gdR 0 (by omega), show ys.getD 0 0 = 0 by rw [ey]; rfl] at r0
 have hat0 : atI (us.map V.ref) ((0 : Nat) : Int) = some (.ref (us.getD 0 0)) := atI_nat (by rw [List.getElem?_map, List.getD_eq_getElem?_getD, List.getElem?_eq_getElem u0]; rfl)
 refine ⟨_, rfl, D, _, _, _, rfl, rfl, SqL.of e5, hat0, _, rfl, t, a, b, ns, ss, rfl, pl5, (fun z => by rw [hw] at z; cases z), fun _ fl H6 g6 nfl efl => ?_⟩
 refine ⟨_, rcv_ints (SqL.of (g6 _ _ r0)) (SqL.of efl), _, rfl, ?_⟩
 rw [show rowN ns ss (0 : Int).toNat = rowW ns ss false from row_zero ok hw, beq_self_eq_true]
 refine iteF ?_
 have G6 := G5.trans g6
 have e36 := g6 _ _ e35
 have e56 := g6 _ _ e5
 have rows6 := rows5.same g6
 refine ⟨_, rfl, _, rfl, nl, D, _, _, rfl, e36, e56, ?_⟩
 refine for_zip (xs := ys.map V.int) (ys := us.map V.ref) (fun i σ H' => ∃ (z6 z7 z8 z9 z10 : Option V), σ = [some (.ref d), some (.ref t), some (.int (M : Nat)), some (.int (r1 * 10007 + r2)), some (.ref nl), some (.ref D), z6, z7, z8, z9, z10] ∧ Same H6 H') (by omega) ⟨_, _, _, _, _, rfl, Same.rfl'⟩ (fun i σ H' _ ⟨_, _, _, _, _, _, g⟩ => ⟨g _ _ e36, g _ _ e56⟩) ?_ ?_
 ·rintro i x y σ HA T hx hy ⟨z6, z7, z8, z9, z10, rfl, gA⟩ hT
  have hi : i < ys.length := by
   have := (List.getElem?_eq_some_iff.mp hx).1
   rwa [yml] at this
  have hiu : i < us.length := by omega
  rw [List.getElem?_map, getD_atP hi] at hx
  cases hx
  have ga : us[i]? = some (us.getD i 0) := by rw [List.getD_eq_getElem?_getD, List.getElem?_eq_getElem hiu]; rfl
  rw [List.getElem?_map, ga] at hy
  cases hy
  have ez0 := (rows6.get hiu).1
  rw [gdR i hi] at ez0
  obtain ⟨b0, b1⟩ := yg i hi
  generalize us.getD i 0 = pr at ez0 ⊢
  obtain ⟨k, ek⟩ : ∃ k : Nat, ys.getD i 0 = (k : Int) := ⟨(ys.getD i 0).toNat, by omega⟩
  rw [ek] at ez0 b1 ⊢
  rw [Int.toNat_natCast] at ez0
  have hk : k < cntW ns ss false := by omega
  obtain ⟨rb, rn⟩ := rowN_row ok hk
  have rl := rowN_len ok hk
  obtain ⟨f1, f2, st1, st2⟩ := stands2 ok hk
  have gT : Same HA (upd HA T (.tup [.int (k : Int), .ref pr])) := Same.new hT _
  have eT : (upd HA T (.tup [.int (k : Int), .ref pr])) T = some (.tup [.int (k : Int), .ref pr]) := upd_same
  have GB := gA.trans gT
  generalize upd HA T (.tup [.int (k : Int), .ref pr]) = HB at gT eT GB ⊢
  have GB2 := G6.trans GB
  have plB := pl.same GB2
  have ezB := GB _ _ ez0
  refine ⟨T, _, rfl, SqT.of eT, rfl, _, _, rfl, _, _, rfl, rfl, ?_⟩
  refine ⟨_, rfl, _, rfl, t, a, b, pr, ns, ss, rowN ns ss k, rfl, plB, ezB, by omega, fun HC gC => ?_⟩
  rw [rb]
  refine ⟨_, _, rfl, rfl, _, rfl, iteF ?_⟩
  refine ⟨_, rfl, _, rfl, t, a, b, pr, ns, ss, rowN ns ss k, rfl, plB.same gC, gC _ _ ezB, rb, fun HD gD => ?_⟩
  rw [rn]
  refine ⟨_, rfl, rfl, _, rfl, ?_⟩
  rw [decide_eq_true rfl]
  refine iteF ?_
  have GD := GB.trans (gC.trans gD)
  have plD := pl.same (G6.trans GD)
  have ezD := GD _ _ ez0
  have rrv := row_rev rb
  obtain ⟨nr1, nr2⟩ := row_num ok rrv
  refine ⟨_, rfl, _, rfl, _, rfl, pr, _, rfl, SqL.of ezD, fun rv hrv => ?_⟩
  rw [← List.map_reverse]
  have gE := Same.new hrv (.lst ((rowN ns ss k).reverse.map V.int))
  have eE : upd HD rv (.lst ((rowN ns ss k).reverse.map V.int)) rv = some (.lst ((rowN ns ss k).reverse.map V.int)) := upd_same
  generalize upd HD rv (.lst ((rowN ns ss k).reverse.map V.int)) = HE at gE eE ⊢
  have plE := plD.same gE
  have ezE := gE _ _ ezD
  refine ⟨t, a, b, rv, ns, ss, (rowN ns ss k).reverse, rfl, plE, eE, rrv, fun HF gF => ?_⟩
  refine ⟨t, a, b, ns, ss, numW ns ss (rowN ns ss k).reverse, rfl, plE.same gF, nr1, fun rb' HG gG nrb erb => ?_⟩
  rw [nr2] at erb
  have ezG := gG _ _ (gF _ _ ezE)
  refine ⟨_, rfl, pr, _, rfl, SqL.of ezG, fun rv2 hrv2 => ?_⟩
  rw [← List.map_reverse]
  have gH := Same.new hrv2 (.lst ((rowN ns ss k).reverse.map V.int))
  refine ⟨_, rcv_ints (SqL.of (gH _ _ erb)) (SqL.of upd_same), _, rfl, ?_⟩
  rw [beq_self_eq_true]
  refine iteF ?_
  have GH := GD.trans (gE.trans (gF.trans (gG.trans gH)))
  generalize upd HG rv2 (.lst ((rowN ns ss k).reverse.map V.int)) = HH at GH ⊢
  have plH := pl.same (G6.trans GH)
  have ezH := GH _ _ ez0
  clear gC gD gE gF gG eE erb
  have rl1 : 0 < (rowN ns ss k).length := by have := ok.n1; omega
  have hat1 : atI ((rowN ns ss k).map V.int) ((0 : Nat) : Int) = some (.int ((rowN ns ss k).getD 0 0)) := atI_nat (by rw [List.getElem?_map, getD_atP rl1]; rfl)
  generalize (rowN ns ss k).getD 0 0 = x0 at hat1 f1 f2 st1 st2
  generalize ns.idxOf x0 = i0 at f1 f2 st1 st2
  refine ⟨_, rfl, t, _, 0, _, rfl, rfl, SqT.of plH.t, rfl, a, rfl, ⟨_, SqL.of plH.a⟩, fun D2 hD2 => ?_⟩
  refine turns_ints (L := ns) (fun x => decide (x < x0)) (fun x => .int x) (SqL.of plH.a) hD2 (by omega) (fun x H' hx g P hP => ?_) (fun x H' hx _ g P hP => ⟨_, rfl, hP _ Same.rfl'⟩) fun HI gI eI => ?_
  ·exact ⟨_, rfl, _, rfl, pr, _, _, _, rfl, rfl, SqL.of (g _ _ ezH), hat1, _, _, rfl, rfl, _, rfl, hP _ Same.rfl'⟩
  rw [← f2, flt_take ok.n.up f1] at eI
  have GI := GH.trans gI
  refine ⟨D2, rfl, ⟨_, SqL.of eI⟩, ?_⟩
  have tl : (ns.take i0).length = i0 := by rw [List.length_take]; omega
  have tml : ((ns.take i0).map V.int).length = i0 := by rw [List.length_map, tl]
  have ngd : ∀ j < ns.length, (ns.map V.int).getD j .non = .int (ns.getD j 0) := fun j hj => by
   rw [List.getD_eq_getElem?_getD, List.getElem?_map, getD_atP hj]
   rfl
  have sums : ∀ m, ((List.range (ns.map V.int).length).filter fun _ => true).map (fun j => V.int (betW ns ss m j : Nat)) = ((List.range ns.length).map fun j => ((betW ns ss m j : Nat) : Int)).map V.int := fun m => by
   rw [nml, List.filter_eq_self.mpr fun _ _ => rfl, List.map_map]
   rfl
  refine for_list (xs := (ns.take i0).map V.int) (fun m σ H' => ∃ (z9 z10 : Option V), σ = [some (.ref d), some (.ref t), some (.int (M : Nat)), some (.int (r1 * 10007 + r2)), some (.ref nl), some (.ref D), some (.int (k : Nat)), some (.ref pr), some (.int (tB ns ss m : Nat)), z9, z10] ∧ Same HI H') ⟨_, _, rfl, Same.rfl'⟩ (fun j σ H' _ ⟨_, _, _, g⟩ => SqL.of (g _ _ eI)) ?_ ?_
  ·rintro m v σ HJ hv ⟨z9, z10, rfl, gJ⟩
   have hm : m < i0 := by
    have := (List.getElem?_eq_some_iff.mp hv).1
    rwa [tml] at this
   rw [List.getElem?_map, List.getElem?_take_of_lt hm, getD_atP (show m < ns.length by omega)] at hv
   cases hv
   have GJ := GI.trans gJ
   have plJ := pl.same (G6.trans GJ)
   refine ⟨_, rfl, _, rfl, t, _, 0, _, rfl, rfl, SqT.of plJ.t, rfl, a, rfl, ⟨_, SqL.of plJ.a⟩, fun D3 hD3 => ?_⟩
   refine turns_list (xs := ns.map V.int) (σ := [some (.ref d), some (.ref t), some (.int (M : Nat)), some (.int (r1 * 10007 + r2)), some (.ref nl), some (.ref D), some (.int (k : Nat)), some (.ref pr), some (.int (tB ns ss m : Nat)), some (.int (ns.getD m 0)), z10]) (fun _ => true) (fun j => .int (betW ns ss m j : Nat)) (SqL.of plJ.a) hD3 (by omega) (fun j H' hj g => tells_true) (fun j H' hj _ g P hP => ?_) fun HL gL eL => ?_
   ·rw [nml] at hj
    rw [ngd j hj]
    exact ⟨_, rfl, _, rfl, _, rfl, t, a, b, ns, ss, m, j, rfl, plJ.same g, by omega, hj, fun H'' g' => hP _ g'⟩
   rw [sums] at eL
   refine ⟨D3, _, rfl, eL, _, _, rfl, rfl, ?_⟩
   refine ⟨some (.int (ns.getD m 0)), z10, ?_, gJ.trans gL⟩
   have e1 : tB ns ss (m + 1) = tB ns ss m + sB ns ss m ns.length := rng_sum _ _
   rw [e1, sum_castN, Int.natCast_add]
   rfl
  ·rintro σ HJ ⟨z9, z10, rfl, gJ⟩
   rw [tml]
   have GJ := GI.trans gJ
   have plJ := pl.same (G6.trans GJ)
   have ezJ := GJ _ _ ez0
   refine ⟨_, rfl, t, _, 0, _, rfl, rfl, SqT.of plJ.t, rfl, a, rfl, ⟨_, SqL.of plJ.a⟩, fun D3 hD3 => ?_⟩
   refine turns_list (xs := ns.map V.int) (σ := [some (.ref d), some (.ref t), some (.int (M : Nat)), some (.int (r1 * 10007 + r2)), some (.ref nl), some (.ref D), some (.int (k : Nat)), some (.ref pr), some (.int (tB ns ss i0 : Nat)), z9, z10]) (fun _ => true) (fun j => .int (betW ns ss i0 j : Nat)) (SqL.of plJ.a) hD3 (by omega) (fun j H' hj g => tells_true) (fun j H' hj _ g P hP => ?_) fun HL gL eL => ?_
   ·rw [nml] at hj
    rw [ngd j hj]
    refine ⟨_, rfl, _, rfl, pr, _, _, _, rfl, rfl, SqL.of (g _ _ ezJ), hat1, ?_⟩
    rw [← f2]
    exact ⟨_, rfl, t, a, b, ns, ss, i0, j, rfl, plJ.same g, f1, hj, fun H'' g' => hP _ g'⟩
   rw [sums] at eL
   refine ⟨D3, _, rfl, eL, ?_⟩
   rw [sum_castN]
   have es : ((List.range ns.length).map fun j => betW ns ss i0 j).sum = sB ns ss i0 ns.length := rfl
   rw [es]
   refine ⟨_, rfl, _, rfl, _, _, rfl, rfl, _, rfl, ?_⟩
   rw [decide_eq_true (show ((tB ns ss i0 : Nat) : Int) ≤ (k : Nat) by omega)]
   refine iteT ?_
   refine ⟨_, rfl, _, rfl, _, _, rfl, rfl, _, _, rfl, rfl, _, rfl, ?_⟩
   rw [decide_eq_true (show ((k : Nat) : Int) < (tB ns ss i0 : Nat) + (sB ns ss i0 ns.length : Nat) by omega)]
   exact iteF ⟨_, _, _, _, _, rfl, GJ.trans gL⟩
 ·rintro σ HA ⟨z6, z7, z8, z9, z10, rfl, gA⟩
  exact fin (G6.trans gA)
end
abbrev sLaw : Stmt := top 45
def spLaw (K : PySem.W.Frag) : Sp := fun vs H Q _ => ∃ (a : Addr) (ns : List Int), vs = [.ref a] ∧ SqL K H a (ns.map V.int) ∧ ns.length ≤ 63 ∧ ∀ H', Q (.bl true) H'
theorem cut_to (ns : List Int) {k : Int} (h : 0 ≤ k) : cutV (ns.map V.int) none (some k) = (ns.take k.toNat).map V.int := by
 unfold cutV
 have h1 : HT.sIx (ns.map V.int).length 0 none = 0 := rfl
 have h2 : HT.sIx (ns.map V.int).length (ns.map V.int).length (some k) = min k.toNat ns.length := by
  show (if k < 0 then _ else min k.toNat (ns.map V.int).length) = _
  rw [if_neg (by omega), List.length_map]
 rw [h1, h2, List.drop_zero, Nat.sub_zero, List.map_take]
 rcases Nat.le_total k.toNat ns.length with z | z
 ·rw [Nat.min_eq_left z]
 ·rw [Nat.min_eq_right z, List.take_of_length_le (by rw [List.length_map]; exact Nat.le_refl _), List.take_of_length_le (by rw [List.length_map]; exact z)]
theorem plan_cut {ns ss : List Int} (ok : PlanOk ns ss) {k : Nat} (h : 1 ≤ k) : PlanOk (ns.take k) ss :=
 ⟨⟨ok.n.up.sublist (List.take_sublist _ _), fun x hx => ok.n.bd x (List.mem_of_mem_take hx)⟩, ok.s, by have := ok.n1; rw [List.length_take]; omega, by have := ok.n2; rw [List.length_take]; omega, ok.s2⟩
section
variable {f : Addr} {fd : FuncData}
theorem scLaw : FnScope ["script", "store", "turn", "plan", "many"] ["script"] (defScope sLaw) := ⟨rfl, rfl, rfl, by decide +kernel, rfl, by decide +kernel, by decide +kernel⟩
set_option maxHeartbeats 0 in
theorem ok_law {ds mk cr be fr rr : Addr} {dsd mkd crd bed frd rrd : FuncData} (F : Fun K "law" "law" sLaw f fd) (B : Bt4 mg)
  (GD : FnOk P w K mg base CX0 27 ds dsd ["script", "many"] (spDs K)) (bD : Binds K dsd ["script", "many"] []) (kD : Kee K ds) (mD : mg "_law_draws" = some (.ref ds))
  (GM : FnOk P w K mg base CX0 27 mk mkd ["store"] spSp) (bM : Binds K mkd ["store"] []) (kM : Kee K mk) (mM : mg "_law_plan" = some (.ref mk))
  (GC : FnOk P w K mg base CX0 27 cr crd ["plan"] (spCount fun ns ss => cntW ns ss false)) (bC : Binds K crd ["plan"] []) (kC : Kee K cr) (mC : mg "count_rows" = some (.ref cr))
  (GB : FnOk P w K mg base CX0 27 be bed ["plan"] spBet) (bB : Binds K bed ["plan"] []) (kB : Kee K be) (mB : mg "_law_between_right" = some (.ref be))
  (GF : FnOk P w K mg base CX0 27 fr frd ["plan"] (spFRow false)) (bF : Binds K frd ["plan"] []) (kF : Kee K fr) (mF : mg "first_row" = some (.ref fr))
  (GR : FnOk P w K mg base CX0 27 rr rrd ["store", "plan", "many"] spRri) (bR : Binds K rrd ["store", "plan", "many"] []) (kR : Kee K rr) (mR : mg "_law_rows_right" = some (.ref rr)) : FnOk P w K mg base CX0 28 f fd ["script"] (spLaw K) := by
 refine F.ok scLaw (fun vs H Q E h => ?_) (fun cdv A outer s H vs Q E hr h => ?_)
 ·obtain ⟨a, ns, rfl, _⟩ := h
  rfl
 obtain ⟨a0, ns0, rfl, hS, h63, q⟩ := h
 refine ⟨_, (@pss_cons _ _ _ _ _ (ps_set (i := 1) scLaw.nd rfl (Or.inl rfl) (pe_lst (pa_cons (pe_call GD hr rfl mD kD bD .nil pass0 (pa_cons (pv 0) (pa_cons pe_int pa_nil))) (pa_cons pe_int pa_nil)))) (@pss_cons _ _ _ _ _ (ps_for PassesOwn.never rfl (pi_range1 rfl B.range (pa_cons pe_int pa_nil)) (pg_name (i := 2) scLaw.nd rfl (Or.inl rfl)) (@pss_cons _ _ _ _ _ (ps_set (i := 3) scLaw.nd rfl (Or.inl rfl) (pe_call GM hr rfl mM kM bM .nil pass0 (pa_cons (pv 1) pa_nil))) (@pss_cons _ _ _ _ _ (ps_if (pt_cmpR op_gt (pe_callB call_len_seq rfl B.len PySem.boot_len (pa_cons (pe_ix ix_tup (pv 3) pe_int (fun _ _ => rfl)) pa_nil)) pe_int (nomark _)) (@pss_one _ _ _ (ps_set (i := 3) scLaw.nd rfl (Or.inl rfl) (pe_tup (pa_cons (pe_slice sl_list (pe_ix ix_tup (pv 3) pe_int (fun _ _ => rfl)) po_none (po_some (pe_ix ix_list (pe_lst (pa_cons pe_int (pa_cons pe_int pa_nil))) (pe_callTy call_int1 rfl B.int PyProof.Rows.boot_int (pa_cons (pe_cmpR op_eq (pv 2) pe_int (nomark _)) pa_nil)) (fun _ _ => rfl)))) (pa_cons (pe_ix ix_tup (pv 3) pe_int (fun _ _ => rfl)) pa_nil))))) pss_nil) (@pss_cons _ _ _ _ _ (ps_set (i := 4) scLaw.nd rfl (Or.inl rfl) (pe_call GC hr rfl mC kC bC .nil pass0 (pa_cons (pv 3) pa_nil))) (@pss_cons _ _ _ _ _ (ps_if (PW.pt (pw_and (pt_cmpR op_lt (pv 2) pe_int (nomark _)) (pw_and (pt_cmpR op_lt (pe_callB call_len_seq rfl B.len PySem.boot_len (pa_cons (pe_ix ix_tup (pv 3) pe_int (fun _ _ => rfl)) pa_nil)) pe_int (nomark _)) (pw_and1 (pt_not (pt_val (pe_call GB hr rfl mB kB bB .nil pass0 (pa_cons (pv 3) pa_nil)))))))) (@pss_one _ _ _ (ps_ret pe_bl)) pss_nil) (@pss_cons _ _ _ _ _ (ps_if (PW.pt (pw_and (pt_cmpR op_eq (pv 4) pe_int (nomark _)) (pw_and1 (pt_cmpR op_notN (pe_call GF hr rfl mF kF bF .nil pass0 (pa_cons (pv 3) pa_nil)) pe_non (nomark _))))) (@pss_one _ _ _ (ps_ret pe_bl)) pss_nil) (@pss_one _ _ _ (ps_if (PW.pt (pw_and (pt_cmpR op_gt (pv 4) pe_int (nomark _)) (pw_and1 (pt_not (pt_val (pe_call GR hr rfl mR kR bR .nil pass0 (pa_cons (pv 1) (pa_cons (pv 3) (pa_cons (pv 4) pa_nil))))))))) (@pss_one _ _ _ (ps_ret pe_bl)) pss_nil)))))))) (@pss_one _ _ _ (ps_ret pe_bl)))), ?_⟩
 refine ⟨_, rfl, a0, ns0, rfl, hS, h63, fun p xs H1 g1 hp e1 x0 x1000 xn => ⟨two_le, fun d hd => ?_⟩⟩
 have s2 := Same.new hd (.lst [.ref p, .int 0])
 have S2 : Sto (upd H1 d (.lst [.ref p, .int 0])) d p := ⟨⟨0, upd_same⟩, ⟨xs, s2 _ _ e1, x0, x1000, xn⟩⟩
 generalize upd H1 d (.lst [.ref p, .int 0]) = H2 at s2 S2 ⊢
 have out : ∀ {H' : Hp} {c : Addr}, Sto H' d p → H' c = none → c ≠ d := fun {H' c} S h z => by
  obtain ⟨x, hx⟩ := S.at_
  rw [z, hx] at h
  cases h
 refine ⟨_, rfl, by decide, by decide, ?_⟩
 refine for_range (lo := 0) (n := (3 : Int).toNat) (fun i σ H' => ∃ (y2 y3 y4 : Option V), σ = [some (.ref a0), some (.ref d), y2, y3, y4] ∧ Sto H' d p) ⟨_, _, _, rfl, S2⟩ ?_ ?_
 ·rintro i σ H3 hi ⟨y2, y3, y4, rfl, S3⟩
  refine ⟨_, rfl, d, p, rfl, S3, fun t0 a0' b0 ns0' ss0 H4 S4 E4 nt0 na0 nb0 nab et0 ea0 eb0 ok0 => ?_⟩
  have d0 : t0 ≠ d ∧ a0' ≠ d ∧ b0 ≠ d := ⟨out S3 nt0, out S3 na0, out S3 nb0⟩
  dsimp only [gName]
  refine seq_postT (fun σ' H' => ∃ (t a b : Addr) (ns ss : List Int), σ' = [some (.ref a0), some (.ref d), some (.int (0 + (i : Int))), some (.ref t), y4] ∧ Sto H' d p ∧ IsPl H' t a b ns ss ∧ t ≠ d ∧ a ≠ d ∧ b ≠ d) (fun N hN => ?_) ?_
  ·refine ⟨_, rfl, t0, _, 0, _, rfl, rfl, SqT.of et0, rfl, a0', _, rfl, .inl (SqL.of ea0), _, _, rfl, rfl, _, rfl, ite2 (fun _ => ?_) (fun _ => hN _ _ ⟨t0, a0', b0, ns0', ss0, rfl, S4, ⟨et0, ea0, eb0, ok0⟩, d0⟩)⟩
   refine ⟨_, rfl, t0, _, 0, _, rfl, rfl, SqT.of et0, rfl, two_le, fun lk hlk => ?_⟩
   have g8 := Same.new hlk (.lst [.int 8, .int 10])
   obtain ⟨kv, hkv, k1⟩ : ∃ kv : Int, atI [V.int 8, V.int 10] (if decide (V.int (0 + (i : Int)) = V.int 0) = true then 1 else 0) = some (.int kv) ∧ 1 ≤ kv := by
    split
    ·exact ⟨10, rfl, by decide⟩
    ·exact ⟨8, rfl, by decide⟩
   refine ⟨_, rfl, rfl, .inr ⟨_, rfl, lk, _, _, _, rfl, rfl, SqL.of upd_same, hkv, kv, rfl, a0', _, rfl, SqL.of (g8 _ _ ea0), fun a ha => ?_⟩⟩
   rw [cut_to ns0' (by omega)]
   have g9 := Same.new ha (.lst ((ns0'.take kv.toNat).map V.int))
   have ok := plan_cut ok0 (k := kv.toNat) (by omega)
   generalize ns0'.take kv.toNat = ns at g9 ok ⊢
   refine ⟨_, rfl, t0, _, 1, _, rfl, rfl, SqT.of (g9 _ _ (g8 _ _ et0)), rfl, two_le, fun t ht => ?_⟩
   have g10 := Same.new ht (.tup [.ref a, .ref b0])
   exact hN _ _ ⟨t, a, b0, ns, ss0, rfl, ((S4.ex g8).ex g9).ex g10, ⟨upd_same, g10 _ _ upd_same, g10 _ _ (g9 _ _ (g8 _ _ eb0)), ok⟩, out ((S4.ex g8).ex g9) ht, out (S4.ex g8) ha, d0.2.2⟩
  rintro σ' H5 ⟨t, a, b, ns, ss, rfl, S5, pl5, dd⟩
  have ok := pl5.ok
  refine ⟨_, rfl, t, a, b, ns, ss, rfl, pl5, fun H6 g6 => ?_⟩
  have pl6 := pl5.same g6
  have S6 := S5.ex g6
  dsimp only [gName]
  refine seq_postT (fun σ' H' => σ' = [some (.ref a0), some (.ref d), some (.int (0 + (i : Int))), some (.ref t), some (.int (cntW ns ss false : Nat))] ∧ Same H6 H') (fun N hN => ?_) ?_
  ·refine ⟨_, rfl, _, _, rfl, rfl, _, rfl, ite2 (fun _ => ?_) (fun _ => iteF (hN _ _ ⟨rfl, Same.rfl'⟩))⟩
   refine ⟨_, rfl, t, _, 0, _, rfl, rfl, SqT.of pl6.t, rfl, a, _, rfl, .inl (SqL.of pl6.a), _, _, rfl, rfl, _, rfl, ite2 (fun _ => ?_) (fun _ => iteF (hN _ _ ⟨rfl, Same.rfl'⟩))⟩
   exact ⟨_, rfl, t, a, b, ns, ss, rfl, pl6, fun H7 g7 => ⟨_, rfl, iteF (hN _ _ ⟨rfl, g7⟩)⟩⟩
  rintro σ' H7 ⟨rfl, g7⟩
  have pl7 := pl6.same g7
  refine seq_postT (fun σ' H' => σ' = [some (.ref a0), some (.ref d), some (.int (0 + (i : Int))), some (.ref t), some (.int (cntW ns ss false : Nat))] ∧ Same H7 H') (fun N hN => ?_) ?_
  ·refine ⟨_, rfl, rfl, _, rfl, ite2 (fun c => ?_) (fun _ => iteF (hN _ _ ⟨rfl, Same.rfl'⟩))⟩
   have c' := V.int.inj (of_decide_eq_true c)
   have hw : hasW ns ss false = false := by
    rw [has_cnt ok]
    exact decide_eq_false (by omega)
   exact ⟨_, rfl, t, a, b, ns, ss, rfl, pl7, fun _ H8 g8 => ⟨rfl, _, rfl, iteF (hN _ _ ⟨rfl, g8⟩)⟩, fun z => by rw [hw] at z; cases z⟩
  rintro σ' H8 ⟨rfl, g8⟩
  have pl8 := pl7.same g8
  have S8 := (S6.ex g7).ex g8
  refine ⟨_, rfl, _, _, rfl, rfl, _, rfl, ite2 (fun c => ?_) (fun _ => iteF ⟨_, _, _, rfl, S8⟩)⟩
  have c' : (0 : Int) < (cntW ns ss false : Nat) := of_decide_eq_true c
  exact ⟨_, rfl, _, rfl, _, rfl, d, p, t, a, b, ns, ss, rfl, S8, pl8, dd, by omega, fun H9 S9 E9 => ⟨_, rfl, iteF ⟨_, _, _, rfl, S9⟩⟩⟩
 ·rintro σ H3 ⟨y2, y3, y4, rfl, S3⟩
  exact q _
end
theorem all_mk {l : PySem.W.OpenLaw} {w : World} {K : PySem.W.Frag} {h : Heap} {mg : Str → Option Value} {fa f1 f2 f3 f4 f5 f6 f7 f8 f9 f10 f11 f12 f13 f14 f15 f16 f17 f18 f19 f20 f21 f22 f23 f24 f25 f26 f27 f28 f29 f30 f31 f32 f33 f34 f35 f36 f37 f38 f39 f40 f41 f42 f43 f44  C1 C2 B1 : Addr} (X : K.In h) (G : h.Ns mainGlobals mg) (hfa : mg "law" = some (.ref fa))
  {od1 an1 od2 an2 od3 an3 od4 an4 od5 an5 od6 an6 od7 an7 od8 an8 od9 an9 od10 an10 od11 an11 od12 an12 od13 an13 od14 an14 od15 an15 od16 an16 od17 an17 od18 an18 od19 an19 od20 an20 od21 an21 od22 an22 od23 an23 od24 an24 od25 an25 od26 an26 od27 an27 od28 an28 od29 an29 od30 an30 od31 an31 od32 an32 od33 an33 od34 an34 od35 an35 od36 an36 od37 an37 od38 an38 od39 an39 od40 an40 od41 an41 od42 an42 od43 an43 od44 an44 : Option Addr} {sl1 sl2 sl3 sl4 sl5 sl6 sl7 sl8 sl9 sl10 sl11 sl12 sl13 sl14 sl15 sl16 sl17 sl18 sl19 sl20 sl21 sl22 sl23 sl24 sl25 sl26 sl27 sl28 sl29 sl30 sl31 sl32 sl33 sl34 sl35 sl36 sl37 sl38 sl39 sl40 sl41 sl42 sl43 sl44 : Array (Option Value)} {oc1 kV1 dc1 pm1 cd1 ct1 oc2 kV2 dc2 pm2 cd2 ct2 oc3 kV3 dc3 pm3 cd3 ct3 oc4 kV4 dc4 pm4 cd4 ct4 oc5 kV5 dc5 pm5 cd5 ct5 oc6 kV6 dc6 pm6 cd6 ct6 oc7 kV7 dc7 pm7 cd7 ct7 oc8 kV8 dc8 pm8 cd8 ct8 oc9 kV9 dc9 pm9 cd9 ct9 oc10 kV10 dc10 pm10 cd10 ct10 oc11 kV11 dc11 pm11 cd11 ct11 oc12 kV12 dc12 pm12 cd12 ct12 oc13 kV13 dc13 pm13 cd13 ct13 oc14 kV14 dc14 pm14 cd14 ct14 oc15 kV15 dc15 pm15 cd15 ct15 oc16 kV16 dc16 pm16 cd16 ct16 oc17 kV17 dc17 pm17 cd17 ct17 oc18 kV18 dc18 pm18 cd18 ct18 oc19 kV19 dc19 pm19 cd19 ct19 oc20 kV20 dc20 pm20 cd20 ct20 oc21 kV21 dc21 pm21 cd21 ct21 oc22 kV22 dc22 pm22 cd22 ct22 oc23 kV23 dc23 pm23 cd23 ct23 oc24 kV24 dc24 pm24 cd24 ct24 oc25 kV25 dc25 pm25 cd25 ct25 oc26 kV26 dc26 pm26 cd26 ct26 oc27 kV27 dc27 pm27 cd27 ct27 oc28 kV28 dc28 pm28 cd28 ct28 oc29 kV29 dc29 pm29 cd29 ct29 oc30 kV30 dc30 pm30 cd30 ct30 oc31 kV31 dc31 pm31 cd31 ct31 oc32 kV32 dc32 pm32 cd32 ct32 oc33 kV33 dc33 pm33 cd33 ct33 oc34 kV34 dc34 pm34 cd34 ct34 oc35 kV35 dc35 pm35 cd35 ct35 oc36 kV36 dc36 pm36 cd36 ct36 oc37 kV37 dc37 pm37 cd37 ct37 oc38 kV38 dc38 pm38 cd38 ct38 oc39 kV39 dc39 pm39 cd39 ct39 oc40 kV40 dc40 pm40 cd40 ct40 oc41 kV41 dc41 pm41 cd41 ct41 oc42 kV42 dc42 pm42 cd42 ct42 oc43 kV43 dc43 pm43 cd43 ct43 oc44 kV44 dc44 pm44 cd44 ct44 mc1 : Value}
  {t1 t2 : Tok}
  (a1 : PySem.W.nsIn K mainGlobals "is_whole" = some (some (.ref f1))) (l1 : K.lookup f1 = some ⟨oc1, od1, .func (PySem.W.fnOf "is_whole" "is_whole" (defArgs sWhole) (defBody sWhole) (defScope sWhole) .none kV1 dc1 pm1 an1 cd1 ct1), sl1⟩) (c1 : PySem.W.codeIn K cd1 "is_whole" = true) (k1 : PySem.W.keepIn K (.ref f1) = true)
  (a2 : PySem.W.nsIn K mainGlobals "is_list_of_wholes" = some (some (.ref f2))) (l2 : K.lookup f2 = some ⟨oc2, od2, .func (PySem.W.fnOf "is_list_of_wholes" "is_list_of_wholes" (defArgs sLw) (defBody sLw) (defScope sLw) .none kV2 dc2 pm2 an2 cd2 ct2), sl2⟩) (c2 : PySem.W.codeIn K cd2 "is_list_of_wholes" = true) (k2 : PySem.W.keepIn K (.ref f2) = true)
  (a3 : PySem.W.nsIn K mainGlobals "is_rising_list" = some (some (.ref f3))) (l3 : K.lookup f3 = some ⟨oc3, od3, .func (PySem.W.fnOf "is_rising_list" "is_rising_list" (defArgs sRise) (defBody sRise) (defScope sRise) .none kV3 dc3 pm3 an3 cd3 ct3), sl3⟩) (c3 : PySem.W.codeIn K cd3 "is_rising_list" = true) (k3 : PySem.W.keepIn K (.ref f3) = true)
  (a4 : PySem.W.nsIn K mainGlobals "is_plan" = some (some (.ref f4))) (l4 : K.lookup f4 = some ⟨oc4, od4, .func (PySem.W.fnOf "is_plan" "is_plan" (defArgs sIsP) (defBody sIsP) (defScope sIsP) .none kV4 dc4 pm4 an4 cd4 ct4), sl4⟩) (c4 : PySem.W.codeIn K cd4 "is_plan" = true) (k4 : PySem.W.keepIn K (.ref f4) = true)
  (a5 : PySem.W.nsIn K mainGlobals "check_plan" = some (some (.ref f5))) (l5 : K.lookup f5 = some ⟨oc5, od5, .func (PySem.W.fnOf "check_plan" "check_plan" (defArgs sCkP) (defBody sCkP) (defScope sCkP) .none kV5 dc5 pm5 an5 cd5 ct5), sl5⟩) (c5 : PySem.W.codeIn K cd5 "check_plan" = true) (k5 : PySem.W.keepIn K (.ref f5) = true)
  (a6 : PySem.W.nsIn K mainGlobals "check_number" = some (some (.ref f6))) (l6 : K.lookup f6 = some ⟨oc6, od6, .func (PySem.W.fnOf "check_number" "check_number" (defArgs sCkN) (defBody sCkN) (defScope sCkN) .none kV6 dc6 pm6 an6 cd6 ct6), sl6⟩) (c6 : PySem.W.codeIn K cd6 "check_number" = true) (k6 : PySem.W.keepIn K (.ref f6) = true)
  (a7 : PySem.W.nsIn K mainGlobals "add_up" = some (some (.ref f7))) (l7 : K.lookup f7 = some ⟨oc7, od7, .func (PySem.W.fnOf "add_up" "add_up" (defArgs sAdd) (defBody sAdd) (defScope sAdd) .none kV7 dc7 pm7 an7 cd7 ct7), sl7⟩) (c7 : PySem.W.codeIn K cd7 "add_up" = true) (k7 : PySem.W.keepIn K (.ref f7) = true)
  (a8 : PySem.W.nsIn K mainGlobals "are_partners" = some (some (.ref f8))) (l8 : K.lookup f8 = some ⟨oc8, od8, .func (PySem.W.fnOf "are_partners" "are_partners" (defArgs sAre) (defBody sAre) (defScope sAre) .none kV8 dc8 pm8 an8 cd8 ct8), sl8⟩) (c8 : PySem.W.codeIn K cd8 "are_partners" = true) (k8 : PySem.W.keepIn K (.ref f8) = true)
  (a9 : PySem.W.nsIn K mainGlobals "all_places" = some (some (.ref f9))) (l9 : K.lookup f9 = some ⟨oc9, od9, .func (PySem.W.fnOf "all_places" "all_places" (defArgs sAllP) (defBody sAllP) (defScope sAllP) .none kV9 dc9 pm9 an9 cd9 ct9), sl9⟩) (c9 : PySem.W.codeIn K cd9 "all_places" = true) (k9 : PySem.W.keepIn K (.ref f9) = true)
  (a10 : PySem.W.nsIn K mainGlobals "near_places" = some (some (.ref f10))) (l10 : K.lookup f10 = some ⟨oc10, od10, .func (PySem.W.fnOf "near_places" "near_places" (defArgs sNear) (defBody sNear) (defScope sNear) .none kV10 dc10 pm10 an10 cd10 ct10), sl10⟩) (c10 : PySem.W.codeIn K cd10 "near_places" = true) (k10 : PySem.W.keepIn K (.ref f10) = true)
  (a11 : PySem.W.nsIn K mainGlobals "numbers_at" = some (some (.ref f11))) (l11 : K.lookup f11 = some ⟨oc11, od11, .func (PySem.W.fnOf "numbers_at" "numbers_at" (defArgs sNums) (defBody sNums) (defScope sNums) .none kV11 dc11 pm11 an11 cd11 ct11), sl11⟩) (c11 : PySem.W.codeIn K cd11 "numbers_at" = true) (k11 : PySem.W.keepIn K (.ref f11) = true)
  (a12 : PySem.W.nsIn K mainGlobals "are_neighbours" = some (some (.ref f12))) (l12 : K.lookup f12 = some ⟨oc12, od12, .func (PySem.W.fnOf "are_neighbours" "are_neighbours" (defArgs sNb) (defBody sNb) (defScope sNb) .none kV12 dc12 pm12 an12 cd12 ct12), sl12⟩) (c12 : PySem.W.codeIn K cd12 "are_neighbours" = true) (k12 : PySem.W.keepIn K (.ref f12) = true)
  (a13 : PySem.W.nsIn K mainGlobals "holds_all" = some (some (.ref f13))) (l13 : K.lookup f13 = some ⟨oc13, od13, .func (PySem.W.fnOf "holds_all" "holds_all" (defArgs sHo) (defBody sHo) (defScope sHo) .none kV13 dc13 pm13 an13 cd13 ct13), sl13⟩) (c13 : PySem.W.codeIn K cd13 "holds_all" = true) (k13 : PySem.W.keepIn K (.ref f13) = true)
  (a14 : PySem.W.nsIn K mainGlobals "is_row" = some (some (.ref f14))) (l14 : K.lookup f14 = some ⟨oc14, od14, .func (PySem.W.fnOf "is_row" "is_row" (defArgs sIsR) (defBody sIsR) (defScope sIsR) .none kV14 dc14 pm14 an14 cd14 ct14), sl14⟩) (c14 : PySem.W.codeIn K cd14 "is_row" = true) (k14 : PySem.W.keepIn K (.ref f14) = true)
  (a15 : PySem.W.nsIn K mainGlobals "first_from" = some (some (.ref f15))) (l15 : K.lookup f15 = some ⟨oc15, od15, .func (PySem.W.fnOf "first_from" "first_from" (defArgs sFrom) (defBody sFrom) (defScope sFrom) .none kV15 dc15 pm15 an15 cd15 ct15), sl15⟩) (c15 : PySem.W.codeIn K cd15 "first_from" = true) (k15 : PySem.W.keepIn K (.ref f15) = true)
  (a16 : PySem.W.nsIn K mainGlobals "first_row" = some (some (.ref f16))) (l16 : K.lookup f16 = some ⟨oc16, od16, .func (PySem.W.fnOf "first_row" "first_row" (defArgs sFRow) (defBody sFRow) (defScope sFRow) .none kV16 dc16 pm16 an16 cd16 ct16), sl16⟩) (c16 : PySem.W.codeIn K cd16 "first_row" = true) (k16 : PySem.W.keepIn K (.ref f16) = true)
  (a17 : PySem.W.nsIn K mainGlobals "tally_of_rows" = some (some (.ref f17))) (l17 : K.lookup f17 = some ⟨oc17, od17, .func (PySem.W.fnOf "tally_of_rows" "tally_of_rows" (defArgs sTr) (defBody sTr) (defScope sTr) .none kV17 dc17 pm17 an17 cd17 ct17), sl17⟩) (c17 : PySem.W.codeIn K cd17 "tally_of_rows" = true) (k17 : PySem.W.keepIn K (.ref f17) = true)
  (a18 : PySem.W.nsIn K mainGlobals "count_rows" = some (some (.ref f18))) (l18 : K.lookup f18 = some ⟨oc18, od18, .func (PySem.W.fnOf "count_rows" "count_rows" (defArgs sCr) (defBody sCr) (defScope sCr) .none kV18 dc18 pm18 an18 cd18 ct18), sl18⟩) (c18 : PySem.W.codeIn K cd18 "count_rows" = true) (k18 : PySem.W.keepIn K (.ref f18) = true)
  (a19 : PySem.W.nsIn K mainGlobals "count_rings" = some (some (.ref f19))) (l19 : K.lookup f19 = some ⟨oc19, od19, .func (PySem.W.fnOf "count_rings" "count_rings" (defArgs sCg) (defBody sCg) (defScope sCg) .none kV19 dc19 pm19 an19 cd19 ct19), sl19⟩) (c19 : PySem.W.codeIn K cd19 "count_rings" = true) (k19 : PySem.W.keepIn K (.ref f19) = true)
  (a20 : PySem.W.nsIn K mainGlobals "count_between" = some (some (.ref f20))) (l20 : K.lookup f20 = some ⟨oc20, od20, .func (PySem.W.fnOf "count_between" "count_between" (defArgs sCb) (defBody sCb) (defScope sCb) .none kV20 dc20 pm20 an20 cd20 ct20), sl20⟩) (c20 : PySem.W.codeIn K cd20 "count_between" = true) (k20 : PySem.W.keepIn K (.ref f20) = true)
  (a21 : PySem.W.nsIn K mainGlobals "row_by" = some (some (.ref f21))) (l21 : K.lookup f21 = some ⟨oc21, od21, .func (PySem.W.fnOf "row_by" "row_by" (defArgs sRb) (defBody sRb) (defScope sRb) .none kV21 dc21 pm21 an21 cd21 ct21), sl21⟩) (c21 : PySem.W.codeIn K cd21 "row_by" = true) (k21 : PySem.W.keepIn K (.ref f21) = true)
  (a22 : PySem.W.nsIn K mainGlobals "number_of" = some (some (.ref f22))) (l22 : K.lookup f22 = some ⟨oc22, od22, .func (PySem.W.fnOf "number_of" "number_of" (defArgs sNo) (defBody sNo) (defScope sNo) .none kV22 dc22 pm22 an22 cd22 ct22), sl22⟩) (c22 : PySem.W.codeIn K cd22 "number_of" = true) (k22 : PySem.W.keepIn K (.ref f22) = true)
  (a23 : PySem.W.nsIn K mainGlobals "_law_draws" = some (some (.ref f23))) (l23 : K.lookup f23 = some ⟨oc23, od23, .func (PySem.W.fnOf "_law_draws" "_law_draws" (defArgs sDs) (defBody sDs) (defScope sDs) .none kV23 dc23 pm23 an23 cd23 ct23), sl23⟩) (c23 : PySem.W.codeIn K cd23 "_law_draws" = true) (k23 : PySem.W.keepIn K (.ref f23) = true)
  (a24 : PySem.W.nsIn K mainGlobals "_law_take" = some (some (.ref f24))) (l24 : K.lookup f24 = some ⟨oc24, od24, .func (PySem.W.fnOf "_law_take" "_law_take" (defArgs sTk) (defBody sTk) (defScope sTk) .none kV24 dc24 pm24 an24 cd24 ct24), sl24⟩) (c24 : PySem.W.codeIn K cd24 "_law_take" = true) (k24 : PySem.W.keepIn K (.ref f24) = true)
  (a25 : PySem.W.nsIn K mainGlobals "_law_numbers" = some (some (.ref f25))) (l25 : K.lookup f25 = some ⟨oc25, od25, .func (PySem.W.fnOf "_law_numbers" "_law_numbers" (defArgs sNu) (defBody sNu) (defScope sNu) .none kV25 dc25 pm25 an25 cd25 ct25), sl25⟩) (c25 : PySem.W.codeIn K cd25 "_law_numbers" = true) (k25 : PySem.W.keepIn K (.ref f25) = true)
  (a26 : PySem.W.nsIn K mainGlobals "_law_plan" = some (some (.ref f26))) (l26 : K.lookup f26 = some ⟨oc26, od26, .func (PySem.W.fnOf "_law_plan" "_law_plan" (defArgs sSp) (defBody sSp) (defScope sSp) .none kV26 dc26 pm26 an26 cd26 ct26), sl26⟩) (c26 : PySem.W.codeIn K cd26 "_law_plan" = true) (k26 : PySem.W.keepIn K (.ref f26) = true)
  (a27 : PySem.W.nsIn K mainGlobals "_law_between_right" = some (some (.ref f27))) (l27 : K.lookup f27 = some ⟨oc27, od27, .func (PySem.W.fnOf "_law_between_right" "_law_between_right" (defArgs sBet) (defBody sBet) (defScope sBet) .none kV27 dc27 pm27 an27 cd27 ct27), sl27⟩) (c27 : PySem.W.codeIn K cd27 "_law_between_right" = true) (k27 : PySem.W.keepIn K (.ref f27) = true)
  (a28 : PySem.W.nsIn K mainGlobals "_law_rows_right" = some (some (.ref f28))) (l28 : K.lookup f28 = some ⟨oc28, od28, .func (PySem.W.fnOf "_law_rows_right" "_law_rows_right" (defArgs sRri) (defBody sRri) (defScope sRri) .none kV28 dc28 pm28 an28 cd28 ct28), sl28⟩) (c28 : PySem.W.codeIn K cd28 "_law_rows_right" = true) (k28 : PySem.W.keepIn K (.ref f28) = true)
  (a29 : PySem.W.nsIn K mainGlobals "law" = some (some (.ref f29))) (l29 : K.lookup f29 = some ⟨oc29, od29, .func (PySem.W.fnOf "law" "law" (defArgs sLaw) (defBody sLaw) (defScope sLaw) .none kV29 dc29 pm29 an29 cd29 ct29), sl29⟩) (c29 : PySem.W.codeIn K cd29 "law" = true) (k29 : PySem.W.keepIn K (.ref f29) = true)
  (aC1 : PySem.W.nsIn K mainGlobals "Search" = some (some (.ref C1))) (pg1 : PySem.W.plainGet K C1 Str.empty = true) (hd1 : PySem.W.hasDictIn K C1 = true) (po1 : PySem.W.plainOver K C1 = true) (sa1 : PySem.W.findIn K (.ref C1) "__setattr__" = some (some (.builtin "object.__setattr__"))) (mk1 : PySem.W.makesIn K C1 = true) (kc1 : PySem.W.keepIn K (.ref C1) = true)
  (nn1_1 : PySem.W.findIn K (.ref C1) "ahead" = some none)
  (nn1_2 : PySem.W.findIn K (.ref C1) "near" = some none)
  (nn1_3 : PySem.W.findIn K (.ref C1) "whole" = some none)
  (nn1_4 : PySem.W.findIn K (.ref C1) "last_places" = some none)
  (nn1_5 : PySem.W.findIn K (.ref C1) "onward" = some none)
  (aC2 : PySem.W.nsIn K mainGlobals "Tally" = some (some (.ref C2))) (pg2 : PySem.W.plainGet K C2 Str.empty = true) (hd2 : PySem.W.hasDictIn K C2 = true) (po2 : PySem.W.plainOver K C2 = true) (sa2 : PySem.W.findIn K (.ref C2) "__setattr__" = some (some (.builtin "object.__setattr__"))) (mk2 : PySem.W.makesIn K C2 = true) (kc2 : PySem.W.keepIn K (.ref C2) = true)
  (nn2_1 : PySem.W.findIn K (.ref C2) "ahead" = some none)
  (nn2_2 : PySem.W.findIn K (.ref C2) "near" = some none)
  (nn2_3 : PySem.W.findIn K (.ref C2) "whole" = some none)
  (nn2_4 : PySem.W.findIn K (.ref C2) "last_places" = some none)
  (nn2_5 : PySem.W.findIn K (.ref C2) "known" = some none)
  (aB1 : PySem.W.nsIn K mainGlobals "Steps" = some (some (.ref B1))) (ty1 : PySem.W.typeIn K (.ref B1) = some mc1) (ga1 : PySem.W.specialIn K (.ref B1) "__getattribute__" = some (some (.builtin "type.__getattribute__"))) (rd1 : PySem.W.readsIn K B1 mc1 = true)
  (a30 : PySem.W.findIn K (.ref C1) "__init__" = some (some (.ref f30))) (i30 : PySem.W.isFn K (.ref f30) = true) (l30 : K.lookup f30 = some ⟨oc30, od30, .func (PySem.W.fnOf "__init__" "Search.__init__" (defArgs sIni) (defBody sIni) (defScope sIni) .none kV30 dc30 pm30 an30 cd30 ct30), sl30⟩) (c30 : PySem.W.codeIn K cd30 "Search.__init__" = true) (k30 : PySem.W.keepIn K (.ref f30) = true)
  (a31 : PySem.W.findIn K (.ref C1) "can_end" = some (some (.ref f31))) (i31 : PySem.W.isFn K (.ref f31) = true) (l31 : K.lookup f31 = some ⟨oc31, od31, .func (PySem.W.fnOf "can_end" "Search.can_end" (defArgs sCan) (defBody sCan) (defScope sCan) .none kV31 dc31 pm31 an31 cd31 ct31), sl31⟩) (c31 : PySem.W.codeIn K cd31 "Search.can_end" = true) (k31 : PySem.W.keepIn K (.ref f31) = true)
  (a32 : PySem.W.findIn K (.ref C1) "first_step" = some (some (.ref f32))) (i32 : PySem.W.isFn K (.ref f32) = true) (l32 : K.lookup f32 = some ⟨oc32, od32, .func (PySem.W.fnOf "first_step" "Search.first_step" (defArgs sFst) (defBody sFst) (defScope sFst) .none kV32 dc32 pm32 an32 cd32 ct32), sl32⟩) (c32 : PySem.W.codeIn K cd32 "Search.first_step" = true) (k32 : PySem.W.keepIn K (.ref f32) = true)
  (a33 : PySem.W.findIn K (.ref C1) "found_places" = some (some (.ref f33))) (i33 : PySem.W.isFn K (.ref f33) = true) (l33 : K.lookup f33 = some ⟨oc33, od33, .func (PySem.W.fnOf "found_places" "Search.found_places" (defArgs sFnd) (defBody sFnd) (defScope sFnd) .none kV33 dc33 pm33 an33 cd33 ct33), sl33⟩) (c33 : PySem.W.codeIn K cd33 "Search.found_places" = true) (k33 : PySem.W.keepIn K (.ref f33) = true)
  (a34 : PySem.W.findIn K (.ref C1) "steps" = some (some (.ref f34))) (i34 : PySem.W.isFn K (.ref f34) = true) (l34 : K.lookup f34 = some ⟨oc34, od34, .func (PySem.W.fnOf "steps" "Steps.steps" (defArgs sSteps) (defBody sSteps) (defScope sSteps) .none kV34 dc34 pm34 an34 cd34 ct34), sl34⟩) (c34 : PySem.W.codeIn K cd34 "Steps.steps" = true) (k34 : PySem.W.keepIn K (.ref f34) = true)
  (a35 : PySem.W.findIn K (.ref C2) "__init__" = some (some (.ref f35))) (i35 : PySem.W.isFn K (.ref f35) = true) (l35 : K.lookup f35 = some ⟨oc35, od35, .func (PySem.W.fnOf "__init__" "Tally.__init__" (defArgs sTIn) (defBody sTIn) (defScope sTIn) .none kV35 dc35 pm35 an35 cd35 ct35), sl35⟩) (c35 : PySem.W.codeIn K cd35 "Tally.__init__" = true) (k35 : PySem.W.keepIn K (.ref f35) = true)
  (a36 : PySem.W.findIn K (.ref C2) "ways" = some (some (.ref f36))) (i36 : PySem.W.isFn K (.ref f36) = true) (l36 : K.lookup f36 = some ⟨oc36, od36, .func (PySem.W.fnOf "ways" "Tally.ways" (defArgs sWy) (defBody sWy) (defScope sWy) .none kV36 dc36 pm36 an36 cd36 ct36), sl36⟩) (c36 : PySem.W.codeIn K cd36 "Tally.ways" = true) (k36 : PySem.W.keepIn K (.ref f36) = true)
  (a37 : PySem.W.findIn K (.ref C2) "ways_by" = some (some (.ref f37))) (i37 : PySem.W.isFn K (.ref f37) = true) (l37 : K.lookup f37 = some ⟨oc37, od37, .func (PySem.W.fnOf "ways_by" "Tally.ways_by" (defArgs sWb) (defBody sWb) (defScope sWb) .none kV37 dc37 pm37 an37 cd37 ct37), sl37⟩) (c37 : PySem.W.codeIn K cd37 "Tally.ways_by" = true) (k37 : PySem.W.keepIn K (.ref f37) = true)
  (a38 : PySem.W.findIn K (.ref C2) "all_ways" = some (some (.ref f38))) (i38 : PySem.W.isFn K (.ref f38) = true) (l38 : K.lookup f38 = some ⟨oc38, od38, .func (PySem.W.fnOf "all_ways" "Tally.all_ways" (defArgs sAw) (defBody sAw) (defScope sAw) .none kV38 dc38 pm38 an38 cd38 ct38), sl38⟩) (c38 : PySem.W.codeIn K cd38 "Tally.all_ways" = true) (k38 : PySem.W.keepIn K (.ref f38) = true)
  (a39 : PySem.W.findIn K (.ref C2) "ways_ahead" = some (some (.ref f39))) (i39 : PySem.W.isFn K (.ref f39) = true) (l39 : K.lookup f39 = some ⟨oc39, od39, .func (PySem.W.fnOf "ways_ahead" "Tally.ways_ahead" (defArgs sWah) (defBody sWah) (defScope sWah) .none kV39 dc39 pm39 an39 cd39 ct39), sl39⟩) (c39 : PySem.W.codeIn K cd39 "Tally.ways_ahead" = true) (k39 : PySem.W.keepIn K (.ref f39) = true)
  (a40 : PySem.W.findIn K (.ref C2) "step_by" = some (some (.ref f40))) (i40 : PySem.W.isFn K (.ref f40) = true) (l40 : K.lookup f40 = some ⟨oc40, od40, .func (PySem.W.fnOf "step_by" "Tally.step_by" (defArgs sSb) (defBody sSb) (defScope sSb) .none kV40 dc40 pm40 an40 cd40 ct40), sl40⟩) (c40 : PySem.W.codeIn K cd40 "Tally.step_by" = true) (k40 : PySem.W.keepIn K (.ref f40) = true)
  (a41 : PySem.W.findIn K (.ref C2) "places_by" = some (some (.ref f41))) (i41 : PySem.W.isFn K (.ref f41) = true) (l41 : K.lookup f41 = some ⟨oc41, od41, .func (PySem.W.fnOf "places_by" "Tally.places_by" (defArgs sPb) (defBody sPb) (defScope sPb) .none kV41 dc41 pm41 an41 cd41 ct41), sl41⟩) (c41 : PySem.W.codeIn K cd41 "Tally.places_by" = true) (k41 : PySem.W.keepIn K (.ref f41) = true)
  (a42 : PySem.W.findIn K (.ref C2) "number_at" = some (some (.ref f42))) (i42 : PySem.W.isFn K (.ref f42) = true) (l42 : K.lookup f42 = some ⟨oc42, od42, .func (PySem.W.fnOf "number_at" "Tally.number_at" (defArgs sNa) (defBody sNa) (defScope sNa) .none kV42 dc42 pm42 an42 cd42 ct42), sl42⟩) (c42 : PySem.W.codeIn K cd42 "Tally.number_at" = true) (k42 : PySem.W.keepIn K (.ref f42) = true)
  (a43 : PySem.W.findIn K (.ref C2) "steps" = some (some (.ref f43))) (i43 : PySem.W.isFn K (.ref f43) = true) (l43 : K.lookup f43 = some ⟨oc43, od43, .func (PySem.W.fnOf "steps" "Steps.steps" (defArgs sSteps) (defBody sSteps) (defScope sSteps) .none kV43 dc43 pm43 an43 cd43 ct43), sl43⟩) (c43 : PySem.W.codeIn K cd43 "Steps.steps" = true) (k43 : PySem.W.keepIn K (.ref f43) = true)
  (a44 : PySem.W.findCls K (.ref B1) mc1 "__init__" = some (.val (.ref f44))) (i44 : PySem.W.isFn K (.ref f44) = true) (l44 : K.lookup f44 = some ⟨oc44, od44, .func (PySem.W.fnOf "__init__" "Steps.__init__" (defArgs sIni0) (defBody sIni0) (defScope sIni0) .none kV44 dc44 pm44 an44 cd44 ct44), sl44⟩) (c44 : PySem.W.codeIn K cd44 "Steps.__init__" = true) (k44 : PySem.W.keepIn K (.ref f44) = true)
  (m1 : PySem.W.nsIn K mainGlobals "MOST" = some (some (.int 10 t1)))
  (m2 : PySem.W.nsIn K mainGlobals "FEWEST_IN_RING" = some (some (.int 3 t2)))
  (z1 : PySem.W.nsIn K mainGlobals "len" = some none)
  (z2 : PySem.W.nsIn K mainGlobals "max" = some none)
  (z3 : PySem.W.nsIn K mainGlobals "min" = some none)
  (z4 : PySem.W.nsIn K mainGlobals "range" = some none)
  (z5 : PySem.W.nsIn K mainGlobals "list" = some none)
  (z6 : PySem.W.nsIn K mainGlobals "int" = some none)
  (z7 : PySem.W.nsIn K mainGlobals "all" = some none)
  (z8 : PySem.W.nsIn K mainGlobals "isinstance" = some none)
  (z9 : PySem.W.nsIn K mainGlobals "bool" = some none)
  (z10 : PySem.W.nsIn K mainGlobals "str" = some none)
  (z11 : PySem.W.nsIn K mainGlobals "tuple" = some none)
  (z12 : PySem.W.nsIn K mainGlobals "sorted" = some none)
  (z13 : PySem.W.nsIn K mainGlobals "enumerate" = some none)
  (z14 : PySem.W.nsIn K mainGlobals "zip" = some none)
  (z15 : PySem.W.nsIn K mainGlobals "sum" = some none)
  (z16 : PySem.W.nsIn K mainGlobals "abs" = some none)
  (z17 : PySem.W.nsIn K mainGlobals "set" = some none)
  : ∃ fd : FuncData, (∀ (s : Shared) (v : Value), BindsTo s fd ⟨[v], []⟩ [("script", v)]) ∧ ∀ base : Heap, K.In base → base.Ns mainGlobals mg → FnOk l.prog w K mg base CX0 28 fa fd ["script"] (spLaw K) := by
 have e := hfa.symm.trans (PySem.W.mg_of X G a29)
 cases e
 have M : ∀ (x : Str) (v : Value), PySem.W.nsIn K mainGlobals x = some (some v) → mg x = some v := fun x v h => PySem.W.mg_of X G h
 have zb : ∀ x : Str, PySem.W.nsIn K mainGlobals x = some none → mg x = none := fun x h => PySem.W.mg_none_of X G h
 have F1 := fun_mk (st := sWhole) l1 c1 k1
 have b1 := F1.binds (ps := ["thing"]) fun _ _ _ _ _ _ us hl => match us, hl with | [_], _ => rfl
 have F2 := fun_mk (st := sLw) l2 c2 k2
 have b2 := F2.binds (ps := ["thing"]) fun _ _ _ _ _ _ us hl => match us, hl with | [_], _ => rfl
 have F3 := fun_mk (st := sRise) l3 c3 k3
 have b3 := F3.binds (ps := ["thing", "fewest"]) fun _ _ _ _ _ _ us hl => match us, hl with | [_, _], _ => rfl
 have F4 := fun_mk (st := sIsP) l4 c4 k4
 have b4 := F4.binds (ps := ["thing"]) fun _ _ _ _ _ _ us hl => match us, hl with | [_], _ => rfl
 have F5 := fun_mk (st := sCkP) l5 c5 k5
 have b5 := F5.binds (ps := ["plan"]) fun _ _ _ _ _ _ us hl => match us, hl with | [_], _ => rfl
 have F6 := fun_mk (st := sCkN) l6 c6 k6
 have b6 := F6.binds (ps := ["plan", "number"]) fun _ _ _ _ _ _ us hl => match us, hl with | [_, _], _ => rfl
 have F7 := fun_mk (st := sAdd) l7 c7 k7
 have b7 := F7.binds (ps := ["plan", "one", "other"]) fun _ _ _ _ _ _ us hl => match us, hl with | [_, _, _], _ => rfl
 have F8 := fun_mk (st := sAre) l8 c8 k8
 have b8 := F8.binds (ps := ["plan", "one", "other"]) fun _ _ _ _ _ _ us hl => match us, hl with | [_, _, _], _ => rfl
 have F9 := fun_mk (st := sAllP) l9 c9 k9
 have b9 := F9.binds (ps := ["plan"]) fun _ _ _ _ _ _ us hl => match us, hl with | [_], _ => rfl
 have F10 := fun_mk (st := sNear) l10 c10 k10
 have b10 := F10.binds (ps := ["plan", "number"]) fun _ _ _ _ _ _ us hl => match us, hl with | [_, _], _ => rfl
 have F11 := fun_mk (st := sNums) l11 c11 k11
 have b11 := F11.binds (ps := ["plan", "places"]) fun _ _ _ _ _ _ us hl => match us, hl with | [_, _], _ => rfl
 have F12 := fun_mk (st := sNb) l12 c12 k12
 have b12 := F12.binds (ps := ["plan", "numbers"]) fun _ _ _ _ _ _ us hl => match us, hl with | [_, _], _ => rfl
 have F13 := fun_mk (st := sHo) l13 c13 k13
 have b13 := F13.binds (ps := ["plan", "thing"]) fun _ _ _ _ _ _ us hl => match us, hl with | [_, _], _ => rfl
 have F14 := fun_mk (st := sIsR) l14 c14 k14
 have b14 := F14.binds (ps := ["plan", "thing"]) fun _ _ _ _ _ _ us hl => match us, hl with | [_, _], _ => rfl
 have F15 := fun_mk (st := sFrom) l15 c15 k15
 have b15 := F15.binds (ps := ["plan", "first_places", "last_places"]) fun _ _ _ _ _ _ us hl => match us, hl with | [_, _, _], _ => rfl
 have F16 := fun_mk (st := sFRow) l16 c16 k16
 have b16 := F16.binds (ps := ["plan"]) fun _ _ _ _ _ _ us hl => match us, hl with | [_], _ => rfl
 have F17 := fun_mk (st := sTr) l17 c17 k17
 have b17 := F17.binds (ps := ["plan"]) fun _ _ _ _ _ _ us hl => match us, hl with | [_], _ => rfl
 have F18 := fun_mk (st := sCr) l18 c18 k18
 have b18 := F18.binds (ps := ["plan"]) fun _ _ _ _ _ _ us hl => match us, hl with | [_], _ => rfl
 have F19 := fun_mk (st := sCg) l19 c19 k19
 have b19 := F19.binds (ps := ["plan"]) fun _ _ _ _ _ _ us hl => match us, hl with | [_], _ => rfl
 have F20 := fun_mk (st := sCb) l20 c20 k20
 have b20 := F20.binds (ps := ["plan", "one", "other"]) fun _ _ _ _ _ _ us hl => match us, hl with | [_, _, _], _ => rfl
 have F21 := fun_mk (st := sRb) l21 c21 k21
 have b21 := F21.binds (ps := ["plan", "number"]) fun _ _ _ _ _ _ us hl => match us, hl with | [_, _], _ => rfl
 have F22 := fun_mk (st := sNo) l22 c22 k22
 have b22 := F22.binds (ps := ["plan", "thing"]) fun _ _ _ _ _ _ us hl => match us, hl with | [_, _], _ => rfl
 have F23 := fun_mk (st := sDs) l23 c23 k23
 have b23 := F23.binds (ps := ["script", "many"]) fun _ _ _ _ _ _ us hl => match us, hl with | [_, _], _ => rfl
 have F24 := fun_mk (st := sTk) l24 c24 k24
 have b24 := F24.binds (ps := ["store", "many"]) fun _ _ _ _ _ _ us hl => match us, hl with | [_, _], _ => rfl
 have F25 := fun_mk (st := sNu) l25 c25 k25
 have b25 := F25.binds (ps := ["store", "many"]) fun _ _ _ _ _ _ us hl => match us, hl with | [_, _], _ => rfl
 have F26 := fun_mk (st := sSp) l26 c26 k26
 have b26 := F26.binds (ps := ["store"]) fun _ _ _ _ _ _ us hl => match us, hl with | [_], _ => rfl
 have F27 := fun_mk (st := sBet) l27 c27 k27
 have b27 := F27.binds (ps := ["plan"]) fun _ _ _ _ _ _ us hl => match us, hl with | [_], _ => rfl
 have F28 := fun_mk (st := sRri) l28 c28 k28
 have b28 := F28.binds (ps := ["store", "plan", "many"]) fun _ _ _ _ _ _ us hl => match us, hl with | [_, _, _], _ => rfl
 have F29 := fun_mk (st := sLaw) l29 c29 k29
 have b29 := F29.binds (ps := ["script"]) fun _ _ _ _ _ _ us hl => match us, hl with | [_], _ => rfl
 have F30 := fun_mk (st := sIni) l30 c30 k30
 have b30 := F30.binds (ps := ["self", "plan", "first_places", "last_places"]) fun _ _ _ _ _ _ us hl => match us, hl with | [_, _, _, _], _ => rfl
 have F31 := fun_mk (st := sCan) l31 c31 k31
 have b31 := F31.binds (ps := ["self", "left", "end"]) fun _ _ _ _ _ _ us hl => match us, hl with | [_, _, _], _ => rfl
 have F32 := fun_mk (st := sFst) l32 c32 k32
 have b32 := F32.binds (ps := ["self", "left", "end"]) fun _ _ _ _ _ _ us hl => match us, hl with | [_, _, _], _ => rfl
 have F33 := fun_mk (st := sFnd) l33 c33 k33
 have b33 := F33.binds (ps := ["self"]) fun _ _ _ _ _ _ us hl => match us, hl with | [_], _ => rfl
 have F34 := fun_mk (st := sSteps) l34 c34 k34
 have b34 := F34.binds (ps := ["self", "left", "end"]) fun _ _ _ _ _ _ us hl => match us, hl with | [_, _, _], _ => rfl
 have F35 := fun_mk (st := sTIn) l35 c35 k35
 have b35 := F35.binds (ps := ["self", "plan", "first_places", "last_places"]) fun _ _ _ _ _ _ us hl => match us, hl with | [_, _, _, _], _ => rfl
 have F36 := fun_mk (st := sWy) l36 c36 k36
 have b36 := F36.binds (ps := ["self", "left", "end"]) fun _ _ _ _ _ _ us hl => match us, hl with | [_, _, _], _ => rfl
 have F37 := fun_mk (st := sWb) l37 c37 k37
 have b37 := F37.binds (ps := ["self", "left", "place"]) fun _ _ _ _ _ _ us hl => match us, hl with | [_, _, _], _ => rfl
 have F38 := fun_mk (st := sAw) l38 c38 k38
 have b38 := F38.binds (ps := ["self"]) fun _ _ _ _ _ _ us hl => match us, hl with | [_], _ => rfl
 have F39 := fun_mk (st := sWah) l39 c39 k39
 have b39 := F39.binds (ps := ["self", "left", "end", "place"]) fun _ _ _ _ _ _ us hl => match us, hl with | [_, _, _, _], _ => rfl
 have F40 := fun_mk (st := sSb) l40 c40 k40
 have b40 := F40.binds (ps := ["self", "left", "end", "number"]) fun _ _ _ _ _ _ us hl => match us, hl with | [_, _, _, _], _ => rfl
 have F41 := fun_mk (st := sPb) l41 c41 k41
 have b41 := F41.binds (ps := ["self", "number"]) fun _ _ _ _ _ _ us hl => match us, hl with | [_, _], _ => rfl
 have F42 := fun_mk (st := sNa) l42 c42 k42
 have b42 := F42.binds (ps := ["self", "places"]) fun _ _ _ _ _ _ us hl => match us, hl with | [_, _], _ => rfl
 have F43 := fun_mk (st := sSteps) l43 c43 k43
 have b43 := F43.binds (ps := ["self", "left", "end"]) fun _ _ _ _ _ _ us hl => match us, hl with | [_, _, _], _ => rfl
 have F44 := fun_mk (st := sIni0) l44 c44 k44
 have b44 := F44.binds (ps := ["self", "plan", "first_places"]) fun _ _ _ _ _ _ us hl => match us, hl with | [_, _, _], _ => rfl
 refine ⟨PySem.W.fnOf "law" "law" (defArgs sLaw) (defBody sLaw) (defScope sLaw) .none kV29 dc29 pm29 an29 cd29 ct29, fun s v => .of_eq rfl, fun base _ _ => ?_⟩
 have B4 : Bt4 mg := { len := zb "len" z1, max := zb "max" z2, min := zb "min" z3, range := zb "range" z4, list := zb "list" z5, int := zb "int" z6, all := zb "all" z7, isinstance := zb "isinstance" z8, bool := zb "bool" z9, str := zb "str" z10, tuple := zb "tuple" z11, sorted := zb "sorted" z12, enumerate := zb "enumerate" z13, zip := zb "zip" z14, sum := zb "sum" z15 }
 have B := B4.toBt3
 have BA : BtA mg := { B with abs := zb "abs" z16 }
 have TS : SrT2 K C1 := { cl := ⟨pg1, hd1, po1, sa1⟩, nA := nn1_1, nN := nn1_2, nW := nn1_3, nL := nn1_4, nO := nn1_5 }
 have T : TyT K C2 := { cl := ⟨pg2, hd2, po2, sa2⟩, nA := nn2_1, nN := nn2_2, nW := nn2_3, nL := nn2_4, nK := nn2_5 }
 have OW := ok_whole (P := l.prog) (w := w) (base := base) F1 B.toBt2
 have OR := ok_rise F3 B.toBt2 (M _ _ m1) OW b1 k1 (M _ _ a1)
 have OI := ok_isP F4 B.toBt2 OR b3 k3 (M _ _ a3)
 have OC := ok_ckP F5 OI b4 k4 (M _ _ a4)
 have OA := ok_add (P := l.prog) (w := w) (mg := mg) (base := base) F7
 have OAP := ok_allP (P := l.prog) (w := w) (base := base) F9 B
 have ON := ok_near F10 B OA b7 k7 (M _ _ a7)
 have ONM := ok_nums (P := l.prog) (w := w) (mg := mg) (base := base) F11
 have OI0 := ok_ini0 F44 B T.toSrT ON b10 k10 (M _ _ a10)
 have OTI := ok_tin F35 B T ⟨ga1, rd1, a44, k44⟩ (M _ _ aB1) OI0 b44
 have OST := ok_steps (P := l.prog) (w := w) (mg := mg) (base := base) F43 T.toSrT
 have OWY := ok_ways F36 F37 B4 T ⟨a36, i36, k36⟩ ⟨a37, i37, k37⟩ ⟨a43, i43, k43⟩ OST b43 b36 b37 10
 have OWB := ok_wb F37 T ⟨a36, i36, k36⟩ (ok_ways F36 F37 B4 T ⟨a36, i36, k36⟩ ⟨a37, i37, k37⟩ ⟨a43, i43, k43⟩ OST b43 b36 b37 9) b36
 have OAW := ok_aw F38 T ⟨a36, i36, k36⟩ OWY b36
 have OWA := ok_wah F39 B4 T ⟨a37, i37, k37⟩ ⟨a43, i43, k43⟩ (OWB.mono (by decide : 21 ≤ 22)) b37 (OST.mono (by decide)) b43
 have OSB := ok_sb F40 T ⟨a39, i39, k39⟩ ⟨a43, i43, k43⟩ OWA b39 (OST.mono (by decide)) b43
 have OPB := ok_pb F41 T ⟨a39, i39, k39⟩ ⟨a40, i40, k40⟩ (OWA.mono (by decide)) b39 OSB b40
 have ONA := ok_na F42 T ⟨a39, i39, k39⟩ OWA b39
 have OTR := ok_tr F17 ⟨mk2, a35, i35, kc2⟩ (M _ _ aC2) OTI b35 (OAP.mono (by decide)) b9 k9 (M _ _ a9)
 have OCR := ok_cr F18 T ⟨a38, i38, k38⟩ OAW b38 (OC.mono (by decide)) b5 k5 (M _ _ a5) (OTR.mono (by decide)) b17 k17 (M _ _ a17)
 have OCG := ok_cg F19 B T (M _ _ m2) ⟨a38, i38, k38⟩ ⟨mk2, a35, i35, kc2⟩ (M _ _ aC2) (OTI.mono (by decide)) b35 OAW b38 (OC.mono (by decide)) b5 k5 (M _ _ a5) (ON.mono (by decide)) b10 k10 (M _ _ a10)
 have ORB := ok_rb F21 T ⟨a38, i38, k38⟩ ⟨a41, i41, k41⟩ (OAW.mono (by decide)) b38 OPB b41 (OC.mono (by decide)) b5 k5 (M _ _ a5) (OTR.mono (by decide)) b17 k17 (M _ _ a17) (OW.mono (by decide)) b1 k1 (M _ _ a1) (ONM.mono (by decide)) b11 k11 (M _ _ a11)
 have OL := ok_lw F2 B4 OW b1 k1 (M _ _ a1)
 have ONB := ok_nb F12 B4 OA b7 k7 (M _ _ a7)
 have OH := ok_ho F13 B4 OL b2 k2 (M _ _ a2)
 have OIR := ok_isR F14 (OC.mono (by decide)) b5 k5 (M _ _ a5) (OH.mono (by decide)) b13 k13 (M _ _ a13) (ONB.mono (by decide)) b12 k12 (M _ _ a12)
 have ONO := ok_noI F22 T ⟨a42, i42, k42⟩ ONA b42 (OIR.mono (by decide)) b14 k14 (M _ _ a14) (OTR.mono (by decide)) b17 k17 (M _ _ a17)
 have OI1 := ok_ini0 F44 B TS.toSrT ON b10 k10 (M _ _ a10)
 have OIN := ok_ini F30 B TS ⟨ga1, rd1, a44, k44⟩ (M _ _ aB1) OI1 b44
 have OSS := ok_steps (P := l.prog) (w := w) (mg := mg) (base := base) F34 TS.toSrT
 have OCA := ok_both F31 F32 TS ⟨a31, i31, k31⟩ ⟨a32, i32, k32⟩ ⟨a34, i34, k34⟩ OSS b34 b31 b32 10
 have OFN := ok_fnd (P := l.prog) (w := w) (mg := mg) (base := base) F33 TS
 have OFR := ok_from F15 TS ⟨mk1, a30, i30, kc1⟩ (M _ _ aC1) ⟨a31, i31, k31⟩ ⟨a33, i33, k33⟩ (OIN.mono (by decide)) b30 OCA b31 (OFN.mono (by decide)) b33 (ONM.mono (by decide)) b11 k11 (M _ _ a11)
 have ORW := ok_frow F16 (OC.mono (by decide)) b5 k5 (M _ _ a5) OFR b15 k15 (M _ _ a15) (OAP.mono (by decide)) b9 k9 (M _ _ a9)
 have OT := ok_tk (P := l.prog) (w := w) (base := base) F24 B
 have OD := ok_ds (P := l.prog) (w := w) (base := base) F23 BA
 have ONU := ok_nu F25 B OT b24 k24 (M _ _ a24)
 have OSP := ok_sp F26 B (OT.mono (by decide)) b24 k24 (M _ _ a24) ONU b25 k25 (M _ _ a25)
 have OCN := ok_ckN F6 OW b1 k1 (M _ _ a1)
 have OCB := ok_cb F20 T ⟨a38, i38, k38⟩ ⟨mk2, a35, i35, kc2⟩ (M _ _ aC2) (OTI.mono (by decide)) b35 OAW b38 (OC.mono (by decide)) b5 k5 (M _ _ a5) (OCN.mono (by decide)) b6 k6 (M _ _ a6)
 have OAR := ok_areI F8 OC b5 k5 (M _ _ a5) (OCN.mono (by decide)) b6 k6 (M _ _ a6) (OA.mono (by decide)) b7 k7 (M _ _ a7)
 have OBT := ok_bet F27 B4 (OCB.mono (by decide)) b20 k20 (M _ _ a20) (OAR.mono (by decide)) b8 k8 (M _ _ a8) (OCR.mono (by decide)) b18 k18 (M _ _ a18) (OCG.mono (by decide)) b19 k19 (M _ _ a19)
 have ORR := ok_rri F28 B4 (zb "set" z17) (OT.mono (by decide)) b24 k24 (M _ _ a24) (ORB.mono (by decide)) b21 k21 (M _ _ a21) (ORW.mono (by decide)) b16 k16 (M _ _ a16) (OIR.mono (by decide)) b14 k14 (M _ _ a14) (ONO.mono (by decide)) b22 k22 (M _ _ a22) (OCB.mono (by decide)) b20 k20 (M _ _ a20)
 exact ok_law F29 B4 (OD.mono (by decide)) b23 k23 (M _ _ a23) (OSP.mono (by decide)) b26 k26 (M _ _ a26) (OCR.mono (by decide)) b18 k18 (M _ _ a18) OBT b27 k27 (M _ _ a27) (ORW.mono (by decide)) b16 k16 (M _ _ a16) ORR b28 k28 (M _ _ a28)
theorem walk {l : PySem.W.OpenLaw} {q : Program} {loose : List Str} {XP : (Str → Option Value) → Heap → Prop} {YP : World → Heap → Prop} {d : DefRec} {K : Params → PySem.W.Frag} (hn : l.most = some 63) (hdf : d.params.defaults = [])
  (hY : ∀ (w : World) (h : Heap), YP w h → (K w.params).In h)
  (F : ∀ (w : World) (mg : Str → Option Value) (fa : Addr) (h : Heap), (K w.params).In h → h.Ns mainGlobals mg → mg d.name = some (.ref fa) →
   ∃ fd : FuncData, (∀ (s : Shared) (u : Value), BindsTo s fd ⟨[u], []⟩ [("script", u)]) ∧ ∀ base : Heap, (K w.params).In base → base.Ns mainGlobals mg → FnOk l.prog w (K w.params) mg base CX0 28 fa fd ["script"] (spLaw (K w.params))) :
  PySem.W.WalkO q loose XP YP l.row.toRowW d [] (fun f vs => PySem.call f vs) :=
 L2.walk_of (n := 63) (k := 28) (x := "script") (CX := fun _ => CX0) (sp := fun w => spLaw (K w.params)) hn (by decide) hdf ⟨rfl, by decide, by decide⟩ hY F (fun _ _ a ns hl _ hS => ⟨a, ns, rfl, hS, hl, fun _ => rfl⟩) fun _ _ _ _ _ z => z
end N18
def PySem.W.Fast.tw16969827920016986339 : Nat := 0
def PySem.W.Fast.tw12596203586401494053 : Nat := 0
def PySem.W.Fast.tw17599676165184866097 : Nat := 0
def PySem.W.Fast.tw14948363317498498812 : Nat := 0
def PySem.W.Fast.tw613683378456937554 : Nat := 0
def PySem.W.Fast.tw13211177511624277464 : Nat := 0
def PySem.W.Fast.tw4398787316031829923 : Nat := 0
def PySem.W.Fast.tw14206283786916297678 : Nat := 0
def PySem.W.Fast.tw17421362452457260619 : Nat := 0
def PySem.W.Fast.tw14434843267945915276 : Nat := 0
def PySem.W.Fast.tw16705627588267074931 : Nat := 0
def PySem.W.Fast.tw4152175595809511311 : Nat := 0
def PySem.W.Fast.tw17755446172634109716 : Nat := 0
def PySem.W.Fast.tw7354874104298009921 : Nat := 0
def PySem.W.Fast.tw16392686775403049783 : Nat := 0
open PySem PySem.W PyProof.Rows
set_option maxRecDepth 100000 in
set_option maxHeartbeats 0 in
theorem PySem.Challenge.cw_nearsums_k18_whole_counts_together_holds : PySem.Challenge.rw_nearsums_k18_whole_counts_together.Holds := by
 w_on; o_law; k_head; (case hw => w_witness2)
 k_fill
 refine N18.walk (l := PySem.Challenge.rw_nearsums_k18_whole_counts_together) rfl rfl (fun w h Y => PySem.W.kIn_of Y) ?F
 case F =>
  intro w mg fa h KX G hmg
  refine' N18.all_mk KX G hmg ?a1 ?l1 ?c1 ?k1 ?a2 ?l2 ?c2 ?k2 ?a3 ?l3 ?c3 ?k3 ?a4 ?l4 ?c4 ?k4 ?a5 ?l5 ?c5 ?k5 ?a6 ?l6 ?c6 ?k6 ?a7 ?l7 ?c7 ?k7 ?a8 ?l8 ?c8 ?k8 ?a9 ?l9 ?c9 ?k9 ?a10 ?l10 ?c10 ?k10 ?a11 ?l11 ?c11 ?k11 ?a12 ?l12 ?c12 ?k12 ?a13 ?l13 ?c13 ?k13 ?a14 ?l14 ?c14 ?k14 ?a15 ?l15 ?c15 ?k15 ?a16 ?l16 ?c16 ?k16 ?a17 ?l17 ?c17 ?k17 ?a18 ?l18 ?c18 ?k18 ?a19 ?l19 ?c19 ?k19 ?a20 ?l20 ?c20 ?k20 ?a21 ?l21 ?c21 ?k21 ?a22 ?l22 ?c22 ?k22 ?a23 ?l23 ?c23 ?k23 ?a24 ?l24 ?c24 ?k24 ?a25 ?l25 ?c25 ?k25 ?a26 ?l26 ?c26 ?k26 ?a27 ?l27 ?c27 ?k27 ?a28 ?l28 ?c28 ?k28 ?a29 ?l29 ?c29 ?k29 ?aC1 ?pg1 ?hd1 ?po1 ?sa1 ?mk1 ?kc1 ?nn1_1 ?nn1_2 ?nn1_3 ?nn1_4 ?nn1_5 ?aC2 ?pg2 ?hd2 ?po2 ?sa2 ?mk2 ?kc2 ?nn2_1 ?nn2_2 ?nn2_3 ?nn2_4 ?nn2_5 ?aB1 ?ty1 ?ga1 ?rd1 ?a30 ?i30 ?l30 ?c30 ?k30 ?a31 ?i31 ?l31 ?c31 ?k31 ?a32 ?i32 ?l32 ?c32 ?k32 ?a33 ?i33 ?l33 ?c33 ?k33 ?a34 ?i34 ?l34 ?c34 ?k34 ?a35 ?i35 ?l35 ?c35 ?k35 ?a36 ?i36 ?l36 ?c36 ?k36 ?a37 ?i37 ?l37 ?c37 ?k37 ?a38 ?i38 ?l38 ?c38 ?k38 ?a39 ?i39 ?l39 ?c39 ?k39 ?a40 ?i40 ?l40 ?c40 ?k40 ?a41 ?i41 ?l41 ?c41 ?k41 ?a42 ?i42 ?l42 ?c42 ?k42 ?a43 ?i43 ?l43 ?c43 ?k43 ?a44 ?i44 ?l44 ?c44 ?k44 ?m1 ?m2 ?z1 ?z2 ?z3 ?z4 ?z5 ?z6 ?z7 ?z8 ?z9 ?z10 ?z11 ?z12 ?z13 ?z14 ?z15 ?z16 ?z17
  (case a1 => k_is)
  (case l1 => k_is)
  (case c1 => k_is)
  (case k1 => k_is)
  (case a2 => k_is)
  (case l2 => k_is)
  (case c2 => k_is)
  (case k2 => k_is)
  (case a3 => k_is)
  (case l3 => k_is)
  (case c3 => k_is)
  (case k3 => k_is)
  (case a4 => k_is)
  (case l4 => k_is)
  (case c4 => k_is)
  (case k4 => k_is)
  (case a5 => k_is)
  (case l5 => k_is)
  (case c5 => k_is)
  (case k5 => k_is)
  (case a6 => k_is)
  (case l6 => k_is)
  (case c6 => k_is)
  (case k6 => k_is)
  (case a7 => k_is)
  (case l7 => k_is)
  (case c7 => k_is)
  (case k7 => k_is)
  (case a8 => k_is)
  (case l8 => k_is)
  (case c8 => k_is)
  (case k8 => k_is)
  (case a9 => k_is)
  (case l9 => k_is)
  (case c9 => k_is)
  (case k9 => k_is)
  (case a10 => k_is)
  (case l10 => k_is)
  (case c10 => k_is)
  (case k10 => k_is)
  (case a11 => k_is)
  (case l11 => k_is)
  (case c11 => k_is)
  (case k11 => k_is)
  (case a12 => k_is)
  (case l12 => k_is)
  (case c12 => k_is)
  (case k12 => k_is)
  (case a13 => k_is)
  (case l13 => k_is)
  (case c13 => k_is)
  (case k13 => k_is)
  (case a14 => k_is)
  (case l14 => k_is)
  (case c14 => k_is)
  (case k14 => k_is)
  (case a15 => k_is)
  (case l15 => k_is)
  (case c15 => k_is)
  (case k15 => k_is)
  (case a16 => k_is)
  (case l16 => k_is)
  (case c16 => k_is)
  (case k16 => k_is)
  (case a17 => k_is)
  (case l17 => k_is)
  (case c17 => k_is)
  (case k17 => k_is)
  (case a18 => k_is)
  (case l18 => k_is)
  (case c18 => k_is)
  (case k18 => k_is)
  (case a19 => k_is)
  (case l19 => k_is)
  (case c19 => k_is)
  (case k19 => k_is)
  (case a20 => k_is)
  (case l20 => k_is)
  (case c20 => k_is)
  (case k20 => k_is)
  (case a21 => k_is)
  (case l21 => k_is)
  (case c21 => k_is)
  (case k21 => k_is)
  (case a22 => k_is)
  (case l22 => k_is)
  (case c22 => k_is)
  (case k22 => k_is)
  (case a23 => k_is)
  (case l23 => k_is)
  (case c23 => k_is)
  (case k23 => k_is)
  (case a24 => k_is)
  (case l24 => k_is)
  (case c24 => k_is)
  (case k24 => k_is)
  (case a25 => k_is)
  (case l25 => k_is)
  (case c25 => k_is)
  (case k25 => k_is)
  (case a26 => k_is)
  (case l26 => k_is)
  (case c26 => k_is)
  (case k26 => k_is)
  (case a27 => k_is)
  (case l27 => k_is)
  (case c27 => k_is)
  (case k27 => k_is)
  (case a28 => k_is)
  (case l28 => k_is)
  (case c28 => k_is)
  (case k28 => k_is)
  (case a29 => k_is)
  (case l29 => k_is)
  (case c29 => k_is)
  (case k29 => k_is)
  (case aC1 => k_is)
  (case pg1 => k_is)
  (case hd1 => k_is)
  (case po1 => k_is)
  (case sa1 => k_is)
  (case mk1 => k_is)
  (case kc1 => k_is)
  (case nn1_1 => k_is)
  (case nn1_2 => k_is)
  (case nn1_3 => k_is)
  (case nn1_4 => k_is)
  (case nn1_5 => k_is)
  (case aC2 => k_is)
  (case pg2 => k_is)
  (case hd2 => k_is)
  (case po2 => k_is)
  (case sa2 => k_is)
  (case mk2 => k_is)
  (case kc2 => k_is)
  (case nn2_1 => k_is)
  (case nn2_2 => k_is)
  (case nn2_3 => k_is)
  (case nn2_4 => k_is)
  (case nn2_5 => k_is)
  (case aB1 => k_is)
  (case ty1 => k_is)
  (case ga1 => k_is)
  (case rd1 => k_is)
  (case a30 => k_is)
  (case i30 => k_is)
  (case l30 => k_is)
  (case c30 => k_is)
  (case k30 => k_is)
  (case a31 => k_is)
  (case i31 => k_is)
  (case l31 => k_is)
  (case c31 => k_is)
  (case k31 => k_is)
  (case a32 => k_is)
  (case i32 => k_is)
  (case l32 => k_is)
  (case c32 => k_is)
  (case k32 => k_is)
  (case a33 => k_is)
  (case i33 => k_is)
  (case l33 => k_is)
  (case c33 => k_is)
  (case k33 => k_is)
  (case a34 => k_is)
  (case i34 => k_is)
  (case l34 => k_is)
  (case c34 => k_is)
  (case k34 => k_is)
  (case a35 => k_is)
  (case i35 => k_is)
  (case l35 => k_is)
  (case c35 => k_is)
  (case k35 => k_is)
  (case a36 => k_is)
  (case i36 => k_is)
  (case l36 => k_is)
  (case c36 => k_is)
  (case k36 => k_is)
  (case a37 => k_is)
  (case i37 => k_is)
  (case l37 => k_is)
  (case c37 => k_is)
  (case k37 => k_is)
  (case a38 => k_is)
  (case i38 => k_is)
  (case l38 => k_is)
  (case c38 => k_is)
  (case k38 => k_is)
  (case a39 => k_is)
  (case i39 => k_is)
  (case l39 => k_is)
  (case c39 => k_is)
  (case k39 => k_is)
  (case a40 => k_is)
  (case i40 => k_is)
  (case l40 => k_is)
  (case c40 => k_is)
  (case k40 => k_is)
  (case a41 => k_is)
  (case i41 => k_is)
  (case l41 => k_is)
  (case c41 => k_is)
  (case k41 => k_is)
  (case a42 => k_is)
  (case i42 => k_is)
  (case l42 => k_is)
  (case c42 => k_is)
  (case k42 => k_is)
  (case a43 => k_is)
  (case i43 => k_is)
  (case l43 => k_is)
  (case c43 => k_is)
  (case k43 => k_is)
  (case a44 => k_is)
  (case i44 => k_is)
  (case l44 => k_is)
  (case c44 => k_is)
  (case k44 => k_is)
  (case m1 => k_is)
  (case m2 => k_is)
  (case z1 => k_is)
  (case z2 => k_is)
  (case z3 => k_is)
  (case z4 => k_is)
  (case z5 => k_is)
  (case z6 => k_is)
  (case z7 => k_is)
  (case z8 => k_is)
  (case z9 => k_is)
  (case z10 => k_is)
  (case z11 => k_is)
  (case z12 => k_is)
  (case z13 => k_is)
  (case z14 => k_is)
  (case z15 => k_is)
  (case z16 => k_is)
  (case z17 => k_is)
